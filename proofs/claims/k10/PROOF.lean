import PyProof.Rows.All
import Wide.All
import OpenK.AllK
import Wide.FinOn
import PyProof.EqAt
import PyProof.EqKinds
import PyProof.TupleCall
import KE.KMathGC
import HandS.ForMost
import HandS.ForExc
import HandS.Wide
import HandS.Gcd
import HandS.IsInst
import HandS.ExcInit
import HandS.ExcIs
import HandS.ExcField
import HandS.SetFor
import HandS.SetKeys
import HandS.Proxy
import HandS.More
import HandS.HeadHook3
import HandS.Walk
import KE.KExcIs
import HandS.Defaults
import HandS.Evl
import HandS.Property
import HandS.ClsMeth
import HandS.DictComp
import HandS.Style
import HandS.Sort
import HandS.SortRule
import HandS.SortInts
import HandS.Conv
import HandS.WordsDict
import HandS.TupAny
import KE.GoesMore
import HandS.GenList
import PyProof.DictDisplay
import KE.GoesEnum
import HandS.Replace
import KE.KMathGC
import HandS.Gcd
import KE.LtSeq
import KE.GoesRaise
import PySem.Challenge.RW_lastside_k10_cuts
set_option Elab.async false
set_option linter.all false
set_option maxRecDepth 100000
set_option maxHeartbeats 2000000
set_option autoImplicit false
namespace MR
open PySem PySem.Spec PyProof.Rows L2
inductive D where
  | non
  | bl (b : Bool)
  | int (i : Int)
  | str (z : Str)
  | lst (xs : List D)
  | tup (xs : List D)
  | dic (kvs : List (Key × D))
  | obj (n : Str) (fs : List (Str × D))
  | scr (xs : List Int)
  | dit (kvs : List (List Key × D))
  | ktp (xs : List D)
  | ty (n : String)
  | cls (n : Str)
structure Ctx0 where
  K : PySem.W.Frag
  cls : Str → Addr
/-- with what is known of the slot of a caught error -/
structure Ctx where
  b : Ctx0
  X : Option V → Hp → Prop
  mono : ∀ o F F', Same F F' → X o F → X o F'
noncomputable abbrev Ctx.K (c : Ctx) : PySem.W.Frag := c.b.K
noncomputable abbrev Ctx.cls (c : Ctx) : Str → Addr := c.b.cls
noncomputable def Ctx0.top (b : Ctx0) : Ctx := ⟨b, fun _ _ => False, fun _ _ _ _ h => h⟩
mutual
/-- v is d, by what never changes -/
inductive Rep (c : Ctx0) (F : Hp) : V → D → Prop where
  | non : Rep c F .non .non
  | bl (b : Bool) : Rep c F (.bl b) (.bl b)
  | int (i : Int) : Rep c F (.int i) (.int i)
  | str (z : Str) : Rep c F (.str z) (.str z)
  | lst {p : Addr} {vs : List V} {ds : List D} (e : F p = some (.lst vs)) (r : Reps c F vs ds) : Rep c F (.ref p) (.lst ds)
  | tup {p : Addr} {vs : List V} {ds : List D} (e : F p = some (.tup vs)) (r : Reps c F vs ds) : Rep c F (.ref p) (.tup ds)
  | dic {p : Addr} {kvs : List (Key × V)} {ds : List (Key × D)} (e : F p = some (.dK kvs)) (k : kvs.map (·.1) = ds.map (·.1)) (r : Reps c F (kvs.map (·.2)) (ds.map (·.2))) : Rep c F (.ref p) (.dic ds)
  | obj {p dx : Addr} {n : Str} {fs : List (Str × V)} {ds : List (Str × D)} (e : F p = some (.ins (c.cls n) dx fs)) (k : fs.map (·.1) = ds.map (·.1)) (r : Reps c F (fs.map (·.2)) (ds.map (·.2))) : Rep c F (.ref p) (.obj n ds)
  | scr {p : Addr} {xs : List Int} (e : SqL c.K F p (xs.map V.int)) : Rep c F (.ref p) (.scr xs)
  | dit {p : Addr} {kvs : List (List Key × V)} {ds : List (List Key × D)} (e : F p = some (.dT kvs)) (k : kvs.map (·.1) = ds.map (·.1)) (r : Reps c F (kvs.map (·.2)) (ds.map (·.2))) : Rep c F (.ref p) (.dit ds)
  | ktp {p : Addr} {vs : List V} {ds : List D} (e : SqT c.K F p vs) (r : Reps c F vs ds) : Rep c F (.ref p) (.ktp ds)
  | ty (n : String) : Rep c F (.ty n) (.ty n)
  | cls (n : Str) : Rep c F (.ref (c.cls n)) (.cls n)
inductive Reps (c : Ctx0) (F : Hp) : List V → List D → Prop where
  | nil : Reps c F [] []
  | cons {v : V} {d : D} {vs : List V} {ds : List D} (h : Rep c F v d) (t : Reps c F vs ds) : Reps c F (v :: vs) (d :: ds)
end
theorem same_seqT {K : PySem.W.Frag} {a : Addr} {H H1 : Hp} {xs : List V} (b : Same H H1) (h : SqT K H a xs) : SqT K H1 a xs := by
  rcases h with (h | ⟨o, h⟩) | h
  · exact .inl (.inl (b _ _ h))
  · exact .inl (.inr ⟨o, b _ _ h⟩)
  · exact .inr h
section
variable {c : Ctx0} {F F' H H' : Hp}
mutual
theorem Rep.mono (s : Same F F') : ∀ {v : V} {d : D}, Rep c F v d → Rep c F' v d
  | _, _, .non => .non
  | _, _, .bl b => .bl b
  | _, _, .int i => .int i
  | _, _, .str z => .str z
  | _, _, .lst e r => .lst (s _ _ e) (Reps.mono s r)
  | _, _, .tup e r => .tup (s _ _ e) (Reps.mono s r)
  | _, _, .dic e k r => .dic (s _ _ e) k (Reps.mono s r)
  | _, _, .obj e k r => .obj (s _ _ e) k (Reps.mono s r)
  | _, _, .scr e => .scr (s.seq e)
  | _, _, .dit e k r => .dit (s _ _ e) k (Reps.mono s r)
  | _, _, .ktp e r => .ktp (same_seqT s e) (Reps.mono s r)
  | _, _, .ty n => .ty n
  | _, _, .cls n => .cls n
theorem Reps.mono (s : Same F F') : ∀ {vs : List V} {ds : List D}, Reps c F vs ds → Reps c F' vs ds
  | _, _, .nil => .nil
  | _, _, .cons h t => .cons (Rep.mono s h) (Reps.mono s t)
end
theorem Reps.len : ∀ {vs : List V} {ds : List D}, Reps c F vs ds → vs.length = ds.length
  | _, _, .nil => rfl
  | _, _, .cons _ t => congrArg (· + 1) (Reps.len t)
theorem Reps.app : ∀ {vs ws : List V} {ds es : List D}, Reps c F vs ds → Reps c F ws es → Reps c F (vs ++ ws) (ds ++ es)
  | _, _, _, _, .nil, y => y
  | _, _, _, _, .cons h t, y => .cons h (Reps.app t y)
theorem Reps.get : ∀ {vs : List V} {ds : List D}, Reps c F vs ds → ∀ {i : Nat} {d : D}, ds[i]? = some d → ∃ v, vs[i]? = some v ∧ Rep c F v d
  | _, _, .cons h t, 0, d, e => by
    cases e
    exact ⟨_, rfl, h⟩
  | _, _, .cons h t, i + 1, d, e => Reps.get t (i := i) e
  | _, _, .nil, i, d, e => by cases e
theorem Reps.drop {vs : List V} {ds : List D} (h : Reps c F vs ds) : ∀ n, Reps c F (vs.drop n) (ds.drop n) := by
  intro n
  induction n generalizing vs ds with
  | zero => exact h
  | succ n ih =>
    cases h with
    | nil => exact .nil
    | cons h t => exact ih t
theorem Reps.take {vs : List V} {ds : List D} (h : Reps c F vs ds) : ∀ n, Reps c F (vs.take n) (ds.take n) := by
  intro n
  induction n generalizing vs ds with
  | zero => exact .nil
  | succ n ih =>
    cases h with
    | nil => exact .nil
    | cons h t => exact .cons h (ih t)
theorem Reps.set : ∀ {vs : List V} {ds : List D}, Reps c F vs ds → ∀ {i : Nat} {v : V} {d : D}, Rep c F v d → Reps c F (vs.set i v) (ds.set i d)
  | _, _, .nil, _, _, _, _ => .nil
  | _, _, .cons _ t, 0, _, _, r => .cons r t
  | _, _, .cons h t, i + 1, _, _, r => .cons h (Reps.set t (i := i) r)
theorem Reps.rev {vs : List V} {ds : List D} (h : Reps c F vs ds) : Reps c F vs.reverse ds.reverse := by
  induction vs generalizing ds with
  | nil => cases h; exact .nil
  | cons v vs ih =>
    cases h with
    | cons h t =>
      rw [List.reverse_cons, List.reverse_cons]
      exact (ih t).app (.cons h .nil)
theorem Reps.dropLast {vs : List V} {ds : List D} (h : Reps c F vs ds) : Reps c F vs.dropLast ds.dropLast := by
  rw [List.dropLast_eq_take, List.dropLast_eq_take, h.len]
  exact h.take _
theorem Reps.flatRep {vs : List V} {ds : List D} (h : Reps c F vs ds) : ∀ n, Reps c F (List.replicate n vs).flatten (List.replicate n ds).flatten
  | 0 => .nil
  | n + 1 => by
    rw [List.replicate_succ, List.replicate_succ, List.flatten_cons, List.flatten_cons]
    exact h.app (Reps.flatRep h n)
end
/-- what is known of a slot: nothing; a value that never changes; a thing that is mine (pin: it must stay mine; lock: it must not change) -/
inductive Sl where
  | un
  | ex
  | fz (d : D)
  | ow (pin lock : Bool) (d : D)
noncomputable abbrev En := List Sl
structure Wd where
  F : Hp
  H : Hp
  env : En
/-- at p stands d, changeable -/
noncomputable def Own (c : Ctx) (F H : Hp) (p : Addr) : D → Prop
  | .lst ds => ∃ vs, H p = some (.lst vs) ∧ Reps c.b F vs ds
  | .dic ds => ∃ kvs, H p = some (.dK kvs) ∧ kvs.map (·.1) = ds.map (·.1) ∧ Reps c.b F (kvs.map (·.2)) (ds.map (·.2))
  | .dit ds => ∃ kvs, H p = some (.dT kvs) ∧ kvs.map (·.1) = ds.map (·.1) ∧ Reps c.b F (kvs.map (·.2)) (ds.map (·.2))
  | .obj n ds => ∃ dx fs, H p = some (.ins (c.cls n) dx fs) ∧ fs.map (·.1) = ds.map (·.1) ∧ Reps c.b F (fs.map (·.2)) (ds.map (·.2))
  | _ => False
theorem Own.step {c : Ctx} {F F' H H' : Hp} {p : Addr} (s : Same F F') (e : ∀ o, H p = some o → H' p = some o) : ∀ {d : D}, Own c F H p d → Own c F' H' p d
  | .lst _, ⟨vs, h, r⟩ => ⟨vs, e _ h, r.mono s⟩
  | .dic _, ⟨kvs, h, k, r⟩ => ⟨kvs, e _ h, k, r.mono s⟩
  | .obj _ _, ⟨dx, fs, h, k, r⟩ => ⟨dx, fs, e _ h, k, r.mono s⟩
  | .dit _, ⟨kvs, h, k, r⟩ => ⟨kvs, e _ h, k, r.mono s⟩
theorem Own.some {c : Ctx} {F H : Hp} {p : Addr} : ∀ {d : D}, Own c F H p d → ∃ o, H p = Option.some o
  | .lst _, ⟨vs, h, r⟩ => ⟨_, h⟩
  | .dic _, ⟨kvs, h, k, r⟩ => ⟨_, h⟩
  | .obj _ _, ⟨dx, fs, h, k, r⟩ => ⟨_, h⟩
  | .dit _, ⟨kvs, h, k, r⟩ => ⟨_, h⟩
/-- laid among what never changes -/
theorem Own.rep {c : Ctx} {F F' H : Hp} {p : Addr} (s : Same F F') (e : F' p = H p) : ∀ {d : D}, Own c F H p d → Rep c.b F' (.ref p) d
  | .lst _, ⟨vs, h, r⟩ => .lst (e.trans h) (r.mono s)
  | .dic _, ⟨kvs, h, k, r⟩ => .dic (e.trans h) k (r.mono s)
  | .obj _ _, ⟨dx, fs, h, k, r⟩ => .obj (e.trans h) k (r.mono s)
  | .dit _, ⟨kvs, h, k, r⟩ => .dit (e.trans h) k (r.mono s)
noncomputable def SlotR (c : Ctx) (F H : Hp) (o : Option V) : Sl → Prop
  | .un => True
  | .ex => c.X o F
  | .fz d => ∃ v, o = some v ∧ Rep c.b F v d
  | .ow _ _ d => ∃ p, o = some (.ref p) ∧ F p = none ∧ Own c F H p d
structure RelE (c : Ctx) (σ : L2.St) (w : Wd) : Prop where
  len : σ.length = w.env.length
  at_ : ∀ (i : Nat) (s : Sl), w.env[i]? = some s → ∃ o, σ[i]? = some o ∧ SlotR c w.F w.H o s
  ne : ∀ (i j : Nat) (a b : Bool) (d : D) (a' b' : Bool) (d' : D) (p : Addr), w.env[i]? = some (.ow a b d) → w.env[j]? = some (.ow a' b' d') → σ[i]? = some (some (.ref p)) → σ[j]? = some (some (.ref p)) → i = j
  sm : Same w.F w.H
  pl : ∀ (i : Nat) (d : D), w.env[i]? ≠ some (.ow true true d)
/-- p is mine, to be changed -/
noncomputable def Bm (σ : L2.St) (env : En) (p : Addr) : Prop := ∃ (i : Nat) (a : Bool) (d : D), env[i]? = some (.ow a false d) ∧ σ[i]? = some (some (.ref p))
/-- p is mine and not pinned -/
noncomputable def Bu (σ : L2.St) (env : En) (p : Addr) : Prop := ∃ (i : Nat) (b : Bool) (d : D), env[i]? = some (.ow false b d) ∧ σ[i]? = some (some (.ref p))
structure LeS (σ : L2.St) (w : Wd) (σ' : L2.St) (w' : Wd) : Prop where
  ff : Same w.F w'.F
  hh : ∀ (p : Addr) (o : HO), ¬ Bm σ w.env p → w.H p = some o → w'.H p = some o
  fn : ∀ (p : Addr), ¬ Bm σ w.env p → w.H p ≠ none → w'.F p = w.F p
  dom : ∀ (p : Addr), w.H p ≠ none → w'.H p ≠ none
  bb : ∀ (p : Addr), Bm σ' w'.env p → Bm σ w.env p ∨ w.H p = none
  bu : ∀ (p : Addr), Bu σ' w'.env p → Bu σ w.env p ∨ w.H p = none
  pn : ∀ (i : Nat) (a b : Bool) (d : D), w.env[i]? = some (.ow a b d) → (a || b) = true → ∃ d', w'.env[i]? = some (.ow a b d') ∧ σ'[i]? = σ[i]? ∧ (b = true → d' = d)
theorem LeS.refl (σ : L2.St) (w : Wd) : LeS σ w σ w := ⟨Same.refl _, fun _ _ _ h => h, fun _ _ _ => rfl, fun _ h => h, fun _ h => .inl h, fun _ h => .inl h, fun i a b d h _ => ⟨d, h, rfl, fun _ => rfl⟩⟩
theorem LeS.trans {σ σ1 σ2 : L2.St} {w w1 w2 : Wd} (x : LeS σ w σ1 w1) (y : LeS σ1 w1 σ2 w2) : LeS σ w σ2 w2 := by
  have nb : ∀ p, ¬ Bm σ w.env p → w.H p ≠ none → ¬ Bm σ1 w1.env p := fun p n h z => (x.bb p z).elim n h
  refine ⟨x.ff.trans y.ff, fun p o n h => y.hh p o (nb p n (by rw [h]; exact fun z => nomatch z)) (x.hh p o n h), fun p n h => (y.fn p (nb p n h) (x.dom p h)).trans (x.fn p n h), fun p h => y.dom p (x.dom p h), fun p h => ?_, fun p h => ?_, fun i a b d h ab => ?_⟩
  · rcases y.bb p h with z | z
    · exact x.bb p z
    · refine .inr (Classical.byContradiction fun n => x.dom p n z)
  · rcases y.bu p h with z | z
    · exact x.bu p z
    · refine .inr (Classical.byContradiction fun n => x.dom p n z)
  · obtain ⟨d1, h1, e1, q1⟩ := x.pn i a b d h ab
    obtain ⟨d2, h2, e2, q2⟩ := y.pn i a b d1 h1 ab
    exact ⟨d2, h2, e2.trans e1, fun hb => (q2 hb).trans (q1 hb)⟩
theorem LeS.free {σ σ1 : L2.St} {w w1 : Wd} (x : LeS σ w σ1 w1) {p : Addr} (n : w1.H p = none) : w.H p = none := Classical.byContradiction fun h => x.dom p h n
inductive Val where
  | fz (d : D)
  | at (i : Nat)
  | new (d : D)
structure Xn where
  n : Str
  fs : List (Str × D)
inductive R (α : Type) where
  | st
  | ok (a : α) (e : En)
  | er (x : Xn) (e : En)
noncomputable def R.bind {α β : Type} (r : R α) (k : α → En → R β) : R β := match r with
  | .st => .st
  | .ok a e => k a e
  | .er x e => .er x e
noncomputable def VR (c : Ctx) (σ : L2.St) (H0 : Hp) (w : Wd) (v : V) : Val → Prop
  | .fz d => Rep c.b w.F v d
  | .at i => σ[i]? = some (some v)
  | .new d => ∃ p, v = .ref p ∧ H0 p = none ∧ w.F p = none ∧ Own c w.F w.H p d ∧ ∀ (i : Nat) (a b : Bool) (d' : D), w.env[i]? = some (.ow a b d') → σ[i]? ≠ some (some (.ref p))
/-- an error's class and what it bears -/
noncomputable def XR (c : Ctx) (H0 : Hp) (w : Wd) (cls : Value) (d : Option Addr) (x : Xn) : Prop := cls = .ref (c.cls x.n) ∧ ((d = none ∧ x.fs = []) ∨ ∃ a fs, d = some a ∧ H0 a = none ∧ w.F a = none ∧ w.H a = some (.xd fs) ∧ fs.map (·.1) = x.fs.map (·.1) ∧ Reps c.b w.F (fs.map (·.2)) (x.fs.map (·.2)))
section
variable (c : Ctx) (E : Option (L2.St → XK))
/-- what an error wants, from the origin -/
noncomputable def KE (σ : L2.St) (w : Wd) (x : Xn) (e : En) : Prop := match E with
  | none => False
  | some E => ∀ cls d F' H', RelE c σ ⟨F', H', e⟩ → LeS σ w σ ⟨F', H', e⟩ → XR c w.H ⟨F', H', e⟩ cls d x → E σ cls d H'
noncomputable def Cn {α : Type} (σ : L2.St) (w : Wd) (r : R α) (k : α → En → Prop) : Prop := match r with
  | .st => False
  | .ok a e => k a e
  | .er x e => KE c E σ w x e
noncomputable def SimE (t : TE) (m : En → R Val) : Prop := ∀ (σ : L2.St) (w : Wd) (Q : VK), RelE c σ w →
  Cn c E σ w (m w.env) (fun a e => ∀ v F' H', RelE c σ ⟨F', H', e⟩ → LeS σ w σ ⟨F', H', e⟩ → VR c σ w.H ⟨F', H', e⟩ v a → Q v H') → t σ w.H Q
/-- the answer is frozen -/
noncomputable def SimD (t : TE) (m : En → R D) : Prop := ∀ (σ : L2.St) (w : Wd) (Q : VK), RelE c σ w →
  Cn c E σ w (m w.env) (fun a e => ∀ v F' H', RelE c σ ⟨F', H', e⟩ → LeS σ w σ ⟨F', H', e⟩ → Rep c.b F' v a → Q v H') → t σ w.H Q
/-- the answer is looked at: frozen or in a slot -/
noncomputable def SimP (t : TE) (m : En → R Val) : Prop := ∀ (σ : L2.St) (w : Wd) (Q : VK), RelE c σ w →
  Cn c E σ w (m w.env) (fun a e => ∀ v F' H', RelE c σ ⟨F', H', e⟩ → LeS σ w σ ⟨F', H', e⟩ → (∀ d, a ≠ .new d) → VR c σ w.H ⟨F', H', e⟩ v a → Q v H') → t σ w.H Q
noncomputable def SimT (t : TT) (m : En → R Bool) : Prop := ∀ (σ : L2.St) (w : Wd) (Q : Bool → Hp → Prop), RelE c σ w →
  Cn c E σ w (m w.env) (fun a e => ∀ F' H', RelE c σ ⟨F', H', e⟩ → LeS σ w σ ⟨F', H', e⟩ → Q a H') → t σ w.H Q
end
noncomputable def frzAt (i : Nat) (e : En) : Option Sl → R D
  | some (.fz d) => .ok d e
  | some (.ow false false d) => .ok d (e.set i (.fz d))
  | _ => .st
noncomputable def frz : Val → En → R D
  | .fz d, e => .ok d e
  | .new d, e => .ok d e
  | .at i, e => frzAt i e e[i]?
noncomputable def pk : Val → En → R Val
  | .new d, e => .ok (.fz d) e
  | a, e => .ok a e
noncomputable def mD (m : En → R Val) (e : En) : R D := (m e).bind frz
noncomputable def mP (m : En → R Val) (e : En) : R Val := (m e).bind pk
noncomputable def conAt : Option Sl → Option D
  | some (.fz d) => some d
  | some (.ow _ _ d) => some d
  | _ => none
noncomputable def con : Val → En → Option D
  | .fz d, _ => some d
  | .new d, _ => some d
  | .at i, e => conAt e[i]?
/-- what is to be read -/
noncomputable def AcR (c : Ctx) (w : Wd) (v : V) (d : D) : Prop := Rep c.b w.F v d ∨ ∃ p, v = .ref p ∧ Own c w.F w.H p d
section
variable {c : Ctx} {E : Option (L2.St → XK)}
theorem XR.step {σ σ1 : L2.St} {w0 w1 w : Wd} {cls : Value} {d : Option Addr} {x : Xn} (h : XR c w1.H w cls d x) (l : LeS σ w0 σ1 w1) : XR c w0.H w cls d x := by
  obtain ⟨h1, h2⟩ := h
  refine ⟨h1, ?_⟩
  rcases h2 with h2 | ⟨a, fs, y1, y2, y3⟩
  · exact .inl h2
  · exact .inr ⟨a, fs, y1, l.free y2, y3⟩
theorem KE.step {σ : L2.St} {w w1 : Wd} {x : Xn} {e : En} (h : KE c E σ w x e) (l : LeS σ w σ w1) : KE c E σ w1 x e := by
  cases E with
  | none => exact h
  | some E => exact fun cls d F' H' r l1 xr => h cls d F' H' r (l.trans l1) (xr.step l)
/-- the frozen part, with p laid in it -/
noncomputable def lay (F H : Hp) (p : Addr) : Hp := fun q => if q = p then H p else F q
theorem lay_same {F H : Hp} {p : Addr} (n : F p = none) : Same F (lay F H p) := fun q o h => by
  unfold lay
  rw [if_neg (ne_of_none h n)]
  exact h
theorem lay_ne {F H : Hp} {p q : Addr} (n : q ≠ p) : lay F H p q = F q := if_neg n
theorem lay_at {F H : Hp} {p : Addr} : lay F H p p = H p := if_pos rfl
theorem lay_sm {F H : Hp} {p : Addr} (s : Same F H) : Same (lay F H p) H := fun q o h => by
  unfold lay at h
  split at h
  · next e => rw [e]; exact h
  · exact s _ _ h
theorem SlotR.mono {F F' H : Hp} {o : Option V} {s : Sl} (sm : Same F F') (h : SlotR c F H o s) (hn : ∀ p a b d, s = .ow a b d → o = some (.ref p) → F p = none → F' p = none) : SlotR c F' H o s := by
  cases s with
  | un => exact True.intro
  | ex => exact c.mono _ _ _ sm h
  | fz d =>
    obtain ⟨v, e, r⟩ := h
    exact ⟨v, e, r.mono sm⟩
  | ow a b d =>
    obtain ⟨p, e, f, r⟩ := h
    exact ⟨p, e, hn p a b d rfl e f, r.step sm fun _ z => z⟩
theorem frz_ok {σ : L2.St} {w0 w : Wd} {a : Val} {v : V} {d : D} {e : En} (rel : RelE c σ w) (le : LeS σ w0 σ w) (vr : VR c σ w0.H w v a) (h : frz a w.env = .ok d e) :
    ∃ F', RelE c σ ⟨F', w.H, e⟩ ∧ LeS σ w0 σ ⟨F', w.H, e⟩ ∧ Rep c.b F' v d := by
  cases a with
  | fz d' =>
    cases h
    exact ⟨w.F, rel, le, vr⟩
  | new d' =>
    cases h
    obtain ⟨p, rfl, n0, nf, own, ns⟩ := vr
    have sm := lay_same (H := w.H) nf
    refine ⟨lay w.F w.H p, ⟨rel.len, fun i s hs => ?_, rel.ne, lay_sm rel.sm, rel.pl⟩, ⟨le.ff.trans sm, le.hh, fun q nb hq => ?_, le.dom, le.bb, le.bu, le.pn⟩, own.rep sm lay_at⟩
    · obtain ⟨o, h1, h2⟩ := rel.at_ i s hs
      refine ⟨o, h1, h2.mono sm fun q a b d es eo f => ?_⟩
      have : q ≠ p := fun z => by
        subst z es
        rw [eo] at h1
        exact ns i a b d hs h1
      exact (lay_ne this).trans f
    · have : q ≠ p := fun z => hq (by rw [z]; exact n0)
      exact (lay_ne this).trans (le.fn q nb hq)
  | «at» i =>
    have vr : σ[i]? = some (some v) := vr
    have h : frzAt i w.env w.env[i]? = .ok d e := h
    unfold frzAt at h
    split at h
    · next d' hs =>
      cases h
      obtain ⟨o, h1, u, rfl, r⟩ := rel.at_ i _ hs
      rw [vr] at h1
      cases h1
      exact ⟨w.F, rel, le, r⟩
    · next d' hs =>
      cases h
      obtain ⟨o, h1, p, rfl, nf, own⟩ := rel.at_ i _ hs
      rw [vr] at h1
      cases h1
      have sm := lay_same (H := w.H) nf
      have il : i < w.env.length := (List.getElem?_eq_some_iff.mp hs).1
      have get : ∀ (j : Nat) (s : Sl), (w.env.set i (.fz d))[j]? = some s → (j = i ∧ s = .fz d) ∨ (j ≠ i ∧ w.env[j]? = some s) := fun j s hj => by
        by_cases z : j = i
        · subst z
          rw [List.getElem?_set_self il] at hj
          cases hj
          exact .inl ⟨rfl, rfl⟩
        · rw [List.getElem?_set_ne (Ne.symm z)] at hj
          exact .inr ⟨z, hj⟩
      have gow : ∀ (j : Nat) (a b : Bool) (d' : D), (w.env.set i (.fz d))[j]? = some (.ow a b d') → w.env[j]? = some (.ow a b d') := fun j a b d' hj => by
        rcases get j _ hj with ⟨_, z⟩ | ⟨_, z⟩
        · cases z
        · exact z
      have bm : ∀ q, Bm σ (w.env.set i (.fz d)) q → Bm σ w.env q := fun q ⟨j, a, d', hj, hq⟩ => ⟨j, a, d', gow j a false d' hj, hq⟩
      have bp : Bm σ w.env p := ⟨i, false, d, hs, vr⟩
      have R : Rep c.b (lay w.F w.H p) (.ref p) d := own.rep sm lay_at
      refine ⟨lay w.F w.H p, ⟨?_, fun j s hj => ?_, fun j k a b d1 a' b' d2 q h1 h2 => rel.ne j k a b d1 a' b' d2 q (gow _ _ _ _ h1) (gow _ _ _ _ h2), lay_sm rel.sm, fun j d' z => rel.pl j d' (gow _ _ _ _ z)⟩, le.trans ⟨sm, fun _ _ _ z => z, fun q nb _ => ?_, fun _ z => z, fun q z => .inl (bm q z), fun q ⟨j, b, d', hj, hq⟩ => .inl ⟨j, b, d', gow j false b d' hj, hq⟩, fun j a b d' hj ab => ?_⟩, R⟩
      · show σ.length = (w.env.set i _).length
        rw [List.length_set]
        exact rel.len
      · rcases get j s hj with ⟨rfl, rfl⟩ | ⟨hne, hj2⟩
        · exact ⟨_, vr, _, rfl, R⟩
        · obtain ⟨o, h1, h2⟩ := rel.at_ j s hj2
          refine ⟨o, h1, h2.mono sm fun q a b d' es eo f => ?_⟩
          have : q ≠ p := fun z => by
            subst z es
            rw [eo] at h1
            exact hne (rel.ne j i _ _ _ _ _ _ _ hj2 hs h1 vr)
          exact (lay_ne this).trans f
      · exact lay_ne fun z => nb (by rw [z]; exact bp)
      · refine ⟨d', ?_, rfl, fun _ => rfl⟩
        have : j ≠ i := fun z => by
          subst z
          rw [hs] at hj
          cases hj
          cases ab
        show (w.env.set i _)[j]? = _
        rw [List.getElem?_set_ne (Ne.symm this)]
        exact hj
    · cases h
theorem frz_er {a : Val} {e : En} {x : Xn} {e' : En} (h : frz a e = .er x e') : False := by
  cases a with
  | fz d => cases h
  | new d => cases h
  | «at» i =>
    have h : frzAt i e e[i]? = .er x e' := h
    unfold frzAt at h
    split at h <;> cases h
/-- from an answer to a frozen one -/
theorem SimE.d {t : TE} {m : En → R Val} (h : SimE c E t m) : SimD c E t (mD m) := by
  intro σ w Q rel q
  refine h σ w Q rel ?_
  unfold mD at q
  cases hm : m w.env with
  | st => rw [hm] at q; exact q
  | er x e => rw [hm] at q; exact q
  | ok a e =>
    rw [hm] at q
    intro v F' H' r l vr
    have q : Cn c E σ w (frz a e) _ := q
    cases hf : frz a e with
    | st => rw [hf] at q; exact q.elim
    | er x e' => exact (frz_er hf).elim
    | ok d e' =>
      rw [hf] at q
      obtain ⟨F2, r2, l2, rp⟩ := frz_ok r l vr hf
      exact q v F2 H' r2 l2 rp
theorem SimE.p {t : TE} {m : En → R Val} (h : SimE c E t m) : SimP c E t (mP m) := by
  intro σ w Q rel q
  refine h σ w Q rel ?_
  unfold mP at q
  cases hm : m w.env with
  | st => rw [hm] at q; exact q
  | er x e => rw [hm] at q; exact q
  | ok a e =>
    rw [hm] at q
    intro v F' H' r l vr
    cases a with
    | fz d => exact q v F' H' r l (fun _ z => nomatch z) vr
    | «at» i => exact q v F' H' r l (fun _ z => nomatch z) vr
    | new d =>
      obtain ⟨F2, r2, l2, rp⟩ := frz_ok (d := d) (e := e) r l vr rfl
      exact q v F2 H' r2 l2 (fun _ z => nomatch z) rp
theorem con_ok {σ : L2.St} {H0 : Hp} {w : Wd} {a : Val} {v : V} {d : D} (rel : RelE c σ w) (na : ∀ d, a ≠ .new d) (vr : VR c σ H0 w v a) (h : con a w.env = some d) : AcR c w v d := by
  cases a with
  | fz d' =>
    cases h
    exact .inl vr
  | new d' => exact absurd rfl (na d')
  | «at» i =>
    have vr : σ[i]? = some (some v) := vr
    have h : conAt w.env[i]? = some d := h
    unfold conAt at h
    split at h
    · next d' hs =>
      cases h
      obtain ⟨o, h1, u, rfl, r⟩ := rel.at_ i _ hs
      rw [vr] at h1
      cases h1
      exact .inl r
    · next a b d' hs =>
      cases h
      obtain ⟨o, h1, p, rfl, nf, own⟩ := rel.at_ i _ hs
      rw [vr] at h1
      cases h1
      exact .inr ⟨p, rfl, own⟩
    · cases h
/-- later, an answer that is looked at still holds -/
theorem VR.later {σ : L2.St} {H0 H1 : Hp} {w w' : Wd} {a : Val} {v : V} (na : ∀ d, a ≠ .new d) (l : LeS σ w σ w') (vr : VR c σ H0 w v a) : VR c σ H1 w' v a := by
  cases a with
  | fz d => exact Rep.mono l.ff vr
  | «at» i => exact vr
  | new d => exact absurd rfl (na d)
end
end MR
set_option autoImplicit false
namespace MR
open PySem PySem.Spec PyProof.Rows L2
noncomputable def Out (c : Ctx) (σ : L2.St) (w : Wd) (a : Val) (Q : VK) : Prop := ∀ v F' H', RelE c σ ⟨F', H', w.env⟩ → LeS σ w σ ⟨F', H', w.env⟩ → VR c σ w.H ⟨F', H', w.env⟩ v a → Q v H'
section
variable {c : Ctx} {E : Option (L2.St → XK)} {σ : L2.St} {w w0 : Wd} {Q : VK} {v x y : V}
theorem same_new {H : Hp} {p : Addr} {o : HO} (n : H p = none) : Same H (upd H p o) := fun _ _ e => (upd_ne (ne_of_none e n)).trans e
theorem RelE.alloc {F' H' : Hp} (r : RelE c σ w) (hh : ∀ q o, w.H q = some o → H' q = some o) (ff : Same w.F F') (fn : ∀ q, w.H q ≠ none → F' q = w.F q) (sm : Same F' H') : RelE c σ ⟨F', H', w.env⟩ := by
  refine ⟨r.len, fun i s hs => ?_, r.ne, sm, r.pl⟩
  obtain ⟨o, h1, h2⟩ := r.at_ i s hs
  refine ⟨o, h1, ?_⟩
  cases s with
  | un => exact True.intro
  | ex => exact c.mono _ _ _ ff h2
  | fz d =>
    obtain ⟨v, e, r⟩ := h2
    exact ⟨v, e, r.mono ff⟩
  | ow a b d =>
    obtain ⟨p, e, f, own⟩ := h2
    obtain ⟨u, hu⟩ := own.some
    exact ⟨p, e, (fn p (by rw [hu]; exact fun z => nomatch z)).trans f, own.step ff (hh p)⟩
theorem LeS.alloc {F' H' : Hp} (hh : ∀ q o, w.H q = some o → H' q = some o) (ff : Same w.F F') (fn : ∀ q, w.H q ≠ none → F' q = w.F q) : LeS σ w σ ⟨F', H', w.env⟩ :=
  ⟨ff, fun q o _ h => hh q o h, fun q _ h => fn q h, fun q h z => (by
    cases e : w.H q with
    | none => exact h e
    | some o =>
      have z : H' q = none := z
      rw [hh q o e] at z
      cases z), fun _ h => .inl h, fun _ h => .inl h, fun i a b d h _ => ⟨d, h, rfl, fun _ => rfl⟩⟩
theorem allocN {p : Addr} {o : HO} (r : RelE c σ w) (n : w.H p = none) : RelE c σ ⟨w.F, upd w.H p o, w.env⟩ ∧ LeS σ w σ ⟨w.F, upd w.H p o, w.env⟩ :=
  ⟨r.alloc (fun q o => same_new n q o) (Same.refl _) (fun _ _ => rfl) (r.sm.trans (same_new n)), .alloc (fun q o => same_new n q o) (Same.refl _) fun _ _ => rfl⟩
theorem allocF {p : Addr} {o : HO} (r : RelE c σ w) (n : w.H p = none) : RelE c σ ⟨upd w.F p o, upd w.H p o, w.env⟩ ∧ LeS σ w σ ⟨upd w.F p o, upd w.H p o, w.env⟩ := by
  have nf := r.sm.free n
  have fn : ∀ q, w.H q ≠ none → upd w.F p o q = w.F q := fun q h => upd_ne fun z => h (by rw [z]; exact n)
  refine ⟨r.alloc (fun q o => same_new n q o) (same_new nf) fn fun q u h => ?_, .alloc (fun q o => same_new n q o) (same_new nf) fn⟩
  by_cases z : q = p
  · rw [z, upd_same] at h
    rw [z, upd_same]
    exact h
  · rw [upd_ne z] at h ⊢
    exact r.sm _ _ h
theorem Out.fz {d : D} (o : Out c σ w (.fz d) Q) (r : RelE c σ w) (h : Rep c.b w.F v d) : Q v w.H := o v w.F w.H r (LeS.refl σ w) h
theorem Out.newL {ds : List D} {vs : List V} {p : Addr} (o : Out c σ w (.new (.lst ds)) Q) (r : RelE c σ w) (h : Reps c.b w.F vs ds) (n : w.H p = none) : Q (.ref p) (upd w.H p (.lst vs)) := by
  obtain ⟨r1, l1⟩ := allocN (o := .lst vs) r n
  exact o _ _ _ r1 l1 ⟨p, rfl, n, r.sm.free n, ⟨vs, upd_same, h⟩, fun i a b d hi e => by
    obtain ⟨u, h1, q, e1, f, own⟩ := r.at_ i _ hi
    rw [e] at h1
    cases h1
    cases e1
    obtain ⟨z, hz⟩ := own.some
    rw [n] at hz
    cases hz⟩
theorem Out.newT {ds : List D} {vs : List V} {p : Addr} (o : Out c σ w (.fz (.tup ds)) Q) (r : RelE c σ w) (h : Reps c.b w.F vs ds) (n : w.H p = none) : Q (.ref p) (upd w.H p (.tup vs)) := by
  obtain ⟨r1, l1⟩ := allocF (o := .tup vs) r n
  exact o _ _ _ r1 l1 (.tup upd_same (h.mono l1.ff))
theorem Cn.step {α : Type} {w1 : Wd} {r : R α} {k k' : α → En → Prop} (h : Cn c E σ w r k) (l : LeS σ w σ w1) (f : ∀ a e, k a e → k' a e) : Cn c E σ w1 r k' := by
  cases r with
  | st => exact h
  | ok a e => exact f a e h
  | er x e => exact KE.step h l
theorem SimE.to {t : TE} {m : En → R Val} {β : Type} {k : Val → En → R β} {K : β → En → Prop} {w1 : Wd} (h : SimE c E t m) (rel : RelE c σ w1) (l : LeS σ w σ w1) (q : Cn c E σ w ((m w1.env).bind k) K)
    (hk : ∀ a w2 v, RelE c σ w2 → LeS σ w1 σ w2 → VR c σ w1.H w2 v a → Cn c E σ w (k a w2.env) K → Q v w2.H) : t σ w1.H Q := by
  refine h σ w1 Q rel ?_
  cases hm : m w1.env with
  | st => rw [hm] at q; exact q
  | er x e => rw [hm] at q; exact KE.step q l
  | ok a e =>
    rw [hm] at q
    exact fun v F' H' r l1 vr => hk a ⟨F', H', e⟩ v r l1 vr q
theorem SimD.to {t : TE} {m : En → R D} {β : Type} {k : D → En → R β} {K : β → En → Prop} {w1 : Wd} (h : SimD c E t m) (rel : RelE c σ w1) (l : LeS σ w σ w1) (q : Cn c E σ w ((m w1.env).bind k) K)
    (hk : ∀ a w2 v, RelE c σ w2 → LeS σ w1 σ w2 → Rep c.b w2.F v a → Cn c E σ w (k a w2.env) K → Q v w2.H) : t σ w1.H Q := by
  refine h σ w1 Q rel ?_
  cases hm : m w1.env with
  | st => rw [hm] at q; exact q
  | er x e => rw [hm] at q; exact KE.step q l
  | ok a e =>
    rw [hm] at q
    exact fun v F' H' r l1 vr => hk a ⟨F', H', e⟩ v r l1 vr q
theorem SimP.to {t : TE} {m : En → R Val} {β : Type} {k : Val → En → R β} {K : β → En → Prop} {w1 : Wd} (h : SimP c E t m) (rel : RelE c σ w1) (l : LeS σ w σ w1) (q : Cn c E σ w ((m w1.env).bind k) K)
    (hk : ∀ a w2 v, RelE c σ w2 → LeS σ w1 σ w2 → (∀ d, a ≠ .new d) → VR c σ w1.H w2 v a → Cn c E σ w (k a w2.env) K → Q v w2.H) : t σ w1.H Q := by
  refine h σ w1 Q rel ?_
  cases hm : m w1.env with
  | st => rw [hm] at q; exact q
  | er x e => rw [hm] at q; exact KE.step q l
  | ok a e =>
    rw [hm] at q
    exact fun v F' H' r l1 na vr => hk a ⟨F', H', e⟩ v r l1 na vr q
theorem SimT.to {t : TT} {m : En → R Bool} {β : Type} {k : Bool → En → R β} {K : β → En → Prop} {w1 : Wd} {Q : Bool → Hp → Prop} (h : SimT c E t m) (rel : RelE c σ w1) (l : LeS σ w σ w1) (q : Cn c E σ w ((m w1.env).bind k) K)
    (hk : ∀ a w2, RelE c σ w2 → LeS σ w1 σ w2 → Cn c E σ w (k a w2.env) K → Q a w2.H) : t σ w1.H Q := by
  refine h σ w1 Q rel ?_
  cases hm : m w1.env with
  | st => rw [hm] at q; exact q
  | er x e => rw [hm] at q; exact KE.step q l
  | ok a e =>
    rw [hm] at q
    exact fun F' H' r l1 => hk a ⟨F', H', e⟩ r l1 q
end
/-- an answer if there is one -/
noncomputable def R.of {α : Type} (o : Option α) (e : En) : R α := match o with
  | some a => .ok a e
  | none => .st
section
variable {c : Ctx} {E : Option (L2.St → XK)} {σ : L2.St} {w w0 : Wd} {Q : VK} {v x y : V}
/-- the end of an expression -/
noncomputable abbrev KV (c : Ctx) (σ : L2.St) (w : Wd) (Q : VK) : Val → En → Prop := fun a e => ∀ v F' H', RelE c σ ⟨F', H', e⟩ → LeS σ w σ ⟨F', H', e⟩ → VR c σ w.H ⟨F', H', e⟩ v a → Q v H'
theorem Out.at {a : Val} {w1 : Wd} (q : KV c σ w Q a w1.env) (l : LeS σ w σ w1) : Out c σ w1 a Q := by
  intro v F' H' r l1 vr
  refine q v F' H' r (l.trans l1) ?_
  cases a with
  | fz d => exact vr
  | «at» i => exact vr
  | new d =>
    obtain ⟨p, e, n, f, own, ns⟩ := vr
    exact ⟨p, e, l.free n, f, own, ns⟩
theorem Cn.of {α : Type} {o : Option α} {e : En} {K : α → En → Prop} (q : Cn c E σ w (R.of o e) K) : ∃ a, o = some a ∧ K a e := by
  cases o with
  | none => exact q.elim
  | some a => exact ⟨a, rfl, q⟩
end
noncomputable def varAt (i : Nat) (e : En) : Option Sl → R Val
  | some (.fz d) => .ok (.fz d) e
  | some (.ow _ _ _) => .ok (.at i) e
  | _ => .st
noncomputable def mVar (i : Nat) (e : En) : R Val := varAt i e e[i]?
noncomputable def mC (d : D) (e : En) : R Val := .ok (.fz d) e
section
variable {c : Ctx} {E : Option (L2.St → XK)} {σ : L2.St} {w w0 : Wd} {Q : VK} {v x y : V} {t ta tb : TE} {m ma mb : En → R Val}
theorem s_var (i : Nat) : SimE c E (tVar i) (mVar i) := by
  intro σ w Q rel q
  have q : Cn c E σ w (varAt i w.env w.env[i]?) _ := q
  cases hs : w.env[i]? with
  | none => rw [hs] at q; exact q.elim
  | some s =>
    rw [hs] at q
    obtain ⟨o, h1, h2⟩ := rel.at_ i s hs
    cases s with
    | un => exact q.elim
    | ex => exact q.elim
    | fz d =>
      obtain ⟨v, rfl, r⟩ := h2
      exact ⟨v, h1, q v w.F w.H rel (LeS.refl σ w) r⟩
    | ow a b d =>
      obtain ⟨p, rfl, _⟩ := h2
      exact ⟨_, h1, q _ w.F w.H rel (LeS.refl σ w) h1⟩
theorem s_c {d : D} (h : ∀ F, Rep c.b F v d) : SimE c E (tC v) (mC d) := fun σ w Q rel q => q v w.F w.H rel (LeS.refl σ w) (h _)
theorem s_int (i : Int) : SimE c E (tC (.int i)) (mC (.int i)) := s_c fun _ => .int i
theorem s_bl (b : Bool) : SimE c E (tC (.bl b)) (mC (.bl b)) := s_c fun _ => .bl b
theorem s_str (z : Str) : SimE c E (tC (.str z)) (mC (.str z)) := s_c fun _ => .str z
theorem s_non : SimE c E (tC .non) (mC .non) := s_c fun _ => .non
noncomputable def OpS (c : Ctx) (r : R2) (f : D → D → Option Val) : Prop := ∀ (σ : L2.St) (w : Wd) (x y : V) (a b : D) (res : Val) (Q : VK), RelE c σ w → AcR c w x a → AcR c w y b → f a b = some res → Out c σ w res Q → r x y w.H Q
noncomputable def UnS (c : Ctx) (r : V → Hp → VK → Prop) (f : D → Option Val) : Prop := ∀ (σ : L2.St) (w : Wd) (x : V) (a : D) (res : Val) (Q : VK), RelE c σ w → AcR c w x a → f a = some res → Out c σ w res Q → r x w.H Q
noncomputable def mOp (f : D → D → Option Val) (ma mb : En → R Val) (e : En) : R Val := (mP ma e).bind fun a e1 => (mP mb e1).bind fun b e2 => R.of ((con a e2).bind fun x => (con b e2).bind fun y => f x y) e2
noncomputable def mUn (f : D → Option Val) (ma : En → R Val) (e : En) : R Val := (mP ma e).bind fun a e1 => R.of ((con a e1).bind f) e1
theorem obn {α β : Type} {a : Option α} {k : α → Option β} {r : β} (h : a.bind k = some r) : ∃ x, a = some x ∧ k x = some r := by
  cases a with
  | none => cases h
  | some x => exact ⟨x, rfl, h⟩
theorem s_op {r : R2} {f : D → D → Option Val} (h : OpS c r f) (ha : SimE c E ta ma) (hb : SimE c E tb mb) : SimE c E (tOp r ta tb) (mOp f ma mb) := by
  intro σ w Q rel q
  refine ha.p.to rel (LeS.refl σ w) q fun a w1 x r1 l1 na v1 q1 => ?_
  refine hb.p.to r1 l1 q1 fun b w2 y r2 l2 nb v2 q2 => ?_
  obtain ⟨res, e, k⟩ := Cn.of q2
  obtain ⟨da, ea, e⟩ := obn e
  obtain ⟨db, eb, e⟩ := obn e
  exact h σ w2 x y da db res Q r2 (con_ok (H0 := w2.H) r2 na (v1.later na l2) ea) (con_ok r2 nb v2 eb) e (Out.at k (l1.trans l2))
theorem s_un {r : V → Hp → VK → Prop} {f : D → Option Val} (h : UnS c r f) (ha : SimE c E ta ma) : SimE c E (tUn r ta) (mUn f ma) := by
  intro σ w Q rel q
  refine ha.p.to rel (LeS.refl σ w) q fun a w1 x r1 l1 na v1 q1 => ?_
  obtain ⟨res, e, k⟩ := Cn.of q1
  obtain ⟨da, ea, e⟩ := obn e
  exact h σ w1 x da res Q r1 (con_ok r1 na v1 ea) e (Out.at k l1)
noncomputable def orO {α : Type} (a b : Option α) : Option α := match a with
  | some r => some r
  | none => b
theorem OpS.or {r r' : R2} {f f' : D → D → Option Val} (h : OpS c r f) (h' : OpS c r' f') : OpS c (fun x y H Q => r x y H Q ∨ r' x y H Q) (fun a b => orO (f a b) (f' a b)) := by
  intro σ w x y a b res Q rel ax ay e o
  have e : orO (f a b) (f' a b) = some res := e
  cases hf : f a b with
  | some z =>
    rw [hf] at e
    exact .inl (h σ w x y a b res Q rel ax ay (hf.trans e) o)
  | none =>
    rw [hf] at e
    exact .inr (h' σ w x y a b res Q rel ax ay e o)
/-- readings side by side -/
theorem pe_or2 {X : Cx} {e : Expr} {t t' : TE} (h : PE X e t) (h' : PE X e t') : PE X e (fun σ H Q => t σ H Q ∨ t' σ H Q) := ⟨fun pins s σ H Q I q => q.elim (h.run pins s σ H Q I) (h'.run pins s σ H Q I)⟩
noncomputable def mOr2 (m m' : En → R Val) (e : En) : R Val := match m e with
  | .st => m' e
  | r => r
theorem s_or2 {t' : TE} {m' : En → R Val} (h : SimE c E t m) (h' : SimE c E t' m') : SimE c E (fun σ H Q => t σ H Q ∨ t' σ H Q) (mOr2 m m') := by
  intro σ w Q rel q
  unfold mOr2 at q
  cases hm : m w.env with
  | st =>
    rw [hm] at q
    exact .inr (h' σ w Q rel q)
  | ok a e =>
    rw [hm] at q
    exact .inl (h σ w Q rel (by rw [hm]; exact q))
  | er x e =>
    rw [hm] at q
    exact .inl (h σ w Q rel (by rw [hm]; exact q))
theorem ac_int {i : Int} (h : AcR c w v (.int i)) : v = .int i := by
  rcases h with h | ⟨p, _, h⟩
  · cases h; rfl
  · exact h.elim
theorem ac_bl {i : Bool} (h : AcR c w v (.bl i)) : v = .bl i := by
  rcases h with h | ⟨p, _, h⟩
  · cases h; rfl
  · exact h.elim
theorem ac_str {i : Str} (h : AcR c w v (.str i)) : v = .str i := by
  rcases h with h | ⟨p, _, h⟩
  · cases h; rfl
  · exact h.elim
theorem ac_non (h : AcR c w v .non) : v = .non := by
  rcases h with h | ⟨p, _, h⟩
  · cases h; rfl
  · exact h.elim
theorem ac_lst {ds : List D} (rel : RelE c σ w) (h : AcR c w v (.lst ds)) : ∃ p vs, v = .ref p ∧ w.H p = some (.lst vs) ∧ Reps c.b w.F vs ds := by
  rcases h with h | ⟨p, e, vs, h, r⟩
  · cases h with
    | lst e r => exact ⟨_, _, rfl, rel.sm _ _ e, r⟩
  · exact ⟨p, vs, e, h, r⟩
theorem ac_tup {ds : List D} (rel : RelE c σ w) (h : AcR c w v (.tup ds)) : ∃ p vs, v = .ref p ∧ w.H p = some (.tup vs) ∧ Reps c.b w.F vs ds := by
  rcases h with h | ⟨p, e, h⟩
  · cases h with
    | tup e r => exact ⟨_, _, rfl, rel.sm _ _ e, r⟩
  · exact h.elim
theorem ac_ktp {ds : List D} (rel : RelE c σ w) (h : AcR c w v (.ktp ds)) : ∃ p vs, v = .ref p ∧ SqT c.K w.H p vs ∧ Reps c.b w.F vs ds := by
  rcases h with h | ⟨p, e, h⟩
  · cases h with
    | ktp e r => exact ⟨_, _, rfl, same_seqT rel.sm e, r⟩
  · exact h.elim
theorem ac_dit {ds : List (List Key × D)} (rel : RelE c σ w) (h : AcR c w v (.dit ds)) : ∃ p kvs, v = .ref p ∧ w.H p = some (.dT kvs) ∧ kvs.map (·.1) = ds.map (·.1) ∧ Reps c.b w.F (kvs.map (·.2)) (ds.map (·.2)) := by
  rcases h with h | ⟨p, e, kvs, h, k, r⟩
  · cases h with
    | dit e k r => exact ⟨_, _, rfl, rel.sm _ _ e, k, r⟩
  · exact ⟨p, kvs, e, h, k, r⟩
theorem ac_ty {n : String} (h : AcR c w v (.ty n)) : v = .ty n := by
  rcases h with h | ⟨p, _, h⟩
  · cases h; rfl
  · exact h.elim
theorem ac_scr {ns : List Int} (rel : RelE c σ w) (h : AcR c w v (.scr ns)) : ∃ p, v = .ref p ∧ SqL c.K w.H p (ns.map V.int) := by
  rcases h with h | ⟨p, e, h⟩
  · cases h with
    | scr e => exact ⟨_, rfl, rel.sm.seq e⟩
  · exact h.elim
theorem ac_dic {ds : List (Key × D)} (rel : RelE c σ w) (h : AcR c w v (.dic ds)) : ∃ p kvs, v = .ref p ∧ w.H p = some (.dK kvs) ∧ kvs.map (·.1) = ds.map (·.1) ∧ Reps c.b w.F (kvs.map (·.2)) (ds.map (·.2)) := by
  rcases h with h | ⟨p, e, kvs, h, k, r⟩
  · cases h with
    | dic e k r => exact ⟨_, _, rfl, rel.sm _ _ e, k, r⟩
  · exact ⟨p, kvs, e, h, k, r⟩
end
end MR
set_option autoImplicit false
namespace MR
open PySem PySem.Spec PyProof.Rows L2
theorem SqT.tup {K : PySem.W.Frag} {H : Hp} {a : Addr} {xs : List V} (e : H a = some (.tup xs)) : SqT K H a xs := .inl (.inl e)
noncomputable def iOp (f : Int → Int → Option Val) : D → D → Option Val
  | .int i, .int j => f i j
  | _, _ => none
noncomputable def fAdd : D → D → Option Val := iOp fun i j => some (.fz (.int (i + j)))
noncomputable def fSub : D → D → Option Val := iOp fun i j => some (.fz (.int (i - j)))
noncomputable def gdO {α : Type} (p : Prop) [Decidable p] (a : α) : Option α := if p then some a else none
theorem gdO_ok {α : Type} {p : Prop} [Decidable p] {a b : α} (h : gdO p a = some b) : p ∧ a = b := by
  unfold gdO at h
  split at h
  · next hp => exact ⟨hp, Option.some.inj h⟩
  · cases h
/-- sizes that are surely small enough, told by bounds that compute -/
noncomputable def fMul : D → D → Option Val := iOp fun i j => gdO (i.natAbs.log2 + j.natAbs.log2 < 1000000) (.fz (.int (i * j)))
noncomputable def fDiv : D → D → Option Val := iOp fun i j => gdO (0 < j ∧ j.natAbs.log2 < 9000) (.fz (.int (i / j)))
noncomputable def fMod : D → D → Option Val := iOp fun i j => gdO (0 < j) (.fz (.int (i % j)))
noncomputable def fPow : D → D → Option Val := iOp fun i j => gdO (0 ≤ j ∧ j ≤ 1000000 ∧ i.natAbs < 2 ^ 64) (.fz (.int (i ^ j.toNat)))
section
variable {c : Ctx}
theorem iOp_ok {f : Int → Int → Option Val} {a b : D} {r : Val} (h : iOp f a b = some r) : ∃ i j, a = .int i ∧ b = .int j ∧ f i j = some r := by
  unfold iOp at h
  split at h
  · next i j => exact ⟨i, j, rfl, rfl, h⟩
  · cases h
theorem o_i0 {g : Int → Int → V} {f : Int → Int → D} (hg : ∀ F i j, Rep c.b F (g i j) (f i j)) : OpS c (rI0 g) (iOp fun i j => some (.fz (f i j))) := by
  intro σ w x y a b res Q rel ax ay e o
  obtain ⟨i, j, rfl, rfl, e⟩ := iOp_ok e
  cases e
  exact ⟨i, j, ac_int ax, ac_int ay, o.fz rel (hg _ i j)⟩
theorem o_iC {C : Int → Int → Prop} {p : Int → Int → Prop} [hd : ∀ i j, Decidable (p i j)] {g : Int → Int → V} {f : Int → Int → D} (hg : ∀ F i j, Rep c.b F (g i j) (f i j)) (hC : ∀ i j, p i j → C i j) : OpS c (rI C g) (iOp fun i j => gdO (p i j) (.fz (f i j))) := by
  intro σ w x y a b res Q rel ax ay e o
  obtain ⟨i, j, rfl, rfl, e⟩ := iOp_ok e
  obtain ⟨hp, rfl⟩ := gdO_ok e
  exact ⟨i, j, ac_int ax, ac_int ay, hC i j hp, o.fz rel (hg _ i j)⟩
theorem o_add : OpS c (rI0 fun i j => .int (i + j)) fAdd := o_i0 fun _ i j => .int (i + j)
theorem o_sub : OpS c (rI0 fun i j => .int (i - j)) fSub := o_i0 fun _ i j => .int (i - j)
theorem o_mul : OpS c (rI CMulW fun i j => .int (i * j)) fMul := o_iC (fun _ i j => .int (i * j)) fun _ _ h => h
theorem o_div : OpS c (rI CDivW fun i j => .int (i / j)) fDiv := o_iC (fun _ i j => .int (i / j)) fun _ _ h => h
theorem o_mod : OpS c (rI (fun _ j => 0 < j) fun i j => .int (i % j)) fMod := o_iC (fun _ i j => .int (i % j)) fun _ _ h => h
theorem o_pow : OpS c (rI CPow fun i j => .int (i ^ j.toNat)) fPow := o_iC (fun _ i j => .int (i ^ j.toNat)) fun _ _ h => h
noncomputable def bB (b : Bool) : Option Val := some (.fz (.bl b))
theorem o_ib {g : Int → Int → Bool} : OpS c (rI0 fun i j => .bl (g i j)) (iOp fun i j => bB (g i j)) := o_i0 fun _ i j => .bl (g i j)
noncomputable def fLt : D → D → Option Val := iOp fun i j => bB (decide (i < j))
noncomputable def fLe : D → D → Option Val := iOp fun i j => bB (decide (i ≤ j))
noncomputable def fGt : D → D → Option Val := iOp fun i j => bB (decide (j < i))
noncomputable def fGe : D → D → Option Val := iOp fun i j => bB (decide (j ≤ i))
theorem o_lt : OpS c (rI0 fun i j => .bl (decide (i < j))) fLt := o_ib
theorem o_le : OpS c (rI0 fun i j => .bl (decide (i ≤ j))) fLe := o_ib
theorem o_gt : OpS c (rI0 fun i j => .bl (decide (j < i))) fGt := o_ib
theorem o_ge : OpS c (rI0 fun i j => .bl (decide (j ≤ i))) fGe := o_ib
noncomputable def fNeg : D → Option Val
  | .int i => some (.fz (.int (-i)))
  | _ => none
theorem u_neg : UnS c (rU fun i => .int (-i)) fNeg := by
  intro σ w x a res Q rel ax e o
  cases a with
  | int i =>
    cases e
    exact ⟨i, ac_int ax, o.fz rel (.int (-i))⟩
  | _ => cases e
noncomputable def sOp (f : Str → Str → Option Val) : D → D → Option Val
  | .str i, .str j => f i j
  | _, _ => none
theorem sOp_ok {f : Str → Str → Option Val} {a b : D} {r : Val} (h : sOp f a b = some r) : ∃ i j, a = .str i ∧ b = .str j ∧ f i j = some r := by
  unfold sOp at h
  split at h
  · next i j => exact ⟨i, j, rfl, rfl, h⟩
  · cases h
noncomputable def fAddS : D → D → Option Val := sOp fun i j => gdO (i.length + j.length ≤ sizeLine) (.fz (.str (i ++ j)))
theorem o_addS : OpS c (fun x y H Q => ∃ i j, x = .str i ∧ y = .str j ∧ i.length + j.length ≤ sizeLine ∧ Q (.str (i ++ j)) H) fAddS := by
  intro σ w x y a b res Q rel ax ay e o
  obtain ⟨i, j, rfl, rfl, e⟩ := sOp_ok e
  obtain ⟨hp, rfl⟩ := gdO_ok e
  exact ⟨i, j, ac_str ax, ac_str ay, hp, o.fz rel (.str _)⟩
theorem o_sb {g : Str → Str → Bool} : OpS c (fun x y H Q => ∃ i j, x = .str i ∧ y = .str j ∧ Q (.bl (g i j)) H) (sOp fun i j => bB (g i j)) := by
  intro σ w x y a b res Q rel ax ay e o
  obtain ⟨i, j, rfl, rfl, e⟩ := sOp_ok e
  cases e
  exact ⟨i, j, ac_str ax, ac_str ay, o.fz rel (.bl _)⟩
noncomputable def fLtS : D → D → Option Val := sOp fun i j => bB (decide (i.cps.toList < j.cps.toList))
theorem o_ltS : OpS c (fun x y H Q => ∃ i j, x = .str i ∧ y = .str j ∧ Q (.bl (decide (i.cps.toList < j.cps.toList))) H) fLtS := o_sb (g := fun i j => decide (i.cps.toList < j.cps.toList))
/-- a sign in a text; x in s where s is longer is asked of one sign alone -/
noncomputable def fInS : D → D → Option Val := sOp fun i j => match i.cps.toList with
  | [n] => bB (decide (n ∈ j.cps.toList))
  | _ => none
theorem one_sign {z : Str} {n : Nat} (h : z.cps.toList = [n]) : z = ⟨#[n]⟩ := by
  cases z with
  | mk cps =>
    congr 1
    exact Array.toList_inj.mp h
theorem o_inS : OpS c (fun x y H Q => ∃ (n : Nat) (z : Str), x = .str ⟨#[n]⟩ ∧ y = .str z ∧ Q (.bl (decide (n ∈ z.cps.toList))) H) fInS := by
  intro σ w x y a b res Q rel ax ay e o
  obtain ⟨i, j, rfl, rfl, e2⟩ := sOp_ok e
  split at e2
  · next n hn =>
    cases e2
    exact ⟨n, j, by rw [ac_str ax, one_sign hn], ac_str ay, o.fz rel (.bl _)⟩
  · cases e2
noncomputable def lOp (f : List D → List D → Option Val) : D → D → Option Val
  | .lst i, .lst j => f i j
  | _, _ => none
theorem lOp_ok {f : List D → List D → Option Val} {a b : D} {r : Val} (h : lOp f a b = some r) : ∃ i j, a = .lst i ∧ b = .lst j ∧ f i j = some r := by
  unfold lOp at h
  split at h
  · next i j => exact ⟨i, j, rfl, rfl, h⟩
  · cases h
noncomputable def fCat : D → D → Option Val := lOp fun i j => gdO (i.length + j.length ≤ sizeLine) (.new (.lst (i ++ j)))
theorem o_cat : OpS c rCat fCat := by
  intro σ w x y a b res Q rel ax ay e o
  obtain ⟨i, j, rfl, rfl, e⟩ := lOp_ok e
  obtain ⟨hp, rfl⟩ := gdO_ok e
  obtain ⟨p, vs, rfl, h1, r1⟩ := ac_lst rel ax
  obtain ⟨p2, ws, rfl, h2, r2⟩ := ac_lst rel ay
  exact ⟨p, p2, vs, ws, rfl, rfl, h1, h2, by rw [r1.len, r2.len]; exact hp, fun q n => o.newL rel (r1.app r2) n⟩
noncomputable def fRep : D → D → Option Val
  | .lst i, .int k => gdO (-(2 ^ 63) ≤ k ∧ k < 2 ^ 63 ∧ i.length * k.toNat ≤ sizeLine) (.new (.lst (List.replicate k.toNat i).flatten))
  | _, _ => none
theorem o_rep : OpS c rRep fRep := by
  intro σ w x y a b res Q rel ax ay e o
  unfold fRep at e
  split at e
  · next i k =>
    obtain ⟨hp, rfl⟩ := gdO_ok e
    obtain ⟨p, vs, rfl, h1, r1⟩ := ac_lst rel ax
    exact ⟨p, k, vs, rfl, ac_int ay, h1, hp.1, hp.2.1, by rw [r1.len]; exact hp.2.2, fun q n => o.newL rel (r1.flatRep _) n⟩
  · cases e
noncomputable def fCatT : D → D → Option Val
  | .tup (d :: i), .tup j => gdO ((d :: i).length + j.length ≤ sizeLine) (.fz (.tup (d :: i ++ j)))
  | _, _ => none
theorem o_catT : OpS c (rCatT c.K) fCatT := by
  intro σ w x y a b res Q rel ax ay e o
  unfold fCatT at e
  split at e
  · next d i j =>
    obtain ⟨hp, rfl⟩ := gdO_ok e
    obtain ⟨p, vs, rfl, h1, r1⟩ := ac_tup rel ax
    obtain ⟨p2, ws, rfl, h2, r2⟩ := ac_tup rel ay
    refine ⟨p, p2, vs, ws, rfl, rfl, SqT.tup h1, SqT.tup h2, fun z => ?_, by rw [r1.len, r2.len]; exact hp, fun z => ?_, fun z q n => o.newT rel (r1.app r2) n⟩
    · rw [z] at r1
      cases r1
    · subst z
      cases r2
      rw [List.append_nil] at o
      refine o.fz rel ?_
      rcases ax with ax | ⟨q, _, ax⟩
      · exact ax
      · exact ax.elim
  · cases e
noncomputable def fIx : D → D → Option Val
  | .lst xs, .int i => (atI xs i).map .fz
  | .tup xs, .int i => (atI xs i).map .fz
  | .ktp xs, .int i => (atI xs i).map .fz
  | .scr xs, .int i => (atI xs i).map fun n => .fz (.int n)
  | .str z, .int i => if z.length ≤ sizeLine then (atI z.cps.toList i).map fun n => .fz (.str ⟨#[n]⟩) else none
  | _, _ => none
theorem map_some {α β : Type} {o : Option α} {f : α → β} {b : β} (h : o.map f = some b) : ∃ a, o = some a ∧ f a = b := by
  cases o with
  | none => cases h
  | some a => exact ⟨a, rfl, Option.some.inj h⟩
theorem atI_rep {F : Hp} {vs : List V} {ds : List D} {i : Int} {d : D} (r : Reps c.b F vs ds) (h : atI ds i = some d) : ∃ v, atI vs i = some v ∧ Rep c.b F v d := by
  obtain ⟨j, h1, h2⟩ := obn h
  obtain ⟨v, hv, rv⟩ := r.get h2
  refine ⟨v, ?_, rv⟩
  show (ixN vs.length i).bind _ = _
  rw [r.len, h1]
  exact hv
theorem atI_map {α β : Type} {xs : List α} {f : α → β} {i : Int} {a : α} (h : atI xs i = some a) : atI (xs.map f) i = some (f a) := by
  obtain ⟨j, h1, h2⟩ := obn h
  show (ixN (xs.map f).length i).bind _ = _
  rw [List.length_map, h1]
  show (xs.map f)[j]? = _
  rw [List.getElem?_map, h2]
  rfl
theorem o_ix : OpS c (rIx c.K) fIx := by
  intro σ w x y a b res Q rel ax ay e o
  unfold fIx at e
  split at e
  · next xs i =>
    obtain ⟨d, e3, rfl⟩ := map_some e
    obtain ⟨p, vs, rfl, h1, r1⟩ := ac_lst rel ax
    obtain ⟨v, hv, rv⟩ := atI_rep r1 e3
    exact .inl ⟨p, vs, i, v, rfl, ac_int ay, .inl (.inl h1), hv, o.fz rel rv⟩
  · next xs i =>
    obtain ⟨d, e3, rfl⟩ := map_some e
    obtain ⟨p, vs, rfl, h1, r1⟩ := ac_tup rel ax
    obtain ⟨v, hv, rv⟩ := atI_rep r1 e3
    exact .inr (.inl ⟨p, vs, i, v, rfl, ac_int ay, SqT.tup h1, hv, o.fz rel rv⟩)
  · next xs i =>
    obtain ⟨d, e3, rfl⟩ := map_some e
    obtain ⟨p, vs, rfl, h1, r1⟩ := ac_ktp rel ax
    obtain ⟨v, hv, rv⟩ := atI_rep r1 e3
    exact .inr (.inl ⟨p, vs, i, v, rfl, ac_int ay, h1, hv, o.fz rel rv⟩)
  · next xs i =>
    obtain ⟨n, e3, rfl⟩ := map_some e
    obtain ⟨p, rfl, h1⟩ := ac_scr rel ax
    exact .inl ⟨p, _, i, .int n, rfl, ac_int ay, h1, atI_map e3, o.fz rel (.int n)⟩
  · next z i =>
    split at e
    · next hz =>
      obtain ⟨n, e3, rfl⟩ := map_some e
      exact .inr (.inr ⟨z, i, n, ac_str ax, ac_int ay, hz, e3, o.fz rel (.str _)⟩)
    · cases e
  · cases e
noncomputable def isNone : D → Bool
  | .non => true
  | _ => false
theorem isNone_ok {σ : L2.St} {w : Wd} {v : V} {a : D} (h : AcR c w v a) : decide (v = .non) = isNone a := by
  rcases h with h | ⟨p, rfl, h⟩
  · cases h <;> rfl
  · cases a with
    | non => exact h.elim
    | _ => rfl
noncomputable def fIsN : D → D → Option Val
  | a, .non => bB (isNone a)
  | _, _ => none
noncomputable def fNotN : D → D → Option Val
  | a, .non => bB (!isNone a)
  | _, _ => none
theorem o_isN : OpS c (fun x y H Q => y = .non ∧ Q (.bl (decide (x = .non))) H) fIsN := by
  intro σ w x y a b res Q rel ax ay e o
  cases b with
  | non =>
    cases e
    refine ⟨ac_non ay, ?_⟩
    rw [isNone_ok (σ := σ) ax]
    exact o.fz rel (.bl _)
  | _ => cases e
theorem o_notN : OpS c (fun x y H Q => y = .non ∧ Q (.bl (!decide (x = .non))) H) fNotN := by
  intro σ w x y a b res Q rel ax ay e o
  cases b with
  | non =>
    cases e
    refine ⟨ac_non ay, ?_⟩
    rw [isNone_ok (σ := σ) ax]
    exact o.fz rel (.bl _)
  | _ => cases e
mutual
noncomputable def pd : D → Option PyData
  | .non => some .none
  | .bl b => some (.bool b)
  | .int i => some (.int i)
  | .str z => some (.str z)
  | .lst xs => (pds xs).map .list
  | .tup xs => (pds xs).map .tuple
  | .ktp xs => (pds xs).map .tuple
  | .scr xs => some (.list (xs.map .int))
  | _ => none
noncomputable def pds : List D → Option (List PyData)
  | [] => some []
  | x :: xs => (pd x).bind fun a => (pds xs).map fun as => a :: as
end
mutual
theorem dp_rep {F H : Hp} (s : Same F H) : ∀ {d : D} {v : V} {e : PyData}, Rep c.b F v d → pd d = some e → Dp c.K H v e
  | .non, _, _, h, e => by
    cases h
    cases e
    exact .non
  | .bl b, _, _, h, e => by
    cases h
    cases e
    exact .bl b
  | .int i, _, _, h, e => by
    cases h
    cases e
    exact .int i
  | .str z, _, _, h, e => by
    cases h
    cases e
    exact .str z
  | .lst xs, _, _, h, e => by
    cases h with
    | lst e1 r =>
      unfold pd at e
      obtain ⟨es, e2, rfl⟩ := map_some e
      exact .lst (.inl (.inl (s _ _ e1))) (dp_reps s r e2)
  | .tup xs, _, _, h, e => by
    cases h with
    | tup e1 r =>
      unfold pd at e
      obtain ⟨es, e2, rfl⟩ := map_some e
      exact .tup (SqT.tup (s _ _ e1)) (dp_reps s r e2)
  | .ktp xs, _, _, h, e => by
    cases h with
    | ktp e1 r =>
      unfold pd at e
      obtain ⟨es, e2, rfl⟩ := map_some e
      exact .tup (same_seqT s e1) (dp_reps s r e2)
  | .scr xs, _, _, h, e => by
    cases h with
    | scr e1 =>
      cases e
      exact .lst (s.seq e1) (dp_ints xs)
  | .dic _, _, _, _, e => by cases e
  | .obj _ _, _, _, _, e => by cases e
  | .dit _, _, _, _, e => by cases e
  | .ty _, _, _, _, e => by cases e
  | .cls _, _, _, _, e => by cases e
theorem dp_reps {F H : Hp} (s : Same F H) : ∀ {ds : List D} {vs : List V} {es : List PyData}, Reps c.b F vs ds → pds ds = some es → DpAll c.K H vs es
  | [], _, _, h, e => by
    cases h
    cases e
    exact .nil
  | d :: ds, _, _, h, e => by
    cases h with
    | cons h t =>
      unfold pds at e
      obtain ⟨a, e1, e⟩ := obn e
      obtain ⟨as, e2, rfl⟩ := map_some e
      exact .cons (dp_rep s h e1) (dp_reps s t e2)
theorem dp_ints {H : Hp} : ∀ xs : List Int, DpAll c.K H (xs.map V.int) (xs.map .int)
  | [] => .nil
  | x :: xs => .cons (.int x) (dp_ints xs)
end
theorem dp_ac {σ : L2.St} {w : Wd} {v : V} {d : D} {e : PyData} (rel : RelE c σ w) (h : AcR c w v d) (he : pd d = some e) : Dp c.K w.H v e := by
  rcases h with h | ⟨p, rfl, h⟩
  · exact dp_rep rel.sm h he
  · cases d with
    | lst ds =>
      obtain ⟨vs, h1, r⟩ := h
      unfold pd at he
      obtain ⟨es, e2, rfl⟩ := map_some he
      exact .lst (.inl (.inl h1)) (dp_reps rel.sm r e2)
    | dic _ => cases he
    | obj _ _ => cases he
    | dit _ => cases he
    | _ => exact h.elim
noncomputable def dEq (a b : D) : Option Bool := (pd a).bind fun x => (pd b).bind fun y => gdO (SeqAt.shaped x = true ∧ SeqAt.shaped y = true) (PyData.eqv x y)
noncomputable def fEq (a b : D) : Option Val := (dEq a b).bind bB
noncomputable def fNe (a b : D) : Option Val := (dEq a b).bind fun t => bB (!t)
theorem dEq_ok {a b : D} {t : Bool} (h : dEq a b = some t) : ∃ x y, pd a = some x ∧ pd b = some y ∧ SeqAt.shaped x = true ∧ SeqAt.shaped y = true ∧ PyData.eqv x y = t := by
  obtain ⟨x, h1, h⟩ := obn h
  obtain ⟨y, h2, h⟩ := obn h
  obtain ⟨⟨h3, h4⟩, h5⟩ := gdO_ok h
  exact ⟨x, y, h1, h2, h3, h4, h5⟩
theorem o_eqD : OpS c (rEqD c.K) fEq := by
  intro σ w x y a b res Q rel ax ay e o
  obtain ⟨t, e2, e1⟩ := obn e
  cases e1
  obtain ⟨d1, d2, h1, h2, h3, h4, rfl⟩ := dEq_ok e2
  exact ⟨d1, d2, dp_ac rel ax h1, dp_ac rel ay h2, h3, h4, o.fz rel (.bl _)⟩
theorem o_neD : OpS c (rNeD c.K) fNe := by
  intro σ w x y a b res Q rel ax ay e o
  obtain ⟨t, e2, e1⟩ := obn e
  cases e1
  obtain ⟨d1, d2, h1, h2, h3, h4, rfl⟩ := dEq_ok e2
  exact ⟨d1, d2, dp_ac rel ax h1, dp_ac rel ay h2, h3, h4, o.fz rel (.bl _)⟩
end
end MR
set_option autoImplicit false
namespace MR
open PySem PySem.Spec PyProof.Rows L2
noncomputable def vB : Val → Option Bool
  | .fz (.bl b) => some b
  | _ => none
noncomputable def mTest (m : En → R Val) (e : En) : R Bool := (m e).bind fun a e1 => R.of (vB a) e1
noncomputable def mAnd (m n : En → R Bool) (e : En) : R Bool := (m e).bind fun a e1 => if a then n e1 else .ok false e1
noncomputable def mOr (m n : En → R Bool) (e : En) : R Bool := (m e).bind fun a e1 => if a then .ok true e1 else n e1
noncomputable def mNot (m : En → R Bool) (e : En) : R Bool := (m e).bind fun a e1 => .ok (!a) e1
noncomputable def mAndV (m n : En → R Val) (e : En) : R Val := (m e).bind fun a e1 => (R.of (vB a) e1).bind fun b e2 => if b then n e2 else .ok (.fz (.bl false)) e2
noncomputable def mOrV (m n : En → R Val) (e : En) : R Val := (m e).bind fun a e1 => (R.of (vB a) e1).bind fun b e2 => if b then .ok (.fz (.bl true)) e2 else n e2
noncomputable def mNotV (m : En → R Val) (e : En) : R Val := (m e).bind fun a e1 => (R.of (vB a) e1).bind fun b e2 => .ok (.fz (.bl (!b))) e2
noncomputable def mIf (t : En → R Bool) (m n : En → R Val) (e : En) : R Val := (t e).bind fun b e1 => if b then m e1 else n e1
noncomputable def tru : D → Option Bool
  | .non => some false
  | .bl b => some b
  | .int i => some (i != 0)
  | .str z => gdO (z.length ≤ sizeLine) ((z.length : Int) != 0)
  | .lst xs => some (!xs.isEmpty)
  | .tup xs => some (!xs.isEmpty)
  | .dic xs => some (!xs.isEmpty)
  | .ktp xs => some (!xs.isEmpty)
  | _ => none
noncomputable def mTru (m : En → R Val) (e : En) : R Bool := (mP m e).bind fun a e1 => R.of ((con a e1).bind tru) e1
section
variable {c : Ctx} {E : Option (L2.St → XK)} {σ : L2.St} {w w0 : Wd} {Q : VK} {v x y : V} {t u ta tb tc : TE} {m n ma mb mc : En → R Val} {tt t1 t2 : TT} {p p1 p2 : En → R Bool}
theorem vB_ok {H0 : Hp} {a : Val} {b : Bool} (h : vB a = some b) (vr : VR c σ H0 w v a) : v = .bl b := by
  unfold vB at h
  split at h
  · cases h
    have vr : Rep c.b w.F v (.bl b) := vr
    cases vr
    rfl
  · cases h
theorem s_test (h : SimE c E t m) : SimT c E (tTest t) (mTest m) := by
  intro σ w Q rel q
  refine h.to rel (LeS.refl σ w) q fun a w1 x r1 l1 v1 q1 => ?_
  obtain ⟨b, e, k⟩ := Cn.of q1
  exact ⟨b, vB_ok e v1, k _ _ r1 l1⟩
/-- the end of a test -/
noncomputable abbrev KT (c : Ctx) (σ : L2.St) (w : Wd) (Q : Bool → Hp → Prop) : Bool → En → Prop := fun a e => ∀ F' H', RelE c σ ⟨F', H', e⟩ → LeS σ w σ ⟨F', H', e⟩ → Q a H'
theorem KT.step {Q : Bool → Hp → Prop} {w1 : Wd} {a : Bool} {e : En} (l : LeS σ w σ w1) (k : KT c σ w Q a e) : KT c σ w1 Q a e := fun F' H' r l1 => k F' H' r (l.trans l1)
theorem s_and (h : SimT c E t1 p1) (h' : SimT c E t2 p2) : SimT c E (tAnd t1 t2) (mAnd p1 p2) := by
  intro σ w Q rel q
  refine h.to rel (LeS.refl σ w) q fun a w1 r1 l1 q1 => ?_
  cases a with
  | true =>
    rw [if_pos rfl]
    exact h' σ w1 Q r1 (Cn.step q1 l1 fun _ _ k => KT.step l1 k)
  | false =>
    rw [if_neg Bool.false_ne_true]
    exact q1 _ _ r1 l1
theorem s_or (h : SimT c E t1 p1) (h' : SimT c E t2 p2) : SimT c E (tOr t1 t2) (mOr p1 p2) := by
  intro σ w Q rel q
  refine h.to rel (LeS.refl σ w) q fun a w1 r1 l1 q1 => ?_
  cases a with
  | true =>
    rw [if_pos rfl]
    exact q1 _ _ r1 l1
  | false =>
    rw [if_neg Bool.false_ne_true]
    exact h' σ w1 Q r1 (Cn.step q1 l1 fun _ _ k => KT.step l1 k)
theorem s_not (h : SimT c E t1 p1) : SimT c E (tNot t1) (mNot p1) := by
  intro σ w Q rel q
  exact h.to rel (LeS.refl σ w) q fun a w1 r1 l1 q1 => q1 _ _ r1 l1
theorem KV.step {w1 : Wd} {a : Val} {e : En} (l : LeS σ w σ w1) (k : KV c σ w Q a e) : KV c σ w1 Q a e := by
  intro v F' H' r l1 vr
  refine k v F' H' r (l.trans l1) ?_
  cases a with
  | fz d => exact vr
  | «at» i => exact vr
  | new d =>
    obtain ⟨p, e, n, f, own, ns⟩ := vr
    exact ⟨p, e, l.free n, f, own, ns⟩
theorem Cn.ofB {α β : Type} {o : Option α} {e : En} {k : α → En → R β} {K : β → En → Prop} (q : Cn c E σ w ((R.of o e).bind k) K) : ∃ a, o = some a ∧ Cn c E σ w (k a e) K := by
  cases o with
  | none => exact q.elim
  | some a => exact ⟨a, rfl, q⟩
theorem s_andV (h : SimE c E ta ma) (h' : SimE c E tb mb) : SimE c E (tAndV ta tb) (mAndV ma mb) := by
  intro σ w Q rel q
  refine h.to rel (LeS.refl σ w) q fun a w1 x r1 l1 v1 q1 => ?_
  obtain ⟨b, e, q1⟩ := Cn.ofB q1
  refine ⟨b, vB_ok e v1, ?_⟩
  cases b with
  | true =>
    rw [if_pos rfl]
    exact h' σ w1 Q r1 (Cn.step q1 l1 fun _ _ k => KV.step l1 k)
  | false =>
    rw [if_neg Bool.false_ne_true]
    exact q1 _ _ _ r1 l1 (.bl false)
theorem s_orV (h : SimE c E ta ma) (h' : SimE c E tb mb) : SimE c E (tOrV ta tb) (mOrV ma mb) := by
  intro σ w Q rel q
  refine h.to rel (LeS.refl σ w) q fun a w1 x r1 l1 v1 q1 => ?_
  obtain ⟨b, e, q1⟩ := Cn.ofB q1
  refine ⟨b, vB_ok e v1, ?_⟩
  cases b with
  | true =>
    rw [if_pos rfl]
    exact q1 _ _ _ r1 l1 (.bl true)
  | false =>
    rw [if_neg Bool.false_ne_true]
    exact h' σ w1 Q r1 (Cn.step q1 l1 fun _ _ k => KV.step l1 k)
theorem s_notV (h : SimE c E ta ma) : SimE c E (tNotV ta) (mNotV ma) := by
  intro σ w Q rel q
  refine h.to rel (LeS.refl σ w) q fun a w1 x r1 l1 v1 q1 => ?_
  obtain ⟨b, e, q1⟩ := Cn.ofB q1
  exact ⟨b, vB_ok e v1, q1 _ _ _ r1 l1 (.bl _)⟩
theorem s_ifE (h : SimT c E tt p) (ha : SimE c E ta ma) (hb : SimE c E tb mb) : SimE c E (tIf tt ta tb) (mIf p ma mb) := by
  intro σ w Q rel q
  refine h.to rel (LeS.refl σ w) q fun a w1 r1 l1 q1 => ?_
  cases a with
  | true =>
    rw [if_pos rfl]
    exact ha σ w1 Q r1 (Cn.step q1 l1 fun _ _ k => KV.step l1 k)
  | false =>
    rw [if_neg Bool.false_ne_true]
    exact hb σ w1 Q r1 (Cn.step q1 l1 fun _ _ k => KV.step l1 k)
theorem empty_map {α β γ : Type} {xs : List α} {ys : List β} {f : α → γ} {g : β → γ} (h : xs.map f = ys.map g) : xs.isEmpty = ys.isEmpty := by
  cases xs with
  | nil => cases ys with
    | nil => rfl
    | cons _ _ => cases h
  | cons _ _ => cases ys with
    | nil => cases h
    | cons _ _ => rfl
theorem Reps.empty {F : Hp} {vs : List V} {ds : List D} (r : Reps c.b F vs ds) : vs.isEmpty = ds.isEmpty := by
  cases r <;> rfl
theorem tru_ok {a : D} {b : Bool} (rel : RelE c σ w) (h : AcR c w v a) (e : tru a = some b) : TruV c.K v w.H b := by
  cases a with
  | non => rw [ac_non h]; cases e; rfl
  | bl k => rw [ac_bl h]; cases e; rfl
  | int i => rw [ac_int h]; cases e; rfl
  | str z =>
    rw [ac_str h]
    obtain ⟨h1, h2⟩ := gdO_ok e
    exact ⟨h1, h2.symm⟩
  | lst ds =>
    obtain ⟨p, vs, rfl, h1, r⟩ := ac_lst rel h
    cases e
    exact .inl ⟨vs, .inl (.inl h1), by rw [r.empty]⟩
  | tup ds =>
    obtain ⟨p, vs, rfl, h1, r⟩ := ac_tup rel h
    cases e
    exact .inr (.inl ⟨vs, SqT.tup h1, by rw [r.empty]⟩)
  | ktp ds =>
    obtain ⟨p, vs, rfl, h1, r⟩ := ac_ktp rel h
    cases e
    exact .inr (.inl ⟨vs, h1, by rw [r.empty]⟩)
  | dic ds =>
    obtain ⟨p, kvs, rfl, h1, k, r⟩ := ac_dic rel h
    cases e
    exact .inr (.inr ⟨kvs, h1, by rw [empty_map k]⟩)
  | obj _ _ => cases e
  | scr _ => cases e
  | dit _ => cases e
  | ty _ => cases e
  | cls _ => cases e
theorem s_tru (h : SimE c E ta ma) : SimT c E (fun σ H Q => ta σ H fun x H' => ∃ k, TruV c.K x H' k ∧ Q k H') (mTru ma) := by
  intro σ w Q rel q
  refine h.p.to rel (LeS.refl σ w) q fun a w1 x r1 l1 na v1 q1 => ?_
  obtain ⟨b, e, k⟩ := Cn.of q1
  obtain ⟨d, ea, e⟩ := obn e
  exact ⟨b, tru_ok r1 (con_ok r1 na v1 ea) e, k _ _ r1 l1⟩
noncomputable def mChain (f g : D → D → Option Val) (ma mb mc : En → R Val) (e : En) : R Val := (mP ma e).bind fun a e1 => (mP mb e1).bind fun b e2 =>
  (R.of ((con a e2).bind fun x => (con b e2).bind fun y => (f x y).bind vB) e2).bind fun k e3 => if k then (mP mc e3).bind fun d e4 => R.of ((con b e4).bind fun y => (con d e4).bind fun z => g y z) e4 else .ok (.fz (.bl false)) e3
end
end MR
set_option autoImplicit false
namespace MR
open PySem PySem.Spec PyProof.Rows L2
inductive VPs (c : Ctx) (σ : L2.St) (w : Wd) : List V → List Val → Prop where
  | nil : VPs c σ w [] []
  | cons {v : V} {a : Val} {vs : List V} {as : List Val} (n : ∀ d, a ≠ .new d) (h : VR c σ w.H w v a) (t : VPs c σ w vs as) : VPs c σ w (v :: vs) (a :: as)
noncomputable def SimA (c : Ctx) (E : Option (L2.St → XK)) (t : TA) (m : En → R (List Val)) : Prop := ∀ (σ : L2.St) (w : Wd) (Q : List V → Hp → Prop), RelE c σ w →
  Cn c E σ w (m w.env) (fun as e => ∀ vs F' H', RelE c σ ⟨F', H', e⟩ → LeS σ w σ ⟨F', H', e⟩ → VPs c σ ⟨F', H', e⟩ vs as → Q vs H') → t σ w.H Q
noncomputable def mNil (e : En) : R (List Val) := .ok [] e
noncomputable def mCons (m : En → R Val) (ms : En → R (List Val)) (e : En) : R (List Val) := (mP m e).bind fun a e1 => (ms e1).bind fun as e2 => .ok (a :: as) e2
noncomputable def frzs : List Val → En → R (List D)
  | [], e => .ok [] e
  | a :: as, e => (frz a e).bind fun d e1 => (frzs as e1).bind fun ds e2 => .ok (d :: ds) e2
noncomputable def cons? : List Val → En → Option (List D)
  | [], _ => some []
  | a :: as, e => (con a e).bind fun d => (cons? as e).bind fun ds => some (d :: ds)
inductive AcRs (c : Ctx) (w : Wd) : List V → List D → Prop where
  | nil : AcRs c w [] []
  | cons {v : V} {d : D} {vs : List V} {ds : List D} (h : AcR c w v d) (t : AcRs c w vs ds) : AcRs c w (v :: vs) (d :: ds)
section
variable {c : Ctx} {E : Option (L2.St → XK)} {σ : L2.St} {w w0 : Wd} {Q : VK} {v x y : V} {t u ta tb tc : TE} {m n ma mb mc : En → R Val} {tt : TA} {ms : En → R (List Val)}
theorem VPs.later {w1 : Wd} {vs : List V} {as : List Val} (l : LeS σ w σ w1) (h : VPs c σ w vs as) : VPs c σ w1 vs as := by
  induction h with
  | nil => exact .nil
  | cons n h t ih => exact .cons n (h.later n l) ih
theorem s_nil : SimA c E tNil mNil := fun σ w Q rel q => q [] w.F w.H rel (LeS.refl σ w) .nil
theorem SimA.to {β : Type} {k : List Val → En → R β} {K : β → En → Prop} {w1 : Wd} {Q : List V → Hp → Prop} (h : SimA c E tt ms) (rel : RelE c σ w1) (l : LeS σ w σ w1) (q : Cn c E σ w ((ms w1.env).bind k) K)
    (hk : ∀ as w2 vs, RelE c σ w2 → LeS σ w1 σ w2 → VPs c σ w2 vs as → Cn c E σ w (k as w2.env) K → Q vs w2.H) : tt σ w1.H Q := by
  refine h σ w1 Q rel ?_
  cases hm : ms w1.env with
  | st => rw [hm] at q; exact q
  | er x e => rw [hm] at q; exact KE.step q l
  | ok a e =>
    rw [hm] at q
    exact fun v F' H' r l1 vr => hk a ⟨F', H', e⟩ v r l1 vr q
theorem s_cons (h : SimE c E ta ma) (hs : SimA c E tt ms) : SimA c E (tCons ta tt) (mCons ma ms) := by
  intro σ w Q rel q
  refine h.p.to rel (LeS.refl σ w) q fun a w1 x r1 l1 na v1 q1 => ?_
  refine hs.to r1 l1 q1 fun as w2 vs r2 l2 v2 q2 => ?_
  exact q2 _ _ _ r2 (l1.trans l2) (.cons na (v1.later na l2) v2)
theorem frzs_ok : ∀ {as : List Val} {w0 w : Wd} {vs : List V} {ds : List D} {e : En}, RelE c σ w → LeS σ w0 σ w → VPs c σ w vs as → frzs as w.env = .ok ds e →
    ∃ F', RelE c σ ⟨F', w.H, e⟩ ∧ LeS σ w0 σ ⟨F', w.H, e⟩ ∧ LeS σ w σ ⟨F', w.H, e⟩ ∧ Reps c.b F' vs ds
  | [], _, w, _, _, _, rel, le, h, q => by
    cases h
    cases q
    exact ⟨w.F, rel, le, LeS.refl σ w, .nil⟩
  | a :: as, _, w, _, _, _, rel, le, h, q => by
    cases h with
    | @cons v _ vs _ na h t =>
      have q : ((frz a w.env).bind fun d e1 => (frzs as e1).bind fun ds e2 => R.ok (d :: ds) e2) = _ := q
      cases hf : frz a w.env with
      | st => rw [hf] at q; cases q
      | er x e => exact (frz_er hf).elim
      | ok d e1 =>
        rw [hf] at q
        have q : ((frzs as e1).bind fun ds e2 => R.ok (d :: ds) e2) = _ := q
        obtain ⟨F1, r1, l1, rp⟩ := frz_ok (w0 := w) rel (LeS.refl σ w) h hf
        cases hfs : frzs as e1 with
        | st => rw [hfs] at q; cases q
        | er x e => rw [hfs] at q; cases q
        | ok ds e2 =>
          rw [hfs] at q
          cases q
          obtain ⟨F2, r2, _, l2, rs⟩ := frzs_ok (w0 := ⟨F1, w.H, e1⟩) r1 (LeS.refl σ _) (t.later l1) hfs
          exact ⟨F2, r2, le.trans (l1.trans l2), l1.trans l2, .cons (rp.mono l2.ff) rs⟩
theorem frzs_er : ∀ {as : List Val} {e : En} {x : Xn} {e' : En}, frzs as e = .er x e' → False
  | [], e, x, e', h => by cases h
  | a :: as, e, x, e', h => by
    have q : ((frz a e).bind fun d e1 => (frzs as e1).bind fun ds e2 => R.ok (d :: ds) e2) = _ := h
    cases hf : frz a e with
    | st => rw [hf] at q; cases q
    | er x e => exact frz_er hf
    | ok d e1 =>
      rw [hf] at q
      have q : ((frzs as e1).bind fun ds e2 => R.ok (d :: ds) e2) = _ := q
      cases hfs : frzs as e1 with
      | st => rw [hfs] at q; cases q
      | er x e => exact frzs_er hfs
      | ok ds e2 => rw [hfs] at q; cases q
/-- the arguments, frozen -/
theorem frzs_to {β : Type} {k : List D → En → R β} {K : β → En → Prop} {as : List Val} {vs : List V} {G : Prop} (rel : RelE c σ w) (l : LeS σ w0 σ w) (vp : VPs c σ w vs as) (q : Cn c E σ w0 ((frzs as w.env).bind k) K)
    (hk : ∀ ds w2, w2.H = w.H → RelE c σ w2 → LeS σ w σ w2 → Reps c.b w2.F vs ds → Cn c E σ w0 (k ds w2.env) K → G) : G := by
  cases hf : frzs as w.env with
  | st => rw [hf] at q; exact q.elim
  | er x e => exact (frzs_er hf).elim
  | ok ds e =>
    rw [hf] at q
    obtain ⟨F', r, _, l2, rs⟩ := frzs_ok rel l vp hf
    exact hk ds ⟨F', w.H, e⟩ rfl r l2 rs q
theorem cons_ok : ∀ {as : List Val} {vs : List V} {ds : List D}, RelE c σ w → VPs c σ w vs as → cons? as w.env = some ds → AcRs c w vs ds
  | [], _, _, rel, h, e => by
    cases h
    cases e
    exact .nil
  | a :: as, _, _, rel, h, e => by
    cases h with
    | cons n h t =>
      obtain ⟨d, e1, e⟩ := obn e
      obtain ⟨ds, e2, e⟩ := obn e
      cases e
      exact .cons (con_ok rel n h e1) (cons_ok rel t e2)
noncomputable def mLst (ms : En → R (List Val)) (e : En) : R Val := (ms e).bind fun as e1 => (frzs as e1).bind fun ds e2 => R.of (gdO (ds.length ≤ sizeLine) (.new (.lst ds))) e2
noncomputable def mTup (ms : En → R (List Val)) (e : En) : R Val := (ms e).bind fun as e1 => (frzs as e1).bind fun ds e2 => R.of (gdO (ds.length ≤ sizeLine) (.fz (.tup ds))) e2
theorem s_lst (h : SimA c E tt ms) : SimE c E (tLst tt) (mLst ms) := by
  intro σ w Q rel q
  refine h.to rel (LeS.refl σ w) q fun as w1 vs r1 l1 vp q1 => frzs_to r1 l1 vp q1 fun ds w2 e2 r2 l2 rs q2 => ?_
  obtain ⟨res, e, k⟩ := Cn.of q2
  obtain ⟨hl, rfl⟩ := gdO_ok e
  refine ⟨by rw [rs.len]; exact hl, fun p np => ?_⟩
  rw [← e2] at np ⊢
  exact (Out.at k (l1.trans l2)).newL r2 rs np
theorem s_tup (h : SimA c E tt ms) : SimE c E (tTup tt) (mTup ms) := by
  intro σ w Q rel q
  refine h.to rel (LeS.refl σ w) q fun as w1 vs r1 l1 vp q1 => frzs_to r1 l1 vp q1 fun ds w2 e2 r2 l2 rs q2 => ?_
  obtain ⟨res, e, k⟩ := Cn.of q2
  obtain ⟨hl, rfl⟩ := gdO_ok e
  refine ⟨by rw [rs.len]; exact hl, fun p np => ?_⟩
  rw [← e2] at np ⊢
  exact (Out.at k (l1.trans l2)).newT r2 rs np
noncomputable def CbS (c : Ctx) (r : List V → Hp → VK → Prop) (f : List D → Option Val) : Prop := ∀ (σ : L2.St) (w : Wd) (vs : List V) (ds : List D) (res : Val) (Q : VK), RelE c σ w → AcRs c w vs ds → f ds = some res → Out c σ w res Q → r vs w.H Q
noncomputable def mCB (f : List D → Option Val) (ms : En → R (List Val)) (e : En) : R Val := (ms e).bind fun as e1 => R.of ((cons? as e1).bind f) e1
theorem s_cb {r : List V → Hp → VK → Prop} {f : List D → Option Val} (h : CbS c r f) (hs : SimA c E tt ms) : SimE c E (tCB r tt) (mCB f ms) := by
  intro σ w Q rel q
  refine hs.to rel (LeS.refl σ w) q fun as w1 vs r1 l1 vp q1 => ?_
  obtain ⟨res, e, k⟩ := Cn.of q1
  obtain ⟨ds, e1, e⟩ := obn e
  exact h σ w1 vs ds res Q r1 (cons_ok r1 vp e1) e (Out.at k l1)
theorem cb_or {X : Cx} {f : Value} {r r' : List V → Hp → VK → Prop} (h : CallR X f r) (h' : CallR X f r') : CallR X f (fun xs H Q => r xs H Q ∨ r' xs H Q) :=
  fun pins s σ H xs us Q I rv q => q.elim (h pins s σ H xs us Q I rv) (h' pins s σ H xs us Q I rv)
theorem CbS.or {r r' : List V → Hp → VK → Prop} {f f' : List D → Option Val} (h : CbS c r f) (h' : CbS c r' f') : CbS c (fun xs H Q => r xs H Q ∨ r' xs H Q) (fun a => orO (f a) (f' a)) := by
  intro σ w vs ds res Q rel ax e o
  have e : orO (f ds) (f' ds) = some res := e
  cases hf : f ds with
  | some z =>
    rw [hf] at e
    exact .inl (h σ w vs ds res Q rel ax (hf.trans e) o)
  | none =>
    rw [hf] at e
    exact .inr (h' σ w vs ds res Q rel ax e o)
theorem op_or {X : Cx} {f : Value → Value → Sem Value} {r r' : R2} (h : OpR X f r) (h' : OpR X f r') : OpR X f (fun x y H Q => r x y H Q ∨ r' x y H Q) :=
  fun pins s σ H x y v u Q I rx ry q => q.elim (h pins s σ H x y v u Q I rx ry) (h' pins s σ H x y v u Q I rx ry)
noncomputable def rLenSeq (K : PySem.W.Frag) : List V → Hp → VK → Prop := fun xs H Q => ∃ p ys, xs = [.ref p] ∧ (SqL K H p ys ∨ SqT K H p ys) ∧ Q (.int ys.length) H
noncomputable def rLenStr : List V → Hp → VK → Prop := fun xs H Q => ∃ z, xs = [.str z] ∧ z.length ≤ sizeLine ∧ Q (.int z.length) H
noncomputable abbrev vI (i : Int) : Val := .fz (.int i)
noncomputable def fLen : List D → Option Val
  | [.lst xs] => some (vI (xs.length : Int))
  | [.tup xs] => some (vI (xs.length : Int))
  | [.ktp xs] => some (vI (xs.length : Int))
  | [.scr xs] => some (vI (xs.length : Int))
  | _ => none
theorem cb_lenSeq : CbS c (rLenSeq c.K) fLen := by
  intro σ w vs ds res Q rel ax e o
  unfold fLen at e
  split at e
  · cases e
    cases ax with
    | cons h t =>
      cases t
      obtain ⟨p, ws, rfl, h1, r1⟩ := ac_lst rel h
      exact ⟨p, ws, rfl, .inl (.inl (.inl h1)), by rw [r1.len]; exact o.fz rel (.int _)⟩
  · cases e
    cases ax with
    | cons h t =>
      cases t
      obtain ⟨p, ws, rfl, h1, r1⟩ := ac_tup rel h
      exact ⟨p, ws, rfl, .inr (SqT.tup h1), by rw [r1.len]; exact o.fz rel (.int _)⟩
  · cases e
    cases ax with
    | cons h t =>
      cases t
      obtain ⟨p, ws, rfl, h1, r1⟩ := ac_ktp rel h
      exact ⟨p, ws, rfl, .inr h1, by rw [r1.len]; exact o.fz rel (.int _)⟩
  · next xs =>
    cases e
    cases ax with
    | cons h t =>
      cases t
      obtain ⟨p, rfl, h1⟩ := ac_scr rel h
      exact ⟨p, _, rfl, .inl h1, by rw [List.length_map]; exact o.fz rel (.int _)⟩
  · cases e
noncomputable def fLenS : List D → Option Val
  | [.str z] => gdO (z.length ≤ sizeLine) (vI (z.length : Int))
  | _ => none
theorem cb_lenStr : CbS c rLenStr fLenS := by
  intro σ w vs ds res Q rel ax e o
  unfold fLenS at e
  split at e
  · next z =>
    obtain ⟨hz, rfl⟩ := gdO_ok e
    cases ax with
    | cons h t =>
      cases t
      exact ⟨z, by rw [ac_str h], hz, o.fz rel (.int _)⟩
  · cases e
noncomputable def fI1 (g : Int → Int) : List D → Option Val
  | [.int i] => some (vI (g i))
  | _ => none
theorem fI1_ok {g : Int → Int} {ds : List D} {res : Val} (e : fI1 g ds = some res) : ∃ i, ds = [.int i] ∧ res = vI (g i) := by
  unfold fI1 at e
  split at e
  · next i => cases e; exact ⟨i, rfl, rfl⟩
  · cases e
theorem acs1 {d : D} {vs : List V} (h : AcRs c w vs [d]) : ∃ v, vs = [v] ∧ AcR c w v d := by
  cases h with
  | cons h t => cases t; exact ⟨_, rfl, h⟩
theorem acs2 {d d2 : D} {vs : List V} (h : AcRs c w vs [d, d2]) : ∃ v v2, vs = [v, v2] ∧ AcR c w v d ∧ AcR c w v2 d2 := by
  cases h with
  | cons h t =>
    obtain ⟨v2, rfl, h2⟩ := acs1 t
    exact ⟨_, v2, rfl, h, h2⟩
theorem cb_abs : CbS c (fun xs H Q => ∃ i, xs = [.int i] ∧ Q (.int (if i < 0 then -i else i)) H) (fI1 fun i => if i < 0 then -i else i) := by
  intro σ w vs ds res Q rel ax e o
  obtain ⟨i, rfl, rfl⟩ := fI1_ok e
  obtain ⟨v, rfl, h⟩ := acs1 ax
  exact ⟨i, by rw [ac_int h], o.fz rel (.int _)⟩
noncomputable def fInt : List D → Option Val
  | [.int i] => some (vI i)
  | [.bl k] => some (vI (if k then 1 else 0))
  | _ => none
theorem cb_int : CbS c (fun xs H Q => (∃ i, xs = [.int i] ∧ Q (.int i) H) ∨ ∃ k, xs = [.bl k] ∧ Q (.int (if k then 1 else 0)) H) fInt := by
  intro σ w vs ds res Q rel ax e o
  unfold fInt at e
  split at e
  · next i =>
    cases e
    obtain ⟨v, rfl, h⟩ := acs1 ax
    exact .inl ⟨i, by rw [ac_int h], o.fz rel (.int _)⟩
  · next k =>
    cases e
    obtain ⟨v, rfl, h⟩ := acs1 ax
    exact .inr ⟨k, by rw [ac_bl h], o.fz rel (.int _)⟩
  · cases e
noncomputable def intsD : List D → Option (List Int)
  | [] => some []
  | .int i :: ds => (intsD ds).map fun is => i :: is
  | _ :: _ => none
noncomputable def blns : List D → Option (List Bool)
  | [] => some []
  | .bl i :: ds => (blns ds).map fun is => i :: is
  | _ :: _ => none
theorem intsD_rep {F : Hp} : ∀ {ds : List D} {vs : List V} {is : List Int}, Reps c.b F vs ds → intsD ds = some is → vs = is.map V.int
  | [], _, _, r, e => by
    cases r
    cases e
    rfl
  | .int i :: ds, _, _, r, e => by
    cases r with
    | cons h t =>
      obtain ⟨is, e1, rfl⟩ := map_some (show (intsD ds).map _ = _ from e)
      cases h
      rw [intsD_rep t e1]
      rfl
  | .non :: _, _, _, _, e => by cases e
  | .bl _ :: _, _, _, _, e => by cases e
  | .str _ :: _, _, _, _, e => by cases e
  | .lst _ :: _, _, _, _, e => by cases e
  | .tup _ :: _, _, _, _, e => by cases e
  | .dic _ :: _, _, _, _, e => by cases e
  | .obj _ _ :: _, _, _, _, e => by cases e
  | .scr _ :: _, _, _, _, e => by cases e
  | .dit _ :: _, _, _, _, e => by cases e
  | .ktp _ :: _, _, _, _, e => by cases e
  | .ty _ :: _, _, _, _, e => by cases e
  | .cls _ :: _, _, _, _, e => by cases e
theorem blns_rep {F : Hp} : ∀ {ds : List D} {vs : List V} {is : List Bool}, Reps c.b F vs ds → blns ds = some is → vs = is.map V.bl
  | [], _, _, r, e => by
    cases r
    cases e
    rfl
  | .bl i :: ds, _, _, r, e => by
    cases r with
    | cons h t =>
      obtain ⟨is, e1, rfl⟩ := map_some (show (blns ds).map _ = _ from e)
      cases h
      rw [blns_rep t e1]
      rfl
  | .non :: _, _, _, _, e => by cases e
  | .int _ :: _, _, _, _, e => by cases e
  | .str _ :: _, _, _, _, e => by cases e
  | .lst _ :: _, _, _, _, e => by cases e
  | .tup _ :: _, _, _, _, e => by cases e
  | .dic _ :: _, _, _, _, e => by cases e
  | .obj _ _ :: _, _, _, _, e => by cases e
  | .scr _ :: _, _, _, _, e => by cases e
  | .dit _ :: _, _, _, _, e => by cases e
  | .ktp _ :: _, _, _, _, e => by cases e
  | .ty _ :: _, _, _, _, e => by cases e
  | .cls _ :: _, _, _, _, e => by cases e
/-- a list of numbers, or the script -/
noncomputable def nums : D → Option (List Int)
  | .lst ds => intsD ds
  | .scr is => some is
  | _ => none
theorem nums_ok {d : D} {is : List Int} (rel : RelE c σ w) (h : AcR c w v d) (e : nums d = some is) : ∃ p, v = .ref p ∧ SqL c.K w.H p (is.map V.int) := by
  unfold nums at e
  split at e
  · obtain ⟨p, vs, rfl, h1, r⟩ := ac_lst rel h
    rw [intsD_rep r e] at h1
    exact ⟨p, rfl, .inl (.inl h1)⟩
  · cases e
    exact ac_scr rel h
  · cases e
noncomputable def f1 {α : Type} (g : D → Option α) (k : α → Option Val) : List D → Option Val
  | [d] => (g d).bind k
  | _ => none
theorem f1_ok {α : Type} {g : D → Option α} {k : α → Option Val} {ds : List D} {res : Val} (e : f1 g k ds = some res) : ∃ d a, ds = [d] ∧ g d = some a ∧ k a = some res := by
  unfold f1 at e
  split at e
  · next d =>
    obtain ⟨a, h1, h2⟩ := obn e
    exact ⟨d, a, rfl, h1, h2⟩
  · cases e
noncomputable def fSum : List D → Option Val := f1 nums fun is => some (vI is.sum)
theorem cb_sum : CbS c (rSum c.K) fSum := by
  intro σ w vs ds res Q rel ax e o
  obtain ⟨d, is, rfl, h1, h2⟩ := f1_ok e
  cases h2
  obtain ⟨v, rfl, h⟩ := acs1 ax
  obtain ⟨p, rfl, hs⟩ := nums_ok rel h h1
  exact ⟨p, is, rfl, hs, o.fz rel (.int _)⟩
noncomputable def minL : List Int → Option Int
  | [] => none
  | i :: is => some (is.foldl (fun a b => if b < a then b else a) i)
theorem min_fold : ∀ (is : List Int) (i : Int), (is.foldl (fun a b => if b < a then b else a) i = i ∨ is.foldl (fun a b => if b < a then b else a) i ∈ is) ∧ is.foldl (fun a b => if b < a then b else a) i ≤ i ∧ ∀ y ∈ is, is.foldl (fun a b => if b < a then b else a) i ≤ y
  | [], i => ⟨.inl rfl, Int.le_refl _, fun y h => by cases h⟩
  | x :: is, i => by
    obtain ⟨h1, h2, h3⟩ := min_fold is (if x < i then x else i)
    rw [List.foldl_cons]
    generalize is.foldl (fun a b => if b < a then b else a) (if x < i then x else i) = r at h1 h2 h3 ⊢
    by_cases hx : x < i
    · rw [if_pos hx] at h1 h2
      refine ⟨.inr ?_, by omega, fun y hy => ?_⟩
      · rcases h1 with h1 | h1
        · rw [h1]; exact List.mem_cons_self
        · exact List.mem_cons_of_mem _ h1
      · rcases List.mem_cons.mp hy with rfl | hy
        · exact h2
        · exact h3 y hy
    · rw [if_neg hx] at h1 h2
      refine ⟨?_, h2, fun y hy => ?_⟩
      · rcases h1 with h1 | h1
        · exact .inl h1
        · exact .inr (List.mem_cons_of_mem _ h1)
      · rcases List.mem_cons.mp hy with rfl | hy
        · omega
        · exact h3 y hy
theorem minL_ok {is : List Int} {r m : Int} (h : minL is = some r) (hm : m ∈ is) (hy : ∀ y, y ∈ is → m ≤ y) : m = r := by
  cases is with
  | nil => cases h
  | cons i is =>
    cases h
    obtain ⟨h1, h2, h3⟩ := min_fold is i
    have hr : m ≤ is.foldl (fun a b => if b < a then b else a) i := hy _ (by
      rcases h1 with h1 | h1
      · rw [h1]; exact List.mem_cons_self
      · exact List.mem_cons_of_mem _ h1)
    rcases List.mem_cons.mp hm with rfl | hm
    · omega
    · have := h3 m hm
      omega
noncomputable def fMin : List D → Option Val := f1 nums fun is => (minL is).map vI
theorem cb_min : CbS c (rMin c.K) fMin := by
  intro σ w vs ds res Q rel ax e o
  obtain ⟨d, is, rfl, h1, h2⟩ := f1_ok e
  obtain ⟨r, h3, rfl⟩ := map_some h2
  obtain ⟨v, rfl, h⟩ := acs1 ax
  obtain ⟨p, rfl, hs⟩ := nums_ok rel h h1
  refine ⟨p, is, rfl, hs, ?_, fun m hm hy => ?_⟩
  · cases is with
    | nil => cases h3
    | cons _ _ => exact Nat.succ_pos _
  · rw [minL_ok h3 hm hy]
    exact o.fz rel (.int _)
noncomputable def boolsOf : D → Option (List Bool)
  | .lst ds => blns ds
  | _ => none
theorem bools_ok {d : D} {is : List Bool} (rel : RelE c σ w) (h : AcR c w v d) (e : boolsOf d = some is) : ∃ p, v = .ref p ∧ SqL c.K w.H p (is.map V.bl) := by
  unfold boolsOf at e
  split at e
  · obtain ⟨p, vs, rfl, h1, r⟩ := ac_lst rel h
    rw [blns_rep r e] at h1
    exact ⟨p, rfl, .inl (.inl h1)⟩
  · cases e
noncomputable def fAll : List D → Option Val := f1 boolsOf fun is => bB (is.all id)
theorem cb_all : CbS c (rAll c.K) fAll := by
  intro σ w vs ds res Q rel ax e o
  obtain ⟨d, is, rfl, h1, h2⟩ := f1_ok e
  cases h2
  obtain ⟨v, rfl, h⟩ := acs1 ax
  obtain ⟨p, rfl, hs⟩ := bools_ok rel h h1
  exact ⟨p, is, rfl, hs, o.fz rel (.bl _)⟩
noncomputable def seqOf : D → Option (List D)
  | .lst ds => some ds
  | .tup ds => some ds
  | .ktp ds => some ds
  | .scr is => some (is.map .int)
  | _ => none
theorem reps_ints {F : Hp} : ∀ is : List Int, Reps c.b F (is.map V.int) (is.map D.int)
  | [] => .nil
  | i :: is => .cons (.int i) (reps_ints is)
theorem seq_ok {d : D} {es : List D} (rel : RelE c σ w) (h : AcR c w v d) (e : seqOf d = some es) : ∃ p vs, v = .ref p ∧ (SqL c.K w.H p vs ∨ SqT c.K w.H p vs) ∧ Reps c.b w.F vs es := by
  unfold seqOf at e
  split at e
  · cases e
    obtain ⟨p, vs, rfl, h1, r⟩ := ac_lst rel h
    exact ⟨p, vs, rfl, .inl (.inl (.inl h1)), r⟩
  · cases e
    obtain ⟨p, vs, rfl, h1, r⟩ := ac_tup rel h
    exact ⟨p, vs, rfl, .inr (SqT.tup h1), r⟩
  · cases e
    obtain ⟨p, vs, rfl, h1, r⟩ := ac_ktp rel h
    exact ⟨p, vs, rfl, .inr h1, r⟩
  · cases e
    obtain ⟨p, rfl, h1⟩ := ac_scr rel h
    exact ⟨p, _, rfl, .inl h1, reps_ints _⟩
  · cases e
end
end MR
set_option autoImplicit false
namespace MR
open PySem PySem.Spec PyProof.Rows L2
noncomputable def SlS (c : Ctx) (r : V → Option Int → Option Int → Hp → VK → Prop) (f : D → Option Int → Option Int → Option Val) : Prop := ∀ (σ : L2.St) (w : Wd) (x : V) (a : D) (lo hi : Option Int) (res : Val) (Q : VK), RelE c σ w → AcR c w x a → f a lo hi = some res → Out c σ w res Q → r x lo hi w.H Q
noncomputable def SimO (c : Ctx) (E : Option (L2.St → XK)) (t : TO) (m : En → R (Option Int)) : Prop := ∀ (σ : L2.St) (w : Wd) (Q : Option Int → Hp → Prop), RelE c σ w →
  Cn c E σ w (m w.env) (fun a e => ∀ F' H', RelE c σ ⟨F', H', e⟩ → LeS σ w σ ⟨F', H', e⟩ → Q a H') → t σ w.H Q
noncomputable def vI? : Val → Option Int
  | .fz (.int i) => some i
  | _ => none
noncomputable def mNoPart (e : En) : R (Option Int) := .ok none e
noncomputable def mPart (m : En → R Val) (e : En) : R (Option Int) := (m e).bind fun a e1 => R.of ((vI? a).map some) e1
noncomputable def mSl (f : D → Option Int → Option Int → Option Val) (ma : En → R Val) (ml mh : En → R (Option Int)) (e : En) : R Val := (mP ma e).bind fun a e1 => (ml e1).bind fun l e2 => (mh e2).bind fun h e3 => R.of ((con a e3).bind fun x => f x l h) e3
noncomputable def cutD {α : Type} (xs : List α) (lo hi : Option Int) : List α := (xs.drop (HT.sIx xs.length 0 lo)).take (HT.sIx xs.length xs.length hi - HT.sIx xs.length 0 lo)
noncomputable def fSl : D → Option Int → Option Int → Option Val
  | .lst xs, lo, hi => some (.new (.lst (cutD xs lo hi)))
  | .tup xs, lo, hi => gdO (¬ (HT.sIx xs.length 0 lo = 0 ∧ HT.sIx xs.length xs.length hi = xs.length)) (.fz (.tup (cutD xs lo hi)))
  | .str z, lo, hi => gdO (z.length ≤ sizeLine) (.fz (.str (cutS z lo hi)))
  | .scr xs, lo, hi => some (.new (.lst (cutD (xs.map D.int) lo hi)))
  | _, _, _ => none
noncomputable def rSlA (K : PySem.W.Frag) : V → Option Int → Option Int → Hp → VK → Prop := fun x lo hi H Q => rSlL K x lo hi H Q ∨ rSlT K x lo hi H Q ∨ rSlS x lo hi H Q
theorem sl_all {X : Cx} {K : PySem.W.Frag} (h : X.K = K) : SlR X (rSlA K) := by
  subst h
  intro pins s σ H x v vl vu lo hi sl Q I rx hs pl pu q
  rcases q with q | q | q
  · exact sl_list pins s σ H x v vl vu lo hi sl Q I rx hs pl pu q
  · exact sl_tup pins s σ H x v vl vu lo hi sl Q I rx hs pl pu q
  · exact sl_str pins s σ H x v vl vu lo hi sl Q I rx hs pl pu q
section
variable {c : Ctx} {E : Option (L2.St → XK)} {σ : L2.St} {w w0 : Wd} {Q : VK} {v x y : V} {t u ta tb tc : TE} {m n ma mb mc : En → R Val} {tt : TA} {ms : En → R (List Val)} {tl th : TO} {ml mh : En → R (Option Int)}
theorem vI?_ok {H0 : Hp} {a : Val} {b : Int} (h : vI? a = some b) (vr : VR c σ H0 w v a) : v = .int b := by
  unfold vI? at h
  split at h
  · cases h
    have vr : Rep c.b w.F v (.int b) := vr
    cases vr
    rfl
  · cases h
theorem SimO.to {β : Type} {k : Option Int → En → R β} {K : β → En → Prop} {w1 : Wd} {Q : Option Int → Hp → Prop} (h : SimO c E tl ml) (rel : RelE c σ w1) (l : LeS σ w σ w1) (q : Cn c E σ w ((ml w1.env).bind k) K)
    (hk : ∀ a w2, RelE c σ w2 → LeS σ w1 σ w2 → Cn c E σ w (k a w2.env) K → Q a w2.H) : tl σ w1.H Q := by
  refine h σ w1 Q rel ?_
  cases hm : ml w1.env with
  | st => rw [hm] at q; exact q
  | er x e => rw [hm] at q; exact KE.step q l
  | ok a e =>
    rw [hm] at q
    exact fun F' H' r l1 => hk a ⟨F', H', e⟩ r l1 q
theorem s_noPart : SimO c E tNoPart mNoPart := fun σ w Q rel q => q w.F w.H rel (LeS.refl σ w)
theorem s_part (h : SimE c E t m) : SimO c E (tPart t) (mPart m) := by
  intro σ w Q rel q
  refine h.to rel (LeS.refl σ w) q fun a w1 x r1 l1 v1 q1 => ?_
  obtain ⟨o, e, k⟩ := Cn.of q1
  obtain ⟨i, e3, rfl⟩ := map_some e
  exact ⟨i, vI?_ok e3 v1, k _ _ r1 l1⟩
theorem s_sl {r : V → Option Int → Option Int → Hp → VK → Prop} {f : D → Option Int → Option Int → Option Val} (h : SlS c r f) (ha : SimE c E ta ma) (hl : SimO c E tl ml) (hh : SimO c E th mh) : SimE c E (tSl r ta tl th) (mSl f ma ml mh) := by
  intro σ w Q rel q
  refine ha.p.to rel (LeS.refl σ w) q fun a w1 x r1 l1 na v1 q1 => ?_
  refine hl.to r1 l1 q1 fun lo w2 r2 l2 q2 => ?_
  refine hh.to r2 (l1.trans l2) q2 fun hi w3 r3 l3 q3 => ?_
  obtain ⟨res, e, k⟩ := Cn.of q3
  obtain ⟨da, ea, e⟩ := obn e
  exact h σ w3 x da lo hi res Q r3 (con_ok (H0 := w3.H) r3 na (v1.later na (l2.trans l3)) ea) e (Out.at k ((l1.trans l2).trans l3))
theorem cut_rep {F : Hp} {vs : List V} {ds : List D} {lo hi : Option Int} (r : Reps c.b F vs ds) : Reps c.b F (cutV vs lo hi) (cutD ds lo hi) := by
  unfold cutV cutD
  rw [r.len]
  exact (r.drop _).take _
theorem sl_ok : SlS c (rSlA c.K) fSl := by
  intro σ w x a lo hi res Q rel ax e o
  unfold fSl at e
  split at e
  · cases e
    obtain ⟨p, vs, rfl, h1, r⟩ := ac_lst rel ax
    exact .inl ⟨p, vs, rfl, .inl (.inl h1), fun q n => o.newL rel (cut_rep r) n⟩
  · obtain ⟨hp, rfl⟩ := gdO_ok e
    obtain ⟨p, vs, rfl, h1, r⟩ := ac_tup rel ax
    exact .inr (.inl ⟨p, vs, rfl, SqT.tup h1, by rw [r.len]; exact hp, fun q n => o.newT rel (cut_rep r) n⟩)
  · obtain ⟨hp, rfl⟩ := gdO_ok e
    exact .inr (.inr ⟨_, ac_str ax, hp, o.fz rel (.str _)⟩)
  · next is =>
    cases e
    rcases ax with ax | ⟨_, _, own⟩
    · cases ax with
      | scr es => exact .inl ⟨_, _, rfl, rel.sm.seq es, fun q n => o.newL rel (cut_rep (reps_ints is)) n⟩
    · exact own.elim
  · cases e
noncomputable def keyOf : D → Option Key
  | .int i => some (.inl i)
  | .str z => some (.inr z)
  | _ => none
noncomputable def keysOf : List D → Option (List Key)
  | [] => some []
  | d :: ds => (keyOf d).bind fun k => (keysOf ds).map fun ks => k :: ks
noncomputable def dval {κ : Type} [DecidableEq κ] (ds : List (κ × D)) (k : κ) : Option D := (ds.find? fun kv => decide (kv.1 = k)).map (·.2)
theorem keyOf_rep {F : Hp} {d : D} {k : Key} (r : Rep c.b F v d) (e : keyOf d = some k) : v = kV k := by
  cases d with
  | int i => cases e; cases r; rfl
  | str i => cases e; cases r; rfl
  | _ => cases e
theorem keyOf_ac {d : D} {k : Key} (r : AcR c w v d) (e : keyOf d = some k) : v = kV k := by
  cases d with
  | int i => cases e; exact ac_int r
  | str i => cases e; exact ac_str r
  | _ => cases e
theorem keysOf_rep {F : Hp} : ∀ {ds : List D} {vs : List V} {ks : List Key}, Reps c.b F vs ds → keysOf ds = some ks → vs = ks.map kV
  | [], _, _, r, e => by
    cases r
    cases e
    rfl
  | d :: ds, _, _, r, e => by
    cases r with
    | cons h t =>
      obtain ⟨k, e1, e⟩ := obn e
      obtain ⟨ks, e2, rfl⟩ := map_some e
      rw [keyOf_rep h e1, keysOf_rep t e2]
      rfl
theorem dval_rep {κ : Type} [DecidableEq κ] {F : Hp} (k : κ) : ∀ {kvs : List (κ × V)} {ds : List (κ × D)}, kvs.map (·.1) = ds.map (·.1) → Reps c.b F (kvs.map (·.2)) (ds.map (·.2)) →
    (dval ds k = none ∧ valV kvs k = none) ∨ ∃ d v, dval ds k = some d ∧ valV kvs k = some v ∧ Rep c.b F v d
  | [], [], _, _ => .inl ⟨rfl, rfl⟩
  | [], _ :: _, e, _ => by cases e
  | _ :: _, [], e, _ => by cases e
  | (k1, v) :: kvs, (k2, d) :: ds, e, r => by
    rw [List.map_cons, List.map_cons] at e
    injection e with e1 e2
    have e1 : k1 = k2 := e1
    subst e1
    cases r with
    | cons h t =>
      by_cases z : k1 = k
      · refine .inr ⟨d, v, ?_, valV_pos (p := (k1, v)) z, h⟩
        simp [dval, List.find?_cons, z]
      · have ih := dval_rep (F := F) k (kvs := kvs) (ds := ds) e2 t
        have e3 : dval ((k1, d) :: ds) k = dval ds k := by simp [dval, List.find?_cons, z]
        rw [e3, valV_neg (p := (k1, v)) z]
        exact ih
noncomputable def fDGet : D → D → Option Val
  | .dic ds, k => (keyOf k).bind fun k => (dval ds k).map .fz
  | .dit ds, .tup k => (keysOf k).bind fun k => (dval ds k).map .fz
  | _, _ => none
noncomputable def rDGet : R2 := fun x y H Q => ∃ a v, x = .ref a ∧ DGet H a y (some v) ∧ Q v H
theorem o_dget : OpS c rDGet fDGet := by
  intro σ w x y a b res Q rel ax ay e o
  unfold fDGet at e
  split at e
  · next ds k =>
    obtain ⟨k2, e1, e⟩ := obn e
    obtain ⟨d, e2, rfl⟩ := map_some e
    obtain ⟨p, kvs, rfl, h1, hk, r⟩ := ac_dic rel ax
    rcases dval_rep k2 hk r with ⟨h, _⟩ | ⟨d2, v, h, hv, rv⟩
    · rw [h] at e2; cases e2
    · rw [h] at e2
      cases e2
      exact ⟨p, v, rfl, .inl ⟨kvs, k2, .inl h1, keyOf_ac ay e1, hv.symm⟩, o.fz rel rv⟩
  · next ds k =>
    obtain ⟨k2, e1, e⟩ := obn e
    obtain ⟨d, e2, rfl⟩ := map_some e
    obtain ⟨p, kvs, rfl, h1, hk, r⟩ := ac_dit rel ax
    obtain ⟨b, vs, rfl, h2, r2⟩ := ac_tup rel ay
    rcases dval_rep k2 hk r with ⟨h, _⟩ | ⟨d2, v, h, hv, rv⟩
    · rw [h] at e2; cases e2
    · rw [h] at e2
      cases e2
      exact ⟨p, v, rfl, .inr ⟨kvs, k2, b, .inl h1, rfl, by rw [h2, keysOf_rep r2 e1], hv.symm⟩, o.fz rel rv⟩
  · cases e
/-- k in d: the key comes first -/
noncomputable def fDIn : D → D → Option Val
  | k, .dic ds => (keyOf k).bind fun k => bB (dval ds k).isSome
  | .tup k, .dit ds => (keysOf k).bind fun k => bB (dval ds k).isSome
  | _, _ => none
noncomputable def rDIn : R2 := fun y x H Q => ∃ a o, x = .ref a ∧ DGet H a y o ∧ Q (.bl o.isSome) H
theorem din_at {k : Key} {ds : List (Key × D)} (rel : RelE c σ w) (ax : AcR c w x (.dic ds)) (hy : y = kV k) : ∃ a o, x = .ref a ∧ DGet w.H a y o ∧ o.isSome = (dval ds k).isSome := by
  obtain ⟨p, kvs, rfl, h1, hk, r⟩ := ac_dic rel ax
  refine ⟨p, valV kvs k, rfl, .inl ⟨kvs, k, .inl h1, hy, rfl⟩, ?_⟩
  rcases dval_rep k hk r with ⟨h, h2⟩ | ⟨d2, v, h, hv, rv⟩
  · rw [h, h2]; rfl
  · rw [h, hv]; rfl
theorem dinT_at {k : List Key} {kd : List D} {ds : List (List Key × D)} (rel : RelE c σ w) (ax : AcR c w x (.dit ds)) (ay : AcR c w y (.tup kd)) (e : keysOf kd = some k) : ∃ a o, x = .ref a ∧ DGet w.H a y o ∧ o.isSome = (dval ds k).isSome := by
  obtain ⟨p, kvs, rfl, h1, hk, r⟩ := ac_dit rel ax
  obtain ⟨b, vs, rfl, h2, r2⟩ := ac_tup rel ay
  refine ⟨p, valV kvs k, rfl, .inr ⟨kvs, k, b, .inl h1, rfl, by rw [h2, keysOf_rep r2 e], rfl⟩, ?_⟩
  rcases dval_rep k hk r with ⟨h, h2⟩ | ⟨d2, v, h, hv, rv⟩
  · rw [h, h2]; rfl
  · rw [h, hv]; rfl
theorem o_din : OpS c rDIn fDIn := by
  intro σ w y x b a res Q rel ay ax e o
  unfold fDIn at e
  split at e
  · next ds =>
    obtain ⟨k2, e1, e⟩ := obn e
    cases e
    obtain ⟨p, oo, h1, h2, h3⟩ := din_at rel ax (keyOf_ac ay e1)
    exact ⟨p, oo, h1, h2, by rw [h3]; exact o.fz rel (.bl _)⟩
  · next ds =>
    obtain ⟨k2, e1, e⟩ := obn e
    cases e
    obtain ⟨p, oo, h1, h2, h3⟩ := dinT_at rel ax ay e1
    exact ⟨p, oo, h1, h2, by rw [h3]; exact o.fz rel (.bl _)⟩
  · cases e
theorem s_dget {td ty : TE} {md mk : En → R Val} (hd : SimE c E td md) (hk : SimE c E ty mk) : SimE c E (tDGet td ty) (mOp fDGet md mk) := s_op o_dget hd hk
theorem s_din {td ty : TE} {md mk : En → R Val} (hk : SimE c E ty mk) (hd : SimE c E td md) : SimE c E (tDIn ty td) (mOp fDIn mk md) := s_op o_din hk hd
noncomputable def flatD : D → Bool
  | .non => true
  | .bl _ => true
  | .int _ => true
  | .str _ => true
  | _ => false
noncomputable def toV : D → V
  | .bl b => .bl b
  | .int i => .int i
  | .str z => .str z
  | _ => .non
theorem flat_rep {F : Hp} {d : D} (r : Rep c.b F v d) (h : flatD d = true) : v = toV d ∧ flatV v = true := by
  cases d with
  | non => cases r; exact ⟨rfl, rfl⟩
  | bl _ => cases r; exact ⟨rfl, rfl⟩
  | int _ => cases r; exact ⟨rfl, rfl⟩
  | str _ => cases r; exact ⟨rfl, rfl⟩
  | _ => cases h
theorem flat_ac {d : D} (r : AcR c w v d) (h : flatD d = true) : v = toV d ∧ flatV v = true := by
  rcases r with r | ⟨p, _, r⟩
  · exact flat_rep r h
  · cases d with
    | non => exact r.elim
    | bl _ => exact r.elim
    | int _ => exact r.elim
    | str _ => exact r.elim
    | _ => cases h
theorem flat_reps {F : Hp} : ∀ {ds : List D} {vs : List V}, Reps c.b F vs ds → ds.all flatD = true → vs = ds.map toV ∧ vs.all flatV = true
  | [], _, r, _ => by cases r; exact ⟨rfl, rfl⟩
  | d :: ds, _, r, h => by
    cases r with
    | cons a t =>
      rw [List.all_cons, Bool.and_eq_true] at h
      obtain ⟨h1, h2⟩ := flat_rep a h.1
      obtain ⟨h3, h4⟩ := flat_reps t h.2
      exact ⟨by rw [h1, h3] <;> rfl, by rw [List.all_cons, h2, h4] <;> rfl⟩
noncomputable def fIn (neg : Bool) (a b : D) : Option Val := (seqOf b).bind fun ds => gdO (flatD a = true ∧ ds.all flatD = true) (.fz (.bl (if neg then !inV (toV a) (ds.map toV) else inV (toV a) (ds.map toV))))
theorem o_in (neg : Bool) : OpS c (rIn c.K neg) (fIn neg) := by
  intro σ w x y a b res Q rel ax ay e o
  obtain ⟨ds, e1, e⟩ := obn e
  obtain ⟨⟨h1, h2⟩, rfl⟩ := gdO_ok e
  obtain ⟨p, vs, rfl, hs, r⟩ := seq_ok rel ay e1
  obtain ⟨rfl, f1⟩ := flat_ac ax h1
  obtain ⟨rfl, f2⟩ := flat_reps r h2
  exact ⟨p, _, rfl, hs, f1, f2, o.fz rel (.bl _)⟩
noncomputable def sval (ds : List (Str × D)) (f : Str) : Option D := ds.lookup f
theorem sval_rep {F : Hp} (f : Str) : ∀ {fs : List (Str × V)} {ds : List (Str × D)}, fs.map (·.1) = ds.map (·.1) → Reps c.b F (fs.map (·.2)) (ds.map (·.2)) →
    (ds.lookup f = none ∧ fs.lookup f = none) ∨ ∃ d v, ds.lookup f = some d ∧ fs.lookup f = some v ∧ Rep c.b F v d
  | [], [], _, _ => .inl ⟨rfl, rfl⟩
  | [], _ :: _, e, _ => by cases e
  | _ :: _, [], e, _ => by cases e
  | (k1, v) :: kvs, (k2, d) :: ds, e, r => by
    rw [List.map_cons, List.map_cons] at e
    injection e with e1 e2
    have e1 : k1 = k2 := e1
    subst e1
    cases r with
    | cons h t =>
      rw [List.lookup_cons, List.lookup_cons]
      cases z : f == k1 with
      | true => exact .inr ⟨d, v, rfl, rfl, h⟩
      | false => exact sval_rep f e2 t
/-- what the classes of these names are -/
noncomputable def ClsOk (c : Ctx) (ns : List Str) (f : Str) : Prop := ∀ n ∈ ns, Cls c.K (c.cls n) ∧ NoAttr c.K (c.cls n) f
noncomputable def mFld (ns : List Str) (f : Str) (ma : En → R Val) (e : En) : R Val := (mP ma e).bind fun a e1 => R.of ((con a e1).bind fun x => match x with
  | .obj n ds => if n ∈ ns then (ds.lookup f).map .fz else none
  | _ => none) e1
/-- a constant of a class, read off the class -/
noncomputable def mCVal (n : Str) (d : D) (ma : En → R Val) (e : En) : R Val := (mP ma e).bind fun a e1 => R.of ((con a e1).bind fun x => match x with
  | .cls n2 => gdO (n2 = n) (.fz d)
  | _ => none) e1
end
end MR
set_option autoImplicit false
namespace MR
open PySem PySem.Spec PyProof.Rows L2
section
variable {c : Ctx} {E : Option (L2.St → XK)} {σ : L2.St} {w w0 : Wd} {Q : VK} {v x y : V}
theorem get_set {env : En} {i j : Nat} {s s' : Sl} (h : (env.set i s)[j]? = some s') : (j = i ∧ s' = s) ∨ (j ≠ i ∧ env[j]? = some s') := by
  by_cases z : j = i
  · subst z
    by_cases hl : j < env.length
    · rw [List.getElem?_set_self hl] at h
      cases h
      exact .inl ⟨rfl, rfl⟩
    · rw [List.getElem?_eq_none (by rw [List.length_set]; omega)] at h
      cases h
  · rw [List.getElem?_set_ne (Ne.symm z)] at h
    exact .inr ⟨z, h⟩
/-- a slot may be stored: it is not pinned and not locked -/
noncomputable def canSet : Option Sl → Bool
  | some (.ow a b _) => !a && !b
  | some _ => true
  | none => false
theorem canSet_ok {env : En} {i : Nat} (h : canSet env[i]? = true) : i < env.length ∧ ∀ a b d, env[i]? = some (.ow a b d) → (a || b) = false := by
  cases e : env[i]? with
  | none => rw [e] at h; cases h
  | some s =>
    refine ⟨(List.getElem?_eq_some_iff.mp e).1, fun a b d h2 => ?_⟩
    rw [e] at h
    cases h2
    have h : (!a && !b) = true := h
    revert h
    cases a <;> cases b <;> decide
/-- a frozen value is stored -/
theorem set_fz {i : Nat} {d : D} (rel : RelE c σ w) (cs : canSet w.env[i]? = true) (r : Rep c.b w.F v d) : RelE c (σ.set i (some v)) ⟨w.F, w.H, w.env.set i (.fz d)⟩ ∧ LeS σ w (σ.set i (some v)) ⟨w.F, w.H, w.env.set i (.fz d)⟩ := by
  obtain ⟨hl, hn⟩ := canSet_ok cs
  have hσ : i < σ.length := by rw [rel.len]; exact hl
  have gow : ∀ (j : Nat) (a b : Bool) (d' : D), (w.env.set i (.fz d))[j]? = some (.ow a b d') → j ≠ i ∧ w.env[j]? = some (.ow a b d') := fun j a b d' h => by
    rcases get_set h with ⟨_, z⟩ | z
    · cases z
    · exact z
  refine ⟨⟨?_, fun j s hs => ?_, fun j k a b d1 a' b' d2 p h1 h2 e1 e2 => ?_, rel.sm, fun j d' z => rel.pl j d' (gow _ _ _ _ z).2⟩, ⟨Same.refl _, fun _ _ _ h => h, fun _ _ _ => rfl, fun _ h => h, fun p ⟨j, a, d', hj, hp⟩ => ?_, fun p ⟨j, a, d', hj, hp⟩ => ?_, fun j a b d' hj ab => ?_⟩⟩
  · show (σ.set i _).length = (w.env.set i _).length
    rw [List.length_set, List.length_set]
    exact rel.len
  · rcases get_set hs with ⟨rfl, rfl⟩ | ⟨ne, hs⟩
    · exact ⟨_, List.getElem?_set_self hσ, v, rfl, r⟩
    · obtain ⟨o, h1, h2⟩ := rel.at_ j s hs
      exact ⟨o, by rw [List.getElem?_set_ne (Ne.symm ne)]; exact h1, h2⟩
  · obtain ⟨n1, h1⟩ := gow _ _ _ _ h1
    obtain ⟨n2, h2⟩ := gow _ _ _ _ h2
    rw [List.getElem?_set_ne (Ne.symm n1)] at e1
    rw [List.getElem?_set_ne (Ne.symm n2)] at e2
    exact rel.ne j k a b d1 a' b' d2 p h1 h2 e1 e2
  · obtain ⟨n1, h1⟩ := gow _ _ _ _ hj
    rw [List.getElem?_set_ne (Ne.symm n1)] at hp
    exact .inl ⟨j, a, d', h1, hp⟩
  · obtain ⟨n1, h1⟩ := gow _ _ _ _ hj
    rw [List.getElem?_set_ne (Ne.symm n1)] at hp
    exact .inl ⟨j, a, d', h1, hp⟩
  · have ne : j ≠ i := fun z => by
      subst z
      rw [hn a b d' hj] at ab
      cases ab
    refine ⟨d', ?_, List.getElem?_set_ne (Ne.symm ne), fun _ => rfl⟩
    show (w.env.set i _)[j]? = _
    rw [List.getElem?_set_ne (Ne.symm ne)]
    exact hj
/-- a new thing is stored: it is mine -/
theorem set_new {i : Nat} {d : D} {p : Addr} (rel : RelE c σ w) (le : LeS σ w0 σ w) (cs : canSet w.env[i]? = true) (n0 : w0.H p = none) (nf : w.F p = none) (own : Own c w.F w.H p d) (ns : ∀ (j : Nat) (a b : Bool) (d' : D), w.env[j]? = some (.ow a b d') → σ[j]? ≠ some (some (.ref p))) :
    RelE c (σ.set i (some (.ref p))) ⟨w.F, w.H, w.env.set i (.ow false false d)⟩ ∧ LeS σ w0 (σ.set i (some (.ref p))) ⟨w.F, w.H, w.env.set i (.ow false false d)⟩ := by
  obtain ⟨hl, hn⟩ := canSet_ok cs
  have hσ : i < σ.length := by rw [rel.len]; exact hl
  have gs : ∀ j, j ≠ i → (σ.set i (some (V.ref p)))[j]? = σ[j]? := fun j ne => List.getElem?_set_ne (Ne.symm ne)
  have gi : (σ.set i (some (V.ref p)))[i]? = some (some (V.ref p)) := List.getElem?_set_self hσ
  refine ⟨⟨?_, fun j s hs => ?_, fun j k a b d1 a' b' d2 q h1 h2 e1 e2 => ?_, rel.sm, fun j d' z => (get_set z).elim (fun y => nomatch y.2) fun y => rel.pl j d' y.2⟩, ⟨le.ff, le.hh, le.fn, le.dom, fun q ⟨j, a, d', hj, hp⟩ => ?_, fun q ⟨j, a, d', hj, hp⟩ => ?_, fun j a b d' hj ab => ?_⟩⟩
  · show (σ.set i _).length = (w.env.set i _).length
    rw [List.length_set, List.length_set]
    exact rel.len
  · rcases get_set hs with ⟨rfl, rfl⟩ | ⟨ne, hs⟩
    · exact ⟨_, gi, p, rfl, nf, own⟩
    · obtain ⟨o, h1, h2⟩ := rel.at_ j s hs
      exact ⟨o, (gs j ne).trans h1, h2⟩
  · rcases get_set h1 with ⟨z1, y1⟩ | ⟨n1, h1⟩ <;> rcases get_set h2 with ⟨z2, y2⟩ | ⟨n2, h2⟩
    · exact z1.trans z2.symm
    · rw [z1, gi] at e1
      cases e1
      rw [gs k n2] at e2
      exact (ns k _ _ _ h2 e2).elim
    · rw [z2, gi] at e2
      cases e2
      rw [gs j n1] at e1
      exact (ns j _ _ _ h1 e1).elim
    · rw [gs j n1] at e1
      rw [gs k n2] at e2
      exact rel.ne j k a b d1 a' b' d2 q h1 h2 e1 e2
  · rcases get_set hj with ⟨z1, y1⟩ | ⟨n1, h1⟩
    · rw [z1, gi] at hp
      cases hp
      exact .inr n0
    · rw [gs j n1] at hp
      exact le.bb q ⟨j, a, d', h1, hp⟩
  · rcases get_set hj with ⟨z1, y1⟩ | ⟨n1, h1⟩
    · rw [z1, gi] at hp
      cases hp
      exact .inr n0
    · rw [gs j n1] at hp
      exact le.bu q ⟨j, a, d', h1, hp⟩
  · obtain ⟨d1, h1, e1, q1⟩ := le.pn j a b d' hj ab
    have ne : j ≠ i := fun z => by
      subst z
      rw [hn a b d1 h1] at ab
      cases ab
    refine ⟨d1, ?_, (gs j ne).trans e1, q1⟩
    show (w.env.set i _)[j]? = _
    rw [List.getElem?_set_ne (Ne.symm ne)]
    exact h1
/-- what is mine is changed -/
theorem put_own {i : Nat} {a : Bool} {d d' : D} {p : Addr} {o : HO} (rel : RelE c σ w) (hs : w.env[i]? = some (.ow a false d)) (hp : σ[i]? = some (some (.ref p))) (own : Own c w.F (upd w.H p o) p d') :
    RelE c σ ⟨w.F, upd w.H p o, w.env.set i (.ow a false d')⟩ ∧ LeS σ w σ ⟨w.F, upd w.H p o, w.env.set i (.ow a false d')⟩ := by
  have il : i < w.env.length := (List.getElem?_eq_some_iff.mp hs).1
  obtain ⟨ov, h1, p1, rfl, nf, own0⟩ := rel.at_ i _ hs
  rw [hp] at h1
  cases h1
  have gow : ∀ (j : Nat) (a' b : Bool) (d1 : D), (w.env.set i (.ow a false d'))[j]? = some (.ow a' b d1) → ∃ d2, w.env[j]? = some (.ow a' b d2) := fun j a' b d1 h => by
    rcases get_set h with ⟨rfl, z⟩ | ⟨_, z⟩
    · cases z
      exact ⟨d, hs⟩
    · exact ⟨d1, z⟩
  have bp : Bm σ w.env p := ⟨i, a, d, hs, hp⟩
  refine ⟨⟨?_, fun j s hj => ?_, fun j k a1 b1 d1 a2 b2 d2 q h1 h2 e1 e2 => ?_, fun q u hq => ?_, fun j d1 z => (get_set z).elim (fun y => nomatch y.2) fun y => rel.pl j d1 y.2⟩, ⟨Same.refl _, fun q u nb hq => ?_, fun _ _ _ => rfl, fun q hq z => ?_, fun q ⟨j, a', d1, hj, hq⟩ => ?_, fun q ⟨j, a', d1, hj, hq⟩ => ?_, fun j a' b d1 hj ab => ?_⟩⟩
  · show σ.length = (w.env.set i _).length
    rw [List.length_set]
    exact rel.len
  · rcases get_set hj with ⟨rfl, rfl⟩ | ⟨ne, hj2⟩
    · exact ⟨_, hp, p, rfl, nf, own⟩
    · obtain ⟨ov, h1, h2⟩ := rel.at_ j s hj2
      refine ⟨ov, h1, ?_⟩
      cases s with
      | un => exact True.intro
      | ex => exact h2
      | fz d => exact h2
      | ow a' b' d1 =>
        obtain ⟨q, rfl, f, own1⟩ := h2
        have : q ≠ p := fun z => by
          subst z
          exact ne (rel.ne j i _ _ _ _ _ _ _ hj2 hs h1 hp)
        exact ⟨q, rfl, f, own1.step (Same.refl _) fun u hu => (upd_ne this).trans hu⟩
  · obtain ⟨d3, h3⟩ := gow _ _ _ _ h1
    obtain ⟨d4, h4⟩ := gow _ _ _ _ h2
    exact rel.ne j k _ _ _ _ _ _ q h3 h4 e1 e2
  · exact (upd_ne fun z => by
      subst z
      rw [nf] at hq
      cases hq).trans (rel.sm _ _ hq)
  · exact (upd_ne fun z => nb (by rw [z]; exact bp)).trans hq
  · by_cases y : q = p
    · subst y
      have z : upd w.H q o q = none := z
      rw [upd_same] at z
      cases z
    · have z : upd w.H p o q = none := z
      rw [upd_ne y] at z
      exact hq z
  · obtain ⟨d2, h2⟩ := gow _ _ _ _ hj
    exact .inl ⟨j, a', d2, h2, hq⟩
  · obtain ⟨d2, h2⟩ := gow _ _ _ _ hj
    exact .inl ⟨j, a', d2, h2, hq⟩
  · by_cases z : j = i
    · subst z
      rw [hs] at hj
      cases hj
      exact ⟨d', List.getElem?_set_self il, rfl, fun z => nomatch z⟩
    · refine ⟨d1, ?_, rfl, fun _ => rfl⟩
      show (w.env.set i _)[j]? = _
      rw [List.getElem?_set_ne (Ne.symm z)]
      exact hj
end
inductive O where
  | st
  | nx (e : En)
  | rt (a : Val) (e : En)
  | bk (e : En)
  | ct (e : En)
  | er (x : Xn) (e : En)
noncomputable def O.bind (o : O) (k : En → O) : O := match o with
  | .nx e => k e
  | o => o
noncomputable def R.o {α : Type} (r : R α) (k : α → En → O) : O := match r with
  | .st => .st
  | .ok a e => k a e
  | .er x e => .er x e
section
variable (c : Ctx) (E : Option (L2.St → XK))
/-- what is handed out: frozen, or new (since σ, w: made later, or mine then) -/
noncomputable def VT (σ : L2.St) (w : Wd) (σ' : L2.St) (w' : Wd) (v : V) : Val → Prop
  | .fz d => Rep c.b w'.F v d
  | .at _ => False
  | .new d => ∃ p, v = .ref p ∧ (Bu σ w.env p ∨ w.H p = none) ∧ w'.F p = none ∧ Own c w'.F w'.H p d ∧ ∀ (i : Nat) (a b : Bool) (d' : D), w'.env[i]? = some (.ow a b d') → σ'[i]? ≠ some (some (.ref p))
structure Goes (σ : L2.St) (w : Wd) (e : En) (G : L2.St → Hp → Prop) : Prop where
  go : ∀ σ' F' H', RelE c σ' ⟨F', H', e⟩ → LeS σ w σ' ⟨F', H', e⟩ → G σ' H'
noncomputable def KEs (σ : L2.St) (w : Wd) (x : Xn) (e : En) : Prop := match E with
  | none => False
  | some E => ∀ σ' cls d F' H', RelE c σ' ⟨F', H', e⟩ → LeS σ w σ' ⟨F', H', e⟩ → XR c w.H ⟨F', H', e⟩ cls d x → E σ' cls d H'
noncomputable def Co (σ : L2.St) (w : Wd) (o : O) (D : Ends) : Prop := match o with
  | .st => False
  | .nx e => Goes c σ w e D.nx
  | .bk e => Goes c σ w e D.bk
  | .ct e => Goes c σ w e D.ct
  | .rt a e => ∀ v σ' F' H', RelE c σ' ⟨F', H', e⟩ → LeS σ w σ' ⟨F', H', e⟩ → VT c σ w σ' ⟨F', H', e⟩ v a → D.rt v H'
  | .er x e => KEs c E σ w x e
noncomputable def SimS (t : TS) (m : En → O) : Prop := ∀ (σ : L2.St) (w : Wd) (D : Ends), RelE c σ w → Co c E σ w (m w.env) D → t D σ w.H
end
section
variable {c : Ctx} {E : Option (L2.St → XK)} {σ : L2.St} {w w0 : Wd} {Q : VK} {v x y : V} {t u : TS} {m n : En → O} {te ta tb : TE} {me ma mb : En → R Val} {tc : TT} {mc : En → R Bool}
theorem KEs.ke {x : Xn} {e : En} (h : KEs c E σ w x e) : KE c E σ w x e := by
  cases E with
  | none => exact h
  | some E => exact fun cls d F' H' r l xr => h σ cls d F' H' r l xr
theorem KEs.step {σ1 : L2.St} {w1 : Wd} {x : Xn} {e : En} (h : KEs c E σ w x e) (l : LeS σ w σ1 w1) : KEs c E σ1 w1 x e := by
  cases E with
  | none => exact h
  | some E => exact fun σ' cls d F' H' r l1 xr => h σ' cls d F' H' r (l.trans l1) (xr.step l)
theorem Goes.step {σ1 : L2.St} {w1 : Wd} {e : En} {G : L2.St → Hp → Prop} (h : Goes c σ w e G) (l : LeS σ w σ1 w1) : Goes c σ1 w1 e G := ⟨fun σ' F' H' r l1 => h.go σ' F' H' r (l.trans l1)⟩
theorem Co.step {σ1 : L2.St} {w1 : Wd} {o : O} {D : Ends} (h : Co c E σ w o D) (l : LeS σ w σ1 w1) : Co c E σ1 w1 o D := by
  cases o with
  | st => exact h
  | nx e => exact Goes.step h l
  | bk e => exact Goes.step h l
  | ct e => exact Goes.step h l
  | er x e => exact KEs.step h l
  | rt a e =>
    intro v σ' F' H' r l1 vr
    refine h v σ' F' H' r (l.trans l1) ?_
    cases a with
    | fz d => exact vr
    | «at» i => exact vr
    | new d =>
      obtain ⟨p, e, n, f, own, ns⟩ := vr
      refine ⟨p, e, ?_, f, own, ns⟩
      rcases n with n | n
      · exact l.bu p n
      · exact .inr (l.free n)
/-- from an expression on -/
theorem SimE.so {k : Val → En → O} {D : Ends} (h : SimE c E te me) (rel : RelE c σ w) (q : Co c E σ w ((me w.env).o k) D)
    (hk : ∀ a w2 v, RelE c σ w2 → LeS σ w σ w2 → VR c σ w.H w2 v a → Co c E σ w (k a w2.env) D → Q v w2.H) : te σ w.H Q := by
  refine h σ w Q rel ?_
  cases hm : me w.env with
  | st => rw [hm] at q; exact q
  | er x e =>
    rw [hm] at q
    exact KEs.ke q
  | ok a e =>
    rw [hm] at q
    exact fun v F' H' r l1 vr => hk a ⟨F', H', e⟩ v r l1 vr q
theorem SimD.so {md : En → R D} {k : D → En → O} {D : Ends} (h : SimD c E te md) (rel : RelE c σ w) (q : Co c E σ w ((md w.env).o k) D)
    (hk : ∀ a w2 v, RelE c σ w2 → LeS σ w σ w2 → Rep c.b w2.F v a → Co c E σ w (k a w2.env) D → Q v w2.H) : te σ w.H Q := by
  refine h σ w Q rel ?_
  cases hm : md w.env with
  | st => rw [hm] at q; exact q
  | er x e =>
    rw [hm] at q
    exact KEs.ke q
  | ok a e =>
    rw [hm] at q
    exact fun v F' H' r l1 vr => hk a ⟨F', H', e⟩ v r l1 vr q
theorem SimT.so {k : Bool → En → O} {D : Ends} {Q : Bool → Hp → Prop} (h : SimT c E tc mc) (rel : RelE c σ w) (q : Co c E σ w ((mc w.env).o k) D)
    (hk : ∀ a w2, RelE c σ w2 → LeS σ w σ w2 → Co c E σ w (k a w2.env) D → Q a w2.H) : tc σ w.H Q := by
  refine h σ w Q rel ?_
  cases hm : mc w.env with
  | st => rw [hm] at q; exact q
  | er x e =>
    rw [hm] at q
    exact KEs.ke q
  | ok a e =>
    rw [hm] at q
    exact fun F' H' r l1 => hk a ⟨F', H', e⟩ r l1 q
noncomputable def mSeq (m n : En → O) (e : En) : O := (m e).bind n
noncomputable def mNext (e : En) : O := .nx e
theorem s_next : SimS c E tNext mNext := fun σ w D rel q => q.go σ w.F w.H rel (LeS.refl σ w)
theorem s_seq (h : SimS c E t m) (h' : SimS c E u n) : SimS c E (tSeq t u) (mSeq m n) := by
  intro σ w D rel q
  refine h σ w { D with nx := u D } rel ?_
  have q : Co c E σ w ((m w.env).bind n) D := q
  cases hm : m w.env with
  | st => rw [hm] at q; exact q
  | nx e =>
    rw [hm] at q
    exact ⟨fun σ' F' H' r l => h' σ' ⟨F', H', e⟩ D r (Co.step q l)⟩
  | bk e => rw [hm] at q; exact q
  | ct e => rw [hm] at q; exact q
  | er x e => rw [hm] at q; exact q
  | rt a e => rw [hm] at q; exact q
noncomputable def mBreak (e : En) : O := .bk e
noncomputable def mCont (e : En) : O := .ct e
noncomputable def mDrop (m : En → R Val) (e : En) : O := (m e).o fun _ e1 => .nx e1
theorem s_drop (h : SimE c E te me) : SimS c E (tDrop te) (mDrop me) := by
  intro σ w D rel q
  exact h.so rel q fun a w2 v r l vr q => q.go σ w2.F w2.H r l
/-- a value handed out: what is mine is handed over -/
noncomputable def outAt (i : Nat) (e : En) : Option Sl → O
  | some (.fz d) => .rt (.fz d) e
  | some (.ow false false d) => .rt (.new d) (e.set i .un)
  | _ => .st
noncomputable def mOut : Val → En → O
  | .fz d, e => .rt (.fz d) e
  | .new d, e => .rt (.new d) e
  | .at i, e => outAt i e e[i]?
theorem out_ok {a : Val} {D : Ends} {w1 : Wd} {v : V} (r : RelE c σ w1) (l : LeS σ w σ w1) (vr : VR c σ w.H w1 v a) (q : Co c E σ w (mOut a w1.env) D) : D.rt v w1.H := by
  cases a with
  | fz d => exact q v σ _ _ r l vr
  | new d =>
    obtain ⟨p, e, n, f, own, ns⟩ := vr
    exact q v σ _ _ r l ⟨p, e, .inr n, f, own, ns⟩
  | «at» i =>
    have vr : σ[i]? = some (some v) := vr
    have q : Co c E σ w (outAt i w1.env w1.env[i]?) D := q
    unfold outAt at q
    split at q
    · next d hs =>
      obtain ⟨o, h1, u, rfl, rp⟩ := r.at_ i _ hs
      rw [vr] at h1
      cases h1
      exact q v σ _ _ r l rp
    · next d hs =>
      obtain ⟨o, h1, p, rfl, nf, own⟩ := r.at_ i _ hs
      rw [vr] at h1
      cases h1
      have gow : ∀ (j : Nat) (a b : Bool) (d' : MR.D), (w1.env.set i .un)[j]? = some (.ow a b d') → j ≠ i ∧ w1.env[j]? = some (.ow a b d') := fun j a b d' h => by
        rcases get_set h with ⟨_, z⟩ | z
        · cases z
        · exact z
      refine q (.ref p) σ w1.F w1.H ⟨?_, fun j s hj => ?_, fun j k a b d1 a' b' d2 p h1 h2 e1 e2 => r.ne j k a b d1 a' b' d2 p (gow _ _ _ _ h1).2 (gow _ _ _ _ h2).2 e1 e2, r.sm, fun j d' z => r.pl j d' (gow _ _ _ _ z).2⟩ (l.trans ⟨Same.refl _, fun _ _ _ h => h, fun _ _ _ => rfl, fun _ h => h, fun p ⟨j, a, d', hj, hp⟩ => .inl ⟨j, a, d', (gow _ _ _ _ hj).2, hp⟩, fun p ⟨j, a, d', hj, hp⟩ => .inl ⟨j, a, d', (gow _ _ _ _ hj).2, hp⟩, fun j a b d' hj ab => ?_⟩)
        ⟨p, rfl, l.bu p ⟨i, false, d, hs, vr⟩, nf, own, fun j a b d' hj e => (gow _ _ _ _ hj).1 (r.ne j i _ _ _ _ _ _ _ (gow _ _ _ _ hj).2 hs e vr)⟩
      · show σ.length = (w1.env.set i _).length
        rw [List.length_set]
        exact r.len
      · rcases get_set hj with ⟨rfl, rfl⟩ | ⟨ne, hj2⟩
        · exact ⟨_, vr, True.intro⟩
        · exact r.at_ j s hj2
      · refine ⟨d', ?_, rfl, fun _ => rfl⟩
        have ne : j ≠ i := fun z => by
          subst z
          rw [hs] at hj
          cases hj
          cases ab
        show (w1.env.set i _)[j]? = _
        rw [List.getElem?_set_ne (Ne.symm ne)]
        exact hj
    · exact q.elim
noncomputable def mRet (m : En → R Val) (e : En) : O := (m e).o mOut
theorem s_ret (h : SimE c E te me) : SimS c E (tRet te) (mRet me) := by
  intro σ w D rel q
  exact h.so rel q fun a w2 v r l vr q => out_ok r l vr q
noncomputable def mRetN (e : En) : O := .rt (.fz .non) e
theorem s_retN : SimS c E tRetN mRetN := fun σ w D rel q => q .non σ w.F w.H rel (LeS.refl σ w) .non
noncomputable def mIfS (t : En → R Bool) (m n : En → O) (e : En) : O := (t e).o fun b e1 => if b then m e1 else n e1
theorem s_if (h : SimT c E tc mc) (ha : SimS c E t m) (hb : SimS c E u n) : SimS c E (tIfS tc t u) (mIfS mc m n) := by
  intro σ w D rel q
  refine h.so rel q fun a w2 r l q => ?_
  cases a with
  | true =>
    rw [if_pos rfl]
    exact ha σ w2 D r (Co.step q l)
  | false =>
    rw [if_neg Bool.false_ne_true]
    exact hb σ w2 D r (Co.step q l)
noncomputable def setAt (i : Nat) : Val → En → O
  | .fz d, e => if canSet e[i]? = true then .nx (e.set i (.fz d)) else .st
  | .new d, e => if canSet e[i]? = true then .nx (e.set i (.ow false false d)) else .st
  | .at j, e => match frz (.at j) e with
    | .ok d e1 => if canSet e1[i]? = true then .nx (e1.set i (.fz d)) else .st
    | _ => .st
noncomputable def mSet (i : Nat) (m : En → R Val) (e : En) : O := (m e).o (setAt i)
theorem setAt_ok {i : Nat} {a : Val} {D : Ends} {w1 : Wd} {v : V} (r : RelE c σ w1) (l : LeS σ w σ w1) (vr : VR c σ w.H w1 v a) (q : Co c E σ w (setAt i a w1.env) D) : D.nx (σ.set i (some v)) w1.H := by
  cases a with
  | fz d =>
    have q : Co c E σ w (if canSet w1.env[i]? = true then .nx (w1.env.set i (.fz d)) else .st) D := q
    split at q
    · next cs =>
      obtain ⟨r2, l2⟩ := set_fz r cs vr
      exact q.go _ _ _ r2 (l.trans l2)
    · exact q.elim
  | new d =>
    have q : Co c E σ w (if canSet w1.env[i]? = true then .nx (w1.env.set i (.ow false false d)) else .st) D := q
    split at q
    · next cs =>
      obtain ⟨p, rfl, n, f, own, ns⟩ := vr
      obtain ⟨r2, l2⟩ := set_new r l cs n f own ns
      exact q.go _ _ _ r2 l2
    · exact q.elim
  | «at» j =>
    have q : Co c E σ w (match frz (.at j) w1.env with
      | .ok d e1 => if canSet e1[i]? = true then .nx (e1.set i (.fz d)) else .st
      | _ => .st) D := q
    cases hf : frz (.at j) w1.env with
    | st => rw [hf] at q; exact q.elim
    | er x e => rw [hf] at q; exact q.elim
    | ok d e1 =>
      rw [hf] at q
      obtain ⟨F', r1, l1, rp⟩ := frz_ok (w0 := w) r l vr hf
      have q : Co c E σ w (if canSet e1[i]? = true then .nx (e1.set i (.fz d)) else .st) D := q
      split at q
      · next cs =>
        obtain ⟨r2, l2⟩ := set_fz (w := ⟨F', w1.H, e1⟩) r1 cs rp
        exact q.go _ _ _ r2 (l1.trans l2)
      · exact q.elim
theorem s_set (i : Nat) (h : SimE c E te me) : SimS c E (tAsg te (gName i)) (mSet i me) := by
  intro σ w D rel q
  exact h.so rel q fun a w2 v r l vr q => setAt_ok r l vr q
end
end MR
set_option autoImplicit false
namespace MR
open PySem PySem.Spec PyProof.Rows L2
/-- a target touches these slots alone -/
structure Outs (ws : List Nat) (σ σ' : L2.St) : Prop where
  len : σ'.length = σ.length
  out : ∀ j, j ∉ ws → σ'[j]? = σ[j]?
noncomputable def SimG (c : Ctx) (t : TG) (m : D → En → Option En) (ws : List Nat) : Prop := ∀ (σ : L2.St) (w : Wd) (v : V) (d : D) (e' : En) (Q : L2.St → Hp → Prop), RelE c σ w → Rep c.b w.F v d → m d w.env = some e' →
  (∀ σ', RelE c σ' ⟨w.F, w.H, e'⟩ → LeS σ w σ' ⟨w.F, w.H, e'⟩ → Outs ws σ σ' → Q σ' w.H) → t v σ w.H Q
noncomputable def SimGs (c : Ctx) (t : TGs) (m : List D → En → Option En) (ws : List Nat) : Prop := ∀ (σ : L2.St) (w : Wd) (vs : List V) (ds : List D) (e' : En) (Q : L2.St → Hp → Prop), RelE c σ w → Reps c.b w.F vs ds → m ds w.env = some e' →
  (∀ σ', RelE c σ' ⟨w.F, w.H, e'⟩ → LeS σ w σ' ⟨w.F, w.H, e'⟩ → Outs ws σ σ' → Q σ' w.H) → t vs σ w.H Q
noncomputable def gN (i : Nat) (d : D) (e : En) : Option En := if canSet e[i]? = true then some (e.set i (.fz d)) else none
noncomputable def gs0 : List D → En → Option En
  | [], e => some e
  | _, _ => none
noncomputable def gs1 (g : D → En → Option En) (gs : List D → En → Option En) : List D → En → Option En
  | d :: ds, e => (g d e).bind fun e1 => gs ds e1
  | _, _ => none
noncomputable def gT (n : Nat) (gs : List D → En → Option En) : D → En → Option En
  | .tup ds, e => if ds.length = n then gs ds e else none
  | .ktp ds, e => if ds.length = n then gs ds e else none
  | _, _ => none
section
variable {c : Ctx} {E : Option (L2.St → XK)} {σ : L2.St} {w w0 : Wd} {Q : VK} {v x y : V} {t u : TS} {m n : En → O} {te ta tb : TE} {me ma mb : En → R Val} {tc : TT} {mc : En → R Bool} {g : TG} {mg : D → En → Option En} {gs : TGs} {mgs : List D → En → Option En}
theorem sg_name (i : Nat) : SimG c (gName i) (gN i) [i] := by
  intro σ w v d e' Q rel r h q
  unfold gN at h
  split at h
  · next cs =>
    cases h
    obtain ⟨r2, l2⟩ := set_fz rel cs r
    exact q _ r2 l2 ⟨List.length_set .., fun j hj => List.getElem?_set_ne fun z => hj (by rw [z]; exact List.mem_cons_self)⟩
  · cases h
theorem sg_nil : SimGs c gNil gs0 [] := by
  intro σ w vs ds e' Q rel r h q
  cases ds with
  | nil =>
    cases h
    cases r
    exact ⟨rfl, q σ rel (LeS.refl σ w) ⟨rfl, fun _ _ => rfl⟩⟩
  | cons _ _ => cases h
theorem sg_cons {ws1 ws2 : List Nat} (h1 : SimG c g mg ws1) (h2 : SimGs c gs mgs ws2) : SimGs c (gCons g gs) (gs1 mg mgs) (ws1 ++ ws2) := by
  intro σ w vs ds e' Q rel r h q
  cases ds with
  | nil => cases h
  | cons d ds =>
    cases r with
    | cons r t =>
      obtain ⟨e1, a, b⟩ := obn h
      refine ⟨_, _, rfl, h1 σ w _ d e1 _ rel r a fun σ1 r1 l1 n1 => ?_⟩
      exact h2 σ1 ⟨w.F, w.H, e1⟩ _ ds e' Q r1 t b fun σ2 r2 l2 n2 => q σ2 r2 (l1.trans l2) ⟨n2.len.trans n1.len, fun j hj => (n2.out j fun z => hj (List.mem_append_right _ z)).trans (n1.out j fun z => hj (List.mem_append_left _ z))⟩
theorem sg_tup {ws : List Nat} (n : Nat) (h : SimGs c gs mgs ws) : SimG c (gTup c.K n gs) (gT n mgs) ws := by
  intro σ w v d e' Q rel r hm q
  cases d with
  | tup ds =>
    have hm : (if ds.length = n then mgs ds w.env else none) = some e' := hm
    split at hm
    · next hn =>
      cases r with
      | tup e1 r1 => exact ⟨_, _, rfl, SqT.tup (rel.sm _ _ e1), r1.len.trans hn, h σ w _ ds e' Q rel r1 hm q⟩
    · cases hm
  | ktp ds =>
    have hm : (if ds.length = n then mgs ds w.env else none) = some e' := hm
    split at hm
    · next hn =>
      cases r with
      | ktp e1 r1 => exact ⟨_, _, rfl, same_seqT rel.sm e1, r1.len.trans hn, h σ w _ ds e' Q rel r1 hm q⟩
    · cases hm
  | _ => cases hm
/-- a, b = e -/
noncomputable def mAsgG (mg : D → En → Option En) (m : En → R Val) (e : En) : O := (mD m e).o fun d e1 => match mg d e1 with
  | some e2 => .nx e2
  | none => .st
end
structure Itr where
  items : List D
  lk : Option Nat
noncomputable def lockS (e : En) : Option Nat → En
  | none => e
  | some i => match e[i]? with
    | some (.ow a _ d) => e.set i (.ow a true d)
    | _ => e
noncomputable def unlockS (e : En) : Option Nat → En
  | none => e
  | some i => match e[i]? with
    | some (.ow a _ d) => e.set i (.ow a false d)
    | _ => e
/-- the walker J gives the items, as long as what is walked stays -/
noncomputable def ItOk (c : Ctx) (σ : L2.St) (w : Wd) (J : It) (items : List D) : Prop := ∃ n G Y, Walk J n G Y ∧ items.length = n ∧ (∀ σ' w', RelE c σ' w' → LeS σ w σ' w' → G w'.H) ∧
  ∀ (i : Nat) (x : V) (H' : Hp) (σ' : L2.St) (w' : Wd) (d : D), RelE c σ' w' → LeS σ w σ' w' → items[i]? = some d → Y i w'.H x H' → ∃ F'', RelE c σ' ⟨F'', H', w'.env⟩ ∧ LeS σ' w' σ' ⟨F'', H', w'.env⟩ ∧ Rep c.b F'' x d
/-- what is locked may be: it is mine, not pinned, not locked -/
noncomputable def LkOk (e : En) : Option Nat → Prop
  | none => True
  | some i => ∃ d, e[i]? = some (.ow false false d)
noncomputable def SimI (c : Ctx) (E : Option (L2.St → XK)) (t : TI) (m : En → R Itr) : Prop := ∀ (σ : L2.St) (w : Wd) (Rr : It → Hp → Prop), RelE c σ w →
  Cn c E σ w (m w.env) (fun it e => ∀ F' H' J, RelE c σ ⟨F', H', e⟩ → LeS σ w σ ⟨F', H', e⟩ → LkOk e it.lk → ItOk c σ ⟨F', H', lockS e it.lk⟩ J it.items → Rr J H') → t σ w.H Rr
section
variable {c : Ctx} {E : Option (L2.St → XK)} {σ : L2.St} {w w0 : Wd} {Q : VK} {v x y : V} {t u : TS} {m n : En → O} {te ta tb : TE} {me ma mb : En → R Val} {tc : TT} {mc : En → R Bool} {g : TG} {mg : D → En → Option En} {wi : TI} {mi : En → R Itr}
/-- a lock is set -/
theorem lock_ok {lk : Option Nat} (rel : RelE c σ w) (h : LkOk w.env lk) : RelE c σ ⟨w.F, w.H, lockS w.env lk⟩ ∧ LeS σ w σ ⟨w.F, w.H, lockS w.env lk⟩ := by
  cases lk with
  | none => exact ⟨rel, LeS.refl σ w⟩
  | some i =>
    obtain ⟨d, hd⟩ := h
    have e : lockS w.env (some i) = w.env.set i (.ow false true d) := by
      show (match w.env[i]? with
        | some (.ow a _ d) => w.env.set i (.ow a true d)
        | _ => w.env) = _
      rw [hd]
    rw [e]
    have il : i < w.env.length := (List.getElem?_eq_some_iff.mp hd).1
    have gow : ∀ (j : Nat) (a b : Bool) (d' : D), (w.env.set i (.ow false true d))[j]? = some (.ow a b d') → ∃ b2, w.env[j]? = some (.ow a b2 d') ∧ (b = false → b2 = false) := fun j a b d' h => by
      rcases get_set h with ⟨rfl, z⟩ | ⟨_, z⟩
      · cases z
        exact ⟨false, hd, fun _ => rfl⟩
      · exact ⟨b, z, id⟩
    refine ⟨⟨?_, fun j s hj => ?_, fun j k a b d1 a' b' d2 p h1 h2 e1 e2 => ?_, rel.sm, fun j d' z => (get_set z).elim (fun y => nomatch y.2) fun y => rel.pl j d' y.2⟩, ⟨Same.refl _, fun _ _ _ h => h, fun _ _ _ => rfl, fun _ h => h, fun p ⟨j, a, d', hj, hp⟩ => ?_, fun p ⟨j, a, d', hj, hp⟩ => ?_, fun j a b d' hj ab => ?_⟩⟩
    · show σ.length = (w.env.set i _).length
      rw [List.length_set]
      exact rel.len
    · rcases get_set hj with ⟨rfl, rfl⟩ | ⟨_, hj⟩
      · obtain ⟨o, y1, y2⟩ := rel.at_ j _ hd
        exact ⟨o, y1, y2⟩
      · exact rel.at_ j s hj
    · obtain ⟨b3, h3, _⟩ := gow _ _ _ _ h1
      obtain ⟨b4, h4, _⟩ := gow _ _ _ _ h2
      exact rel.ne j k _ _ _ _ _ _ p h3 h4 e1 e2
    · obtain ⟨b3, h3, hb⟩ := gow _ _ _ _ hj
      rw [hb rfl] at h3
      exact .inl ⟨j, a, d', h3, hp⟩
    · obtain ⟨b3, h3, _⟩ := gow _ _ _ _ hj
      exact .inl ⟨j, b3, d', h3, hp⟩
    · refine ⟨d', ?_, rfl, fun _ => rfl⟩
      have ne : j ≠ i := fun z => by
        subst z
        rw [hd] at hj
        cases hj
        cases ab
      show (w.env.set i _)[j]? = _
      rw [List.getElem?_set_ne (Ne.symm ne)]
      exact hj
/-- a lock is taken off -/
theorem unlock_ok {lk : Option Nat} {σ' : L2.St} {w' : Wd} (h : LkOk w.env lk) (l : LeS σ ⟨w.F, w.H, lockS w.env lk⟩ σ' w') (l0 : LeS σ w σ' w') (rel : RelE c σ' w') :
    RelE c σ' ⟨w'.F, w'.H, unlockS w'.env lk⟩ ∧ LeS σ w σ' ⟨w'.F, w'.H, unlockS w'.env lk⟩ := by
  cases lk with
  | none => exact ⟨rel, l0⟩
  | some i =>
    obtain ⟨d, hd⟩ := h
    have e0 : lockS w.env (some i) = w.env.set i (.ow false true d) := by
      show (match w.env[i]? with
        | some (.ow a _ d) => w.env.set i (.ow a true d)
        | _ => w.env) = _
      rw [hd]
    have il : i < w.env.length := (List.getElem?_eq_some_iff.mp hd).1
    obtain ⟨d', h1, h2, h3⟩ := l.pn i false true d (by show (lockS w.env (some i))[i]? = _; rw [e0]; exact List.getElem?_set_self il) rfl
    have e1 : unlockS w'.env (some i) = w'.env.set i (.ow false false d') := by
      show (match w'.env[i]? with
        | some (.ow a _ d) => w'.env.set i (.ow a false d)
        | _ => w'.env) = _
      rw [h1]
    rw [e1]
    have gow : ∀ (j : Nat) (a b : Bool) (d1 : D), (w'.env.set i (.ow false false d'))[j]? = some (.ow a b d1) → (j = i ∧ a = false) ∨ (j ≠ i ∧ w'.env[j]? = some (.ow a b d1)) := fun j a b d1 h => by
      rcases get_set h with ⟨z, z2⟩ | z
      · cases z2
        exact .inl ⟨z, rfl⟩
      · exact .inr z
    have g2 : ∀ (j : Nat) (a b : Bool) (d1 : D), (w'.env.set i (.ow false false d'))[j]? = some (.ow a b d1) → ∃ b2 d2, w'.env[j]? = some (.ow a b2 d2) := fun j a b d1 h => by
      rcases gow j a b d1 h with ⟨rfl, rfl⟩ | ⟨_, z⟩
      · exact ⟨true, d', h1⟩
      · exact ⟨b, d1, z⟩
    refine ⟨⟨?_, fun j s hj => ?_, fun j k a b d1 a' b' d2 p h1 h2 e1 e2 => ?_, rel.sm, fun j d' z => (get_set z).elim (fun y => nomatch y.2) fun y => rel.pl j d' y.2⟩, ⟨l0.ff, l0.hh, l0.fn, l0.dom, fun p ⟨j, a, d1, hj, hp⟩ => ?_, fun p ⟨j, a, d1, hj, hp⟩ => ?_, fun j a b d1 hj ab => ?_⟩⟩
    · show σ'.length = (w'.env.set i _).length
      rw [List.length_set]
      exact rel.len
    · rcases get_set hj with ⟨rfl, rfl⟩ | ⟨_, hj⟩
      · obtain ⟨o, y1, y2⟩ := rel.at_ j _ h1
        exact ⟨o, y1, y2⟩
      · exact rel.at_ j s hj
    · obtain ⟨b3, d3, h3⟩ := g2 _ _ _ _ h1
      obtain ⟨b4, d4, h4⟩ := g2 _ _ _ _ h2
      exact rel.ne j k _ _ _ _ _ _ p h3 h4 e1 e2
    · rcases gow j a false d1 hj with ⟨rfl, rfl⟩ | ⟨_, z⟩
      · exact .inl ⟨j, false, d, hd, h2 ▸ hp⟩
      · exact l0.bb p ⟨j, a, d1, z, hp⟩
    · obtain ⟨b3, d3, h3⟩ := g2 _ _ _ _ hj
      exact l0.bu p ⟨j, b3, d3, h3, hp⟩
    · obtain ⟨d2, h5, h6, h7⟩ := l0.pn j a b d1 hj ab
      have ne : j ≠ i := fun z => by
        subst z
        rw [hd] at hj
        cases hj
        cases ab
      refine ⟨d2, ?_, h6, h7⟩
      show (w'.env.set i _)[j]? = _
      rw [List.getElem?_set_ne (Ne.symm ne)]
      exact h5
noncomputable def mItems (g : D → En → Option En) (b : En → O) : List D → En → O
  | [], e => .nx e
  | d :: ds, e => match g d e with
    | none => .st
    | some e1 => match b e1 with
      | .nx e2 => mItems g b ds e2
      | .ct e2 => mItems g b ds e2
      | .bk e2 => .nx e2
      | o => o
noncomputable def O.unl (lk : Option Nat) : O → O
  | .nx e => .nx (unlockS e lk)
  | o => o
@[irreducible] noncomputable def mFor (mi : En → R Itr) (g : D → En → Option En) (b : En → O) (e : En) : O := (mi e).o fun it e1 => (mItems g b it.items (lockS e1 it.lk)).unl it.lk
theorem SimI.so {k : Itr → En → O} {D : Ends} {Rr : It → Hp → Prop} (h : SimI c E wi mi) (rel : RelE c σ w) (q : Co c E σ w ((mi w.env).o k) D)
    (hk : ∀ it w2 J, RelE c σ w2 → LeS σ w σ w2 → LkOk w2.env it.lk → ItOk c σ ⟨w2.F, w2.H, lockS w2.env it.lk⟩ J it.items → Co c E σ w (k it w2.env) D → Rr J w2.H) : wi σ w.H Rr := by
  refine h σ w Rr rel ?_
  cases hm : mi w.env with
  | st => rw [hm] at q; exact q
  | er x e =>
    rw [hm] at q
    exact KEs.ke q
  | ok a e =>
    rw [hm] at q
    exact fun F' H' J r l lo io => hk a ⟨F', H', e⟩ J r l lo io q
theorem mFor_eq (mi : En → R Itr) (g : D → En → Option En) (b : En → O) (e : En) : mFor mi g b e = (mi e).o fun it e1 => (mItems g b it.items (lockS e1 it.lk)).unl it.lk := by unfold mFor; rfl
theorem s_for {ws : List Nat} (hi : SimI c E wi mi) (hg : SimG c g mg ws) (hb : SimS c E t m) : SimS c E (tFor wi g t) (mFor mi mg m) := by
  intro σ w D rel q
  rw [mFor_eq] at q
  refine hi.so rel q fun it w1 J r1 l1 lo io q1 => ?_
  obtain ⟨n, G, Y, wk, hn, hG, hY⟩ := io
  obtain ⟨rl, ll⟩ := lock_ok r1 lo
  have lw := l1.trans ll
  subst hn
  refine ⟨fun i k σ' H' => k = it.items.length - i ∧ i ≤ it.items.length ∧ ∃ F' e', RelE c σ' ⟨F', H', e'⟩ ∧ LeS σ ⟨w1.F, w1.H, lockS w1.env it.lk⟩ σ' ⟨F', H', e'⟩ ∧ Co c E σ w ((mItems mg m (it.items.drop i) e').unl it.lk) D,
    ⟨_, rfl, Nat.zero_le _, w1.F, lockS w1.env it.lk, rl, LeS.refl _ _, q1⟩, ?_⟩
  rintro i k σ' H' ⟨rfl, hle, F', e', r2, l2, q2⟩
  have l02 := lw.trans l2
  by_cases hlt : i < it.items.length
  · refine .inr ⟨wk.goes i H' hlt (hG _ _ r2 l2), fun σ3 H3 => ∃ F3 e3, RelE c σ3 ⟨F3, H3, e3⟩ ∧ LeS σ ⟨w1.F, w1.H, lockS w1.env it.lk⟩ σ3 ⟨F3, H3, e3⟩ ∧ Co c E σ w ((mItems mg m (it.items.drop (i + 1)) e3).unl it.lk) D, ?_, ?_⟩
    · rintro σ3 H3 ⟨F3, e3, r3, l3, q3⟩
      exact ⟨_, by omega, rfl, hlt, F3, e3, r3, l3, q3⟩
    · intro xv H4 hy
      obtain ⟨F4, r4, l4, rp⟩ := hY i xv H4 σ' _ it.items[i] r2 l2 (List.getElem?_eq_getElem hlt) (wk.yields i H' xv H4 hlt (hG _ _ r2 l2) hy)
      rw [List.drop_eq_getElem_cons hlt] at q2
      have q2 : Co c E σ w ((match mg it.items[i] e' with
        | none => .st
        | some e1 => match m e1 with
          | .nx e2 => mItems mg m (it.items.drop (i + 1)) e2
          | .ct e2 => mItems mg m (it.items.drop (i + 1)) e2
          | .bk e2 => .nx e2
          | o => o : O).unl it.lk) D := q2
      cases hm : mg it.items[i] e' with
      | none => rw [hm] at q2; exact q2.elim
      | some e5 =>
        rw [hm] at q2
        refine hg σ' ⟨F4, H4, e'⟩ xv _ e5 _ r4 rp hm fun σ5 r5 l5 _ => ?_
        refine hb σ5 ⟨F4, H4, e5⟩ _ r5 ?_
        have l15 := (l2.trans l4).trans l5
        have l05 := lw.trans l15
        have q2 : Co c E σ w ((match m e5 with
          | .nx e2 => mItems mg m (it.items.drop (i + 1)) e2
          | .ct e2 => mItems mg m (it.items.drop (i + 1)) e2
          | .bk e2 => .nx e2
          | o => o : O).unl it.lk) D := q2
        cases ho : m e5 with
        | st => rw [ho] at q2; exact q2.elim
        | nx e6 =>
          rw [ho] at q2
          exact ⟨fun σ6 F6 H6 r6 l6 => ⟨F6, e6, r6, l15.trans l6, q2⟩⟩
        | ct e6 =>
          rw [ho] at q2
          exact ⟨fun σ6 F6 H6 r6 l6 => ⟨F6, e6, r6, l15.trans l6, q2⟩⟩
        | bk e6 =>
          rw [ho] at q2
          refine ⟨fun σ6 F6 H6 r6 l6 => ?_⟩
          obtain ⟨r7, l7⟩ := unlock_ok (w' := ⟨F6, H6, e6⟩) lo (l15.trans l6) ((ll.trans l15).trans l6) r6
          exact q2.go σ6 F6 H6 r7 (l1.trans l7)
        | rt a e6 =>
          rw [ho] at q2
          exact Co.step (o := .rt a e6) (show Co c E σ w (.rt a e6) _ from q2) l05
        | er x e6 =>
          rw [ho] at q2
          exact Co.step (o := .er x e6) (show Co c E σ w (.er x e6) _ from q2) l05
  · have ei : i = it.items.length := by omega
    subst ei
    rw [List.drop_length] at q2
    refine .inl ⟨wk.stops H' (hG _ _ r2 l2), ?_⟩
    obtain ⟨r7, l7⟩ := unlock_ok (w' := ⟨F', H', e'⟩) lo l2 (ll.trans l2) r2
    exact (show Goes c σ w (unlockS e' it.lk) D.nx from q2).go σ' F' H' r7 (l1.trans l7)
noncomputable def mWhile (mc : En → R Bool) (b : En → O) : Nat → En → O
  | 0, _ => .st
  | k + 1, e => (mc e).o fun t e1 => if t then (match b e1 with
    | .nx e2 => mWhile mc b k e2
    | .ct e2 => mWhile mc b k e2
    | .bk e2 => .nx e2
    | o => o) else .nx e1
theorem s_while (k : Nat) (hc : SimT c E tc mc) (hb : SimS c E t m) : SimS c E (tWhile tc t) (mWhile mc m k) := by
  intro σ w D rel q
  refine ⟨fun k σ' H' => ∃ F' e', RelE c σ' ⟨F', H', e'⟩ ∧ Co c E σ' ⟨F', H', e'⟩ (mWhile mc m k e') D, ⟨k, w.F, w.env, rel, q⟩, ?_⟩
  rintro k σ1 H1 ⟨F1, e1, r1, q1⟩
  cases k with
  | zero => exact q1.elim
  | succ k =>
    refine hc.so (w := ⟨F1, H1, e1⟩) (D := D) r1 (show Co c E σ1 ⟨F1, H1, e1⟩ ((mc e1).o _) D from q1) fun b w2 r2 l2 q2 => ?_
    cases b with
    | false =>
      have q2 : Co c E σ1 ⟨F1, H1, e1⟩ (.nx w2.env) D := q2
      exact q2.go _ _ _ r2 l2
    | true =>
      refine ⟨fun σ' H' => ∃ F' e', RelE c σ' ⟨F', H', e'⟩ ∧ Co c E σ' ⟨F', H', e'⟩ (mWhile mc m k e') D, fun σ' H' p => ⟨k, Nat.lt_succ_self k, p⟩, ?_⟩
      refine hb σ1 w2 _ r2 ?_
      have q2 : Co c E σ1 ⟨F1, H1, e1⟩ (match m w2.env with
        | .nx e2 => mWhile mc m k e2
        | .ct e2 => mWhile mc m k e2
        | .bk e2 => .nx e2
        | o => o) D := q2
      cases ho : m w2.env with
      | st => rw [ho] at q2; exact q2.elim
      | nx e6 =>
        rw [ho] at q2
        exact ⟨fun σ6 F6 H6 r6 l6 => ⟨F6, e6, r6, Co.step q2 (l2.trans l6)⟩⟩
      | ct e6 =>
        rw [ho] at q2
        exact ⟨fun σ6 F6 H6 r6 l6 => ⟨F6, e6, r6, Co.step q2 (l2.trans l6)⟩⟩
      | bk e6 =>
        rw [ho] at q2
        exact ⟨fun σ6 F6 H6 r6 l6 => q2.go σ6 F6 H6 r6 (l2.trans l6)⟩
      | rt a e6 =>
        rw [ho] at q2
        exact Co.step (o := .rt a e6) (show Co c E σ1 _ (.rt a e6) _ from q2) l2
      | er x e6 =>
        rw [ho] at q2
        exact Co.step (o := .er x e6) (show Co c E σ1 _ (.er x e6) _ from q2) l2
end
end MR
set_option autoImplicit false
namespace MR
open PySem PySem.Spec PyProof.Rows L2
noncomputable def lkAt (i : Nat) : Option Sl → Option (Option Nat × D)
  | some (.fz d) => some (none, d)
  | some (.ow _ true d) => some (none, d)
  | some (.ow false false d) => some (some i, d)
  | _ => none
noncomputable def lkOf : Val → En → Option (Option Nat × D)
  | .fz d, _ => some (none, d)
  | .new d, _ => none
  | .at i, e => lkAt i e[i]?
/-- a list, a tuple, the script, walked -/
noncomputable def mIter (m : En → R Val) (e : En) : R Itr := (mP m e).bind fun a e1 => R.of ((lkOf a e1).bind fun p => match p.2 with
  | .lst ds => some ⟨ds, p.1⟩
  | .scr is => some ⟨is.map .int, p.1⟩
  | _ => none) e1
noncomputable def mIterT (m : En → R Val) (e : En) : R Itr := (mP m e).bind fun a e1 => R.of ((con a e1).bind fun d => match d with
  | .tup ds => some ⟨ds, none⟩
  | .ktp ds => some ⟨ds, none⟩
  | _ => none) e1
noncomputable def mIterS (m : En → R Val) (e : En) : R Itr := (mP m e).bind fun a e1 => R.of ((con a e1).bind fun d => match d with
  | .str z => some ⟨z.cps.toList.map fun n => .str ⟨#[n]⟩, none⟩
  | _ => none) e1
noncomputable def zipD : List D → List D → List D
  | a :: as, b :: bs => .tup [a, b] :: zipD as bs
  | _, _ => []
noncomputable def one? : List D → Option D
  | [d] => some d
  | _ => none
noncomputable def mZip (ms : En → R (List Val)) (e : En) : R Itr := (ms e).bind fun as e1 => (frzs as e1).bind fun ds e2 => match ds with
  | [.lst a, .lst b] => .ok ⟨zipD a b, none⟩ e2
  | _ => .st
noncomputable def rangeD (lo : Int) (n : Nat) : List D := (List.range n).map fun (k : Nat) => .int (lo + (k : Int))
noncomputable def mOrI (m m' : En → R Itr) (e : En) : R Itr := match m e with
  | .st => m' e
  | r => r
section
variable {c : Ctx} {E : Option (L2.St → XK)} {σ : L2.St} {w w0 : Wd} {Q : VK} {v x y : V} {t u : TS} {m n : En → O} {te ta tb : TE} {me ma mb : En → R Val} {tc : TT} {mc : En → R Bool} {g : TG} {mg : D → En → Option En} {wi wi' : TI} {mi mi' : En → R Itr} {tt : TA} {ms : En → R (List Val)}
theorem pi_or {X : Cx} {tg e : Expr} {t t' : TI} (h : PI X tg e t) (h' : PI X tg e t') : PI X tg e (fun σ H R => t σ H R ∨ t' σ H R) := ⟨fun pins s σ H R I q => q.elim (h.run pins s σ H R I) (h'.run pins s σ H R I)⟩
theorem si_or (h : SimI c E wi mi) (h' : SimI c E wi' mi') : SimI c E (fun σ H R => wi σ H R ∨ wi' σ H R) (mOrI mi mi') := by
  intro σ w Rr rel q
  unfold mOrI at q
  cases hm : mi w.env with
  | st =>
    rw [hm] at q
    exact .inr (h' σ w Rr rel q)
  | ok a e =>
    rw [hm] at q
    exact .inl (h σ w Rr rel (by rw [hm]; exact q))
  | er x e =>
    rw [hm] at q
    exact .inl (h σ w Rr rel (by rw [hm]; exact q))
/-- the list that is walked stays -/
theorem lk_ok {H0 : Hp} {a : Val} {lk : Option Nat} {ds : List D} (rel : RelE c σ w) (na : ∀ d, a ≠ .new d) (vr : VR c σ H0 w v a) (h : lkOf a w.env = some (lk, .lst ds)) :
    LkOk w.env lk ∧ ∃ p vs, v = .ref p ∧ w.H p = some (.lst vs) ∧ Reps c.b w.F vs ds ∧ ∀ σ' w', LeS σ ⟨w.F, w.H, lockS w.env lk⟩ σ' w' → RelE c σ' w' → w'.H p = some (.lst vs) := by
  have fzc : Rep c.b w.F v (.lst ds) → LkOk w.env none ∧ ∃ p vs, v = .ref p ∧ w.H p = some (.lst vs) ∧ Reps c.b w.F vs ds ∧ ∀ σ' w', LeS σ ⟨w.F, w.H, lockS w.env none⟩ σ' w' → RelE c σ' w' → w'.H p = some (.lst vs) := fun r => by
    cases r with
    | lst e r => exact ⟨True.intro, _, _, rfl, rel.sm _ _ e, r, fun σ' w' l r' => r'.sm _ _ (l.ff _ _ e)⟩
  cases a with
  | fz d =>
    cases h
    exact fzc vr
  | new d => cases h
  | «at» i =>
    have vr : σ[i]? = some (some v) := vr
    have h : lkAt i w.env[i]? = some (lk, .lst ds) := h
    unfold lkAt at h
    split at h
    · next d hs =>
      cases h
      obtain ⟨o, h1, u, rfl, rp⟩ := rel.at_ i _ hs
      rw [vr] at h1
      cases h1
      exact fzc rp
    · next a d hs =>
      cases h
      obtain ⟨o, h1, p, rfl, nf, vs, h2, h3⟩ := rel.at_ i _ hs
      rw [vr] at h1
      cases h1
      refine ⟨True.intro, p, vs, rfl, h2, h3, fun σ' w' l r' => l.hh p _ (fun ⟨j, a', d', hj, hp⟩ => ?_) h2⟩
      have := rel.ne j i _ _ _ _ _ _ p hj hs hp vr
      subst this
      have hj : w.env[j]? = _ := hj
      rw [hs] at hj
      cases hj
    · next d hs =>
      cases h
      obtain ⟨o, h1, p, rfl, nf, vs, h2, h3⟩ := rel.at_ i _ hs
      rw [vr] at h1
      cases h1
      obtain ⟨rl, ll⟩ := lock_ok (lk := some i) rel ⟨_, hs⟩
      have e0 : lockS w.env (some i) = w.env.set i (.ow false true (.lst ds)) := by
        show (match w.env[i]? with
          | some (.ow a _ d) => w.env.set i (.ow a true d)
          | _ => w.env) = _
        rw [hs]
      have il : i < w.env.length := (List.getElem?_eq_some_iff.mp hs).1
      refine ⟨⟨_, hs⟩, p, vs, rfl, h2, h3, fun σ' w' l r' => l.hh p _ (fun ⟨j, a', d', hj, hp⟩ => ?_) h2⟩
      have hi : (lockS w.env (some i))[i]? = some (.ow false true (.lst ds)) := by rw [e0]; exact List.getElem?_set_self il
      have := rl.ne j i _ _ _ _ _ _ p hj hi hp vr
      subst this
      have hj : (lockS w.env (some j))[j]? = _ := hj
      rw [hi] at hj
      cases hj
    · cases h
theorem lk_scr {H0 : Hp} {a : Val} {lk : Option Nat} {is : List Int} (rel : RelE c σ w) (na : ∀ d, a ≠ .new d) (vr : VR c σ H0 w v a) (h : lkOf a w.env = some (lk, .scr is)) :
    lk = none ∧ ∃ p, v = .ref p ∧ SqL c.K w.F p (is.map V.int) := by
  have fzc : Rep c.b w.F v (.scr is) → ∃ p, v = .ref p ∧ SqL c.K w.F p (is.map V.int) := fun r => by
    cases r with
    | scr e => exact ⟨_, rfl, e⟩
  cases a with
  | fz d =>
    cases h
    exact ⟨rfl, fzc vr⟩
  | new d => cases h
  | «at» i =>
    have vr : σ[i]? = some (some v) := vr
    have h : lkAt i w.env[i]? = some (lk, .scr is) := h
    unfold lkAt at h
    split at h
    · next d hs =>
      cases h
      obtain ⟨o, h1, u, rfl, rp⟩ := rel.at_ i _ hs
      rw [vr] at h1
      cases h1
      exact ⟨rfl, fzc rp⟩
    · next a d hs =>
      cases h
      obtain ⟨o, h1, p, rfl, nf, own⟩ := rel.at_ i _ hs
      exact own.elim
    · next d hs =>
      cases h
      obtain ⟨o, h1, p, rfl, nf, own⟩ := rel.at_ i _ hs
      exact own.elim
    · cases h
/-- items that are there already -/
theorem it_at {J : It} {vs : List V} {ds : List D} {G : Hp → Prop} (wk : Walk J vs.length G (YAt vs)) (r : Reps c.b w.F vs ds) (hG : ∀ σ' w', RelE c σ' w' → LeS σ w σ' w' → G w'.H) : ItOk c σ w J ds := by
  refine ⟨vs.length, G, YAt vs, wk, r.len.symm, hG, fun i x H' σ' w' d r' l' hd y => ?_⟩
  obtain ⟨rfl, hx⟩ := y
  obtain ⟨v, hv, rv⟩ := r.get hd
  rw [hx] at hv
  cases hv
  exact ⟨w'.F, r', LeS.refl σ' w', rv.mono l'.ff⟩
theorem si_list (h : SimE c E ta ma) : SimI c E (iList c.K ta) (mIter ma) := by
  intro σ w Rr rel q
  refine h.p.to rel (LeS.refl σ w) q fun a w1 x r1 l1 na v1 q1 => ?_
  obtain ⟨it, e, k⟩ := Cn.of q1
  obtain ⟨⟨lk, d⟩, e1, e⟩ := obn e
  cases d with
  | lst ds =>
    cases e
    obtain ⟨lo, p, vs, rfl, h2, h3, h4⟩ := lk_ok r1 na v1 e1
    exact ⟨p, rfl, ⟨vs, .inl (.inl h2)⟩, k _ _ _ r1 l1 lo (it_at walk_list h3 fun σ' w' r' l' => .inl (.inl (h4 σ' w' l' r')))⟩
  | scr is =>
    cases e
    obtain ⟨rfl, p, rfl, hs⟩ := lk_scr r1 na v1 e1
    exact ⟨p, rfl, ⟨_, r1.sm.seq hs⟩, k _ _ _ r1 l1 True.intro (it_at walk_list (reps_ints is) fun σ' w' r' l' => r'.sm.seq (l'.ff.seq hs))⟩
  | _ => cases e
theorem si_tup (h : SimE c E ta ma) : SimI c E (iTup c.K ta) (mIterT ma) := by
  intro σ w Rr rel q
  refine h.p.to rel (LeS.refl σ w) q fun a w1 x r1 l1 na v1 q1 => ?_
  obtain ⟨it, e, k⟩ := Cn.of q1
  obtain ⟨d, e1, e⟩ := obn e
  have ac := con_ok r1 na v1 e1
  cases d with
  | tup ds =>
    cases e
    rcases ac with ac | ⟨p, _, ac⟩
    · cases ac with
      | tup e2 r => exact ⟨_, rfl, ⟨_, SqT.tup (r1.sm _ _ e2)⟩, k _ _ _ r1 l1 True.intro (it_at walk_tup r fun σ' w' r' l' => SqT.tup (r'.sm _ _ (l'.ff _ _ e2)))⟩
    · exact ac.elim
  | ktp ds =>
    cases e
    rcases ac with ac | ⟨p, _, ac⟩
    · cases ac with
      | ktp e2 r => exact ⟨_, rfl, ⟨_, same_seqT r1.sm e2⟩, k _ _ _ r1 l1 True.intro (it_at walk_tup r fun σ' w' r' l' => same_seqT r'.sm (same_seqT l'.ff e2))⟩
    · exact ac.elim
  | _ => cases e
theorem si_str (h : SimE c E ta ma) : SimI c E (iStr ta) (mIterS ma) := by
  intro σ w Rr rel q
  refine h.p.to rel (LeS.refl σ w) q fun a w1 x r1 l1 na v1 q1 => ?_
  obtain ⟨it, e, k⟩ := Cn.of q1
  obtain ⟨d, e1, e⟩ := obn e
  have ac := con_ok r1 na v1 e1
  cases d with
  | str z =>
    cases e
    refine ⟨z, ac_str ac, k _ _ _ r1 l1 True.intro ⟨_, _, _, walk_str, by simp, fun _ _ _ _ => True.intro, fun i x H' σ' w' d r' l' hd y => ?_⟩⟩
    obtain ⟨rfl, n, hn, rfl⟩ := y
    rw [List.getElem?_map, Array.getElem?_toList, hn] at hd
    cases hd
    exact ⟨w'.F, r', LeS.refl σ' w', .str _⟩
  | _ => cases e
/-- new pairs -/
theorem it_pair {J : It} {n : Nat} {fx fy : Nat → Option V} {ds : List D} {G : Hp → Prop} (wk : Walk J n G (YPair fx fy)) (hn : ds.length = n) (hG : ∀ σ' w', RelE c σ' w' → LeS σ w σ' w' → G w'.H)
    (hr : ∀ (i : Nat) (d : D) (x y : V), ds[i]? = some d → fx i = some x → fy i = some y → ∃ a b, d = .tup [a, b] ∧ Rep c.b w.F x a ∧ Rep c.b w.F y b) : ItOk c σ w J ds := by
  refine ⟨n, G, YPair fx fy, wk, hn, hG, fun i v H' σ' w' d r' l' hd yy => ?_⟩
  obtain ⟨T, x, y, rfl, nT, rfl, h1, h2⟩ := yy
  obtain ⟨a, b, rfl, ra, rb⟩ := hr i d x y hd h1 h2
  obtain ⟨r2, l2⟩ := allocF (o := .tup [x, y]) r' nT
  exact ⟨_, r2, l2, .tup upd_same (.cons ((ra.mono l'.ff).mono l2.ff) (.cons ((rb.mono l'.ff).mono l2.ff) .nil))⟩
theorem zipD_get : ∀ (as bs : List D) (i : Nat), (zipD as bs)[i]? = as[i]?.bind fun a => bs[i]?.map fun b => .tup [a, b]
  | [], _, _ => rfl
  | _ :: _, [], i => by
    cases i with
    | zero => rfl
    | succ i =>
      show (none : Option D) = _
      simp
  | _ :: _, _ :: _, 0 => rfl
  | _ :: as, _ :: bs, i + 1 => zipD_get as bs i
theorem zipD_len : ∀ (as bs : List D), (zipD as bs).length = min as.length bs.length
  | [], _ => by simp [zipD]
  | _ :: _, [] => by simp [zipD]
  | _ :: as, _ :: bs => by
    show (zipD as bs).length + 1 = _
    rw [zipD_len as bs]
    simp only [List.length_cons]
    omega
theorem si_zip (h : SimA c E tt ms) : SimI c E (iZip c.K tt) (mZip ms) := by
  intro σ w Rr rel q
  refine h.to rel (LeS.refl σ w) q fun as w1 vs r1 l1 vp q1 => frzs_to r1 l1 vp q1 fun ds w2 e2 r2 l2 rs q2 => ?_
  have q2 : Cn c E σ w (match ds with
    | [.lst a, .lst b] => .ok (⟨zipD a b, none⟩ : Itr) w2.env
    | _ => .st) _ := q2
  split at q2
  · next a b =>
    cases rs with
    | cons ra t =>
      cases t with
      | cons rb t =>
        cases t
        cases ra with
        | lst ea ra =>
          cases rb with
          | lst eb rb =>
            rw [← e2]
            refine ⟨_, _, _, _, rfl, .inl (.inl (r2.sm _ _ ea)), .inl (.inl (r2.sm _ _ eb)), q2 w2.F w2.H _ r2 (l1.trans l2) True.intro (it_pair (walk_zip rfl) (by rw [zipD_len, ra.len, rb.len]) (fun σ' w' r' l' => ⟨.inl (.inl (r'.sm _ _ (l'.ff _ _ ea))), .inl (.inl (r'.sm _ _ (l'.ff _ _ eb)))⟩) fun i d x y hd hx hy => ?_)⟩
            rw [zipD_get] at hd
            obtain ⟨d1, h1, hd⟩ := obn hd
            obtain ⟨d2, h2, rfl⟩ := map_some hd
            obtain ⟨u, hu, ru⟩ := ra.get h1
            obtain ⟨u2, hu2, ru2⟩ := rb.get h2
            rw [hu] at hx
            rw [hu2] at hy
            cases hx
            cases hy
            exact ⟨_, _, rfl, ru, ru2⟩
  · exact q2.elim
theorem it_range {J : It} {n : Nat} {lo : Int} (wk : Walk J n (fun _ => True) (YFn fun i => .int (lo + i))) : ItOk c σ w J (rangeD lo n) := by
  refine ⟨n, _, _, wk, by simp [rangeD], fun _ _ _ _ => True.intro, fun i x H' σ' w' d r' l' hd y => ?_⟩
  obtain ⟨rfl, rfl⟩ := y
  unfold rangeD at hd
  rw [List.getElem?_map] at hd
  obtain ⟨k, hk, rfl⟩ := map_some hd
  have hi : i < n := by
    have := (List.getElem?_eq_some_iff.mp hk).1
    simpa using this
  rw [List.getElem?_range hi] at hk
  cases hk
  exact ⟨w'.F, r', LeS.refl σ' w', .int _⟩
@[irreducible] noncomputable def mRange1 (ms : En → R (List Val)) (e : En) : R Itr := (ms e).bind fun as e1 => R.of ((cons? as e1).bind fun ds => match ds with
  | [.int j] => gdO (-(2 ^ 62) ≤ j ∧ j < 2 ^ 62) ⟨rangeD 0 j.toNat, none⟩
  | _ => none) e1
@[irreducible] noncomputable def mRange2 (ms : En → R (List Val)) (e : En) : R Itr := (ms e).bind fun as e1 => R.of ((cons? as e1).bind fun ds => match ds with
  | [.int i, .int j] => gdO (-(2 ^ 62) ≤ i ∧ i < 2 ^ 62 ∧ -(2 ^ 62) ≤ j ∧ j < 2 ^ 62) ⟨rangeD i (j - i).toNat, none⟩
  | _ => none) e1
theorem si_range1 (h : SimA c E tt ms) : SimI c E (iRng1 tt) (mRange1 ms) := by
  intro σ w Rr rel q
  unfold mRange1 at q
  refine h.to rel (LeS.refl σ w) q fun as w1 vs r1 l1 vp q1 => ?_
  obtain ⟨it, e, k⟩ := Cn.of q1
  obtain ⟨ds, e1, e⟩ := obn e
  have ac := cons_ok r1 vp e1
  split at e
  · next j =>
    obtain ⟨hp, rfl⟩ := gdO_ok e
    obtain ⟨v, rfl, h⟩ := acs1 ac
    exact ⟨j, by rw [ac_int h], hp.1, hp.2, k _ _ _ r1 l1 True.intro (it_range walk_range)⟩
  · cases e
theorem si_range2 (h : SimA c E tt ms) : SimI c E (iRng2 tt) (mRange2 ms) := by
  intro σ w Rr rel q
  unfold mRange2 at q
  refine h.to rel (LeS.refl σ w) q fun as w1 vs r1 l1 vp q1 => ?_
  obtain ⟨it, e, k⟩ := Cn.of q1
  obtain ⟨ds, e1, e⟩ := obn e
  have ac := cons_ok r1 vp e1
  split at e
  · next i j =>
    obtain ⟨hp, rfl⟩ := gdO_ok e
    obtain ⟨v, v2, rfl, h, h2⟩ := acs2 ac
    exact ⟨i, j, by rw [ac_int h, ac_int h2], hp, k _ _ _ r1 l1 True.intro (it_range walk_range)⟩
  · cases e
end
end MR
set_option autoImplicit false
namespace MR
open PySem PySem.Spec PyProof.Rows L2
noncomputable def isUn : Option Sl → Bool
  | some .un => true
  | _ => false
noncomputable def unAll (e : En) (vs : List Nat) : Bool := vs.all fun i => isUn e[i]?
noncomputable def unS (e : En) : List Nat → En
  | [] => e
  | v :: vs => (unS e vs).set v .un
noncomputable def R.nr {α : Type} (r : R α) : R α := match r with
  | .er _ _ => .st
  | r => r
section
variable {c : Ctx} {E : Option (L2.St → XK)} {σ τ : L2.St} {w w0 : Wd} {Q : VK} {v x y : V} {t u : TS} {te ta tb : TE} {me ma mb : En → R Val} {tt : TT} {mt : En → R Bool} {g : TG} {mg : D → En → Option En} {wi wi' : TI} {mi mi' : En → R Itr}
theorem unAll_at {e : En} {vs : List Nat} (h : unAll e vs = true) {i : Nat} (hi : i ∈ vs) : e[i]? = some .un := by
  have := List.all_eq_true.mp h i hi
  unfold isUn at this
  split at this
  · assumption
  · cases this
theorem unS_len (e : En) : ∀ vs : List Nat, (unS e vs).length = e.length
  | [] => rfl
  | v :: vs => by
    show ((unS e vs).set v .un).length = _
    rw [List.length_set, unS_len e vs]
theorem unS_at (e : En) : ∀ (vs : List Nat) (i : Nat) (s : Sl), (unS e vs)[i]? = some s → s = .un ∨ (i ∉ vs ∧ e[i]? = some s)
  | [], i, s, h => .inr ⟨List.not_mem_nil, h⟩
  | v :: vs, i, s, h => by
    rcases get_set (env := unS e vs) h with ⟨_, z⟩ | ⟨ne, h⟩
    · exact .inl z
    · rcases unS_at e vs i s h with z | ⟨n, z⟩
      · exact .inl z
      · exact .inr ⟨fun hm => (List.mem_cons.mp hm).elim ne n, z⟩
theorem unS_all (e : En) (vs : List Nat) (h : ∀ i ∈ vs, i < e.length) : unAll (unS e vs) vs = true := by
  refine List.all_eq_true.mpr fun i hi => ?_
  have hl : i < (unS e vs).length := by rw [unS_len]; exact h i hi
  rcases unS_at e vs i _ (List.getElem?_eq_getElem hl) with z | ⟨n, _⟩
  · rw [List.getElem?_eq_getElem hl, z]
    rfl
  · exact absurd hi n
/-- slots of which nothing is known are forgotten -/
theorem RelE.unS (rel : RelE c σ w) (vs : List Nat) (hn : ∀ i ∈ vs, ∀ a b d, w.env[i]? = some (.ow a b d) → (a || b) = false) : RelE c σ ⟨w.F, w.H, unS w.env vs⟩ ∧ LeS σ w σ ⟨w.F, w.H, MR.unS w.env vs⟩ := by
  have gow : ∀ (j : Nat) (a b : Bool) (d' : D), (MR.unS w.env vs)[j]? = some (.ow a b d') → w.env[j]? = some (.ow a b d') := fun j a b d' h => by
    rcases unS_at w.env vs j _ h with z | ⟨_, z⟩
    · cases z
    · exact z
  refine ⟨⟨?_, fun j s hj => ?_, fun j k a b d1 a' b' d2 p h1 h2 e1 e2 => rel.ne j k _ _ _ _ _ _ p (gow _ _ _ _ h1) (gow _ _ _ _ h2) e1 e2, rel.sm, fun j d z => rel.pl j d (gow _ _ _ _ z)⟩, ⟨Same.refl _, fun _ _ _ h => h, fun _ _ _ => rfl, fun _ h => h, fun p ⟨j, a, d', hj, hp⟩ => .inl ⟨j, a, d', gow _ _ _ _ hj, hp⟩, fun p ⟨j, a, d', hj, hp⟩ => .inl ⟨j, a, d', gow _ _ _ _ hj, hp⟩, fun j a b d hj ab => ?_⟩⟩
  · show σ.length = (MR.unS w.env vs).length
    rw [unS_len]
    exact rel.len
  · rcases unS_at w.env vs j _ hj with rfl | ⟨_, z⟩
    · have hl : j < σ.length := by
        rw [rel.len, ← unS_len w.env vs]
        exact (List.getElem?_eq_some_iff.mp hj).1
      exact ⟨_, List.getElem?_eq_getElem hl, True.intro⟩
    · exact rel.at_ j s z
  · refine ⟨d, ?_, rfl, fun _ => rfl⟩
    have hl : j < (MR.unS w.env vs).length := by
      rw [unS_len]
      exact (List.getElem?_eq_some_iff.mp hj).1
    show (MR.unS w.env vs)[j]? = _
    by_cases hm : j ∈ vs
    · rw [hn j hm a b d hj] at ab
      cases ab
    · clear gow
      induction vs with
      | nil => exact hj
      | cons v vs ih =>
        show ((MR.unS w.env vs).set v .un)[j]? = _
        rw [List.getElem?_set_ne fun z => hm (by rw [z]; exact List.mem_cons_self)]
        exact ih (fun i hi => hn i (List.mem_cons_of_mem _ hi)) (by rw [unS_len]; exact (List.getElem?_eq_some_iff.mp hj).1) fun z => hm (List.mem_cons_of_mem _ z)
/-- other locals where nothing is known -/
theorem RelE.swap {vs : List Nat} (rel : RelE c σ w) (hu : unAll w.env vs = true) (hl : τ.length = σ.length) (hs : ∀ i, i ∉ vs → τ[i]? = σ[i]?) : RelE c τ w ∧ LeS σ w τ w := by
  have ow : ∀ {j : Nat} {a b : Bool} {d : D}, w.env[j]? = some (.ow a b d) → τ[j]? = σ[j]? := fun {j a b d} h => hs j fun hm => by
    rw [unAll_at hu hm] at h
    cases h
  refine ⟨⟨hl.trans rel.len, fun i s h => ?_, fun j k a b d1 a' b' d2 p h1 h2 e1 e2 => rel.ne j k _ _ _ _ _ _ p h1 h2 ((ow h1).symm.trans e1) ((ow h2).symm.trans e2), rel.sm, rel.pl⟩, ⟨Same.refl _, fun _ _ _ h => h, fun _ _ _ => rfl, fun _ h => h, fun p ⟨j, a, d', hj, hp⟩ => .inl ⟨j, a, d', hj, (ow hj).symm.trans hp⟩, fun p ⟨j, a, d', hj, hp⟩ => .inl ⟨j, a, d', hj, (ow hj).symm.trans hp⟩, fun j a b d hj ab => ⟨d, hj, ow hj, fun _ => rfl⟩⟩⟩
  by_cases hm : i ∈ vs
  · rw [unAll_at hu hm] at h
    cases h
    have hi : i < τ.length := by
      rw [hl, rel.len]
      exact (List.getElem?_eq_some_iff.mp (unAll_at hu hm)).1
    exact ⟨_, List.getElem?_eq_getElem hi, True.intro⟩
  · obtain ⟨o, h1, h2⟩ := rel.at_ i s h
    exact ⟨o, (hs i hm).trans h1, h2⟩
theorem wipe_ext {vs : List Nat} (hl : σ.length = τ.length) (h : ∀ i, i ∉ vs → σ[i]? = τ[i]?) : wipe σ vs = wipe τ vs := by
  have at_ : ∀ (σ : L2.St) (vs : List Nat) (i : Nat), i ∈ vs → (wipe σ vs)[i]? = if i < σ.length then some none else none := by
    intro σ vs
    induction vs with
    | nil => intro i h; cases h
    | cons v vs ih =>
      intro i h
      show ((wipe σ vs).set v none)[i]? = _
      by_cases e : v = i
      · subst e
        by_cases hl : v < σ.length
        · rw [List.getElem?_set_self (by rw [wipe_length]; exact hl), if_pos hl]
        · rw [List.getElem?_eq_none (by rw [List.length_set, wipe_length]; omega), if_neg hl]
      · rw [List.getElem?_set_ne e]
        exact ih i ((List.mem_cons.mp h).resolve_left (Ne.symm e))
  refine List.ext_getElem? fun i => ?_
  by_cases hi : i ∈ vs
  · rw [at_ _ _ _ hi, at_ _ _ _ hi, hl]
  · rw [wipe_out hi, wipe_out hi, h i hi]
theorem wipe_wipe {vs : List Nat} : wipe (wipe σ vs) vs = wipe σ vs := wipe_ext (wipe_length ..) fun _ hi => wipe_out hi
noncomputable def Free (σ : L2.St) (w : Wd) (p : Addr) : Prop := ∀ (j : Nat) (a b : Bool) (d : D), w.env[j]? = some (.ow a b d) → σ[j]? ≠ some (some (.ref p))
theorem Free.of (rel : RelE c σ w) {p : Addr} (h1 : ¬ Bm σ w.env p) (h2 : ¬ Bu σ w.env p) : Free σ w p := by
  intro j a b d hj hp
  cases a with
  | false => exact h2 ⟨j, b, d, hj, hp⟩
  | true => cases b with
    | false => exact h1 ⟨j, true, d, hj, hp⟩
    | true => exact rel.pl j d hj
theorem Free.bm {p : Addr} (h : Free σ w p) : ¬ Bm σ w.env p := fun ⟨j, a, d, hj, hp⟩ => h j a false d hj hp
theorem Free.bu {p : Addr} (h : Free σ w p) : ¬ Bu σ w.env p := fun ⟨j, b, d, hj, hp⟩ => h j false b d hj hp
theorem Free.next {σ' : L2.St} {w' : Wd} {p : Addr} (h : Free σ w p) (rel : RelE c σ' w') (l : LeS σ w σ' w') (n : w.H p ≠ none) : Free σ' w' p :=
  .of rel (fun z => (l.bb p z).elim h.bm n) fun z => (l.bu p z).elim h.bu n
theorem Free.unl {F H : Hp} {e : En} {p : Addr} (h : Free σ ⟨F, H, e⟩ p) (lk : Option Nat) : Free σ ⟨F, H, unlockS e lk⟩ p := by
  cases lk with
  | none => exact h
  | some i =>
    intro j a b d hj
    have hj : (match e[i]? with
      | some (.ow a _ d) => e.set i (.ow a false d)
      | _ => e)[j]? = some (.ow a b d) := hj
    cases he : e[i]? with
    | none => rw [he] at hj; exact h j a b d hj
    | some s =>
      rw [he] at hj
      cases s with
      | un => exact h j a b d hj
      | ex => exact h j a b d hj
      | fz _ => exact h j a b d hj
      | ow a2 b2 d2 =>
        rcases get_set hj with ⟨rfl, _⟩ | ⟨_, z⟩
        · exact h j a2 b2 d2 he
        · exact h j a b d z
theorem RelE.side {p : Addr} {o : HO} (rel : RelE c σ w) (f : Free σ w p) (nf : w.F p = none) : RelE c σ ⟨w.F, upd w.H p o, w.env⟩ := by
  refine ⟨rel.len, fun i s hs => ?_, rel.ne, fun q u hq => (upd_ne fun z => by rw [z, nf] at hq; cases hq).trans (rel.sm _ _ hq), rel.pl⟩
  obtain ⟨ov, h1, h2⟩ := rel.at_ i s hs
  refine ⟨ov, h1, ?_⟩
  cases s with
  | un => exact True.intro
  | ex => exact h2
  | fz d => exact h2
  | ow a b d =>
    obtain ⟨q, rfl, hf, own⟩ := h2
    exact ⟨q, rfl, hf, own.step (Same.refl _) fun u hu => (upd_ne fun z => f i a b d hs (by rw [h1, z])).trans hu⟩
theorem LeS.side {σ' : L2.St} {w' : Wd} {p : Addr} {o : HO} (l : LeS σ w σ' w') (n : w.H p = none) : LeS σ w σ' ⟨w'.F, upd w'.H p o, w'.env⟩ :=
  ⟨l.ff, fun q u nb hq => (upd_ne (ne_of_none hq n)).trans (l.hh q u nb hq), l.fn, fun q hq z => l.dom q hq ((upd_ne fun e => hq (by rw [e]; exact n)).symm.trans z), l.bb, l.bu, l.pn⟩
/-- within: no error -/
theorem Cn.nr {α β : Type} {r : R α} {k : α → En → R β} {K : β → En → Prop} (q : Cn c E σ w (r.nr.bind k) K) : ∃ a e, r = .ok a e ∧ Cn c E σ w (k a e) K := by
  cases r with
  | st => exact q.elim
  | er x e => exact q.elim
  | ok a e => exact ⟨a, e, rfl, q⟩
theorem Cn.nrb {α β γ : Type} {r : R α} {k : α → En → R β} {f : β → En → R γ} {K : γ → En → Prop} (q : Cn c E σ w ((r.nr.bind k).bind f) K) : ∃ a e, r = .ok a e ∧ Cn c E σ w ((k a e).bind f) K := by
  cases r with
  | st => exact q.elim
  | er x e => exact q.elim
  | ok a e => exact ⟨a, e, rfl, q⟩
theorem SimT.at {Q : Bool → Hp → Prop} {a : Bool} {e : En} (h : SimT c none tt mt) (rel : RelE c σ w) (hm : mt w.env = .ok a e) (hk : ∀ F' H', RelE c σ ⟨F', H', e⟩ → LeS σ w σ ⟨F', H', e⟩ → Q a H') : tt σ w.H Q :=
  h σ w Q rel (by rw [hm]; exact hk)
theorem SimD.at {md : En → R D} {a : D} {e : En} (h : SimD c none te md) (rel : RelE c σ w) (hm : md w.env = .ok a e) (hk : ∀ v F' H', RelE c σ ⟨F', H', e⟩ → LeS σ w σ ⟨F', H', e⟩ → Rep c.b F' v a → Q v H') : te σ w.H Q :=
  h σ w Q rel (by rw [hm]; exact hk)
end
noncomputable def unC (e : En) (vs : List Nat) : Option En := if (vs.all fun i => canSet e[i]?) = true then some (unS e vs) else none
noncomputable def mLcI (g : D → En → Option En) (mt : En → R Bool) (me : En → R Val) (vs : List Nat) : List D → En → R (List D)
  | [], e => .ok [] e
  | d :: ds, e => (R.of (g d e) e).bind fun e1 _ => (mt e1).nr.bind fun b e2 => if b then (mD me e2).nr.bind fun y e3 => (R.of (unC e3 vs) e3).bind fun e4 _ => (mLcI g mt me vs ds e4).bind fun ys e5 => .ok (y :: ys) e5 else (R.of (unC e2 vs) e2).bind fun e4 _ => mLcI g mt me vs ds e4
noncomputable def mLc (mi : En → R Itr) (g : D → En → Option En) (mt : En → R Bool) (me : En → R Val) (vs : List Nat) (e : En) : R Val := (mi e).bind fun it e1 =>
  if unAll e1 vs = true ∧ it.items.length ≤ sizeLine then (mLcI g mt me vs it.items (lockS e1 it.lk)).bind fun ds e2 => .ok (.new (.lst ds)) (unlockS e2 it.lk) else .st
section
variable {c : Ctx} {E : Option (L2.St → XK)} {σ τ : L2.St} {w w0 : Wd} {Q : VK} {v x y : V} {t u : TS} {te ta tb : TE} {me ma mb : En → R Val} {tt : TT} {mt : En → R Bool} {g : TG} {mg : D → En → Option En} {wi wi' : TI} {mi mi' : En → R Itr}
theorem lockS_un {e : En} {lk : Option Nat} {vs : List Nat} (h : unAll e vs = true) (lo : LkOk e lk) : unAll (lockS e lk) vs = true := by
  cases lk with
  | none => exact h
  | some i =>
    obtain ⟨d, hd⟩ := lo
    have e0 : lockS e (some i) = e.set i (.ow false true d) := by
      show (match e[i]? with
        | some (.ow a _ d) => e.set i (.ow a true d)
        | _ => e) = _
      rw [hd]
    rw [e0]
    refine List.all_eq_true.mpr fun j hj => ?_
    have ne : j ≠ i := fun z => by
      subst z
      rw [unAll_at h hj] at hd
      cases hd
    rw [List.getElem?_set_ne (Ne.symm ne), unAll_at h hj]
    rfl
theorem SimI.to {β : Type} {k : Itr → En → R β} {K : β → En → Prop} {Rr : It → Hp → Prop} {w1 : Wd} (h : SimI c E wi mi) (rel : RelE c σ w1) (l : LeS σ w σ w1) (q : Cn c E σ w ((mi w1.env).bind k) K)
    (hk : ∀ it w2 J, RelE c σ w2 → LeS σ w1 σ w2 → LkOk w2.env it.lk → ItOk c σ ⟨w2.F, w2.H, lockS w2.env it.lk⟩ J it.items → Cn c E σ w (k it w2.env) K → Rr J w2.H) : wi σ w1.H Rr := by
  refine h σ w1 Rr rel ?_
  cases hm : mi w1.env with
  | st => rw [hm] at q; exact q
  | er x e => rw [hm] at q; exact KE.step q l
  | ok a e =>
    rw [hm] at q
    exact fun F' H' J r l1 lo io => hk a ⟨F', H', e⟩ J r l1 lo io q
theorem s_lc {vs ws : List Nat} (hi : SimI c E wi mi) (hg : SimG c g mg ws) (hw : ∀ i ∈ ws, i ∈ vs) (ht : SimT c none tt mt) (he : SimE c none te me) : SimE c E (tLc wi g tt te vs) (mLc mi mg mt me vs) := by
  intro σ w Q rel q
  refine hi.to rel (LeS.refl σ w) q fun it w1 J r1 l1 lo io q1 => ?_
  split at q1
  case isFalse => exact q1.elim
  case isTrue hc =>
  obtain ⟨hu, hz⟩ := hc
  obtain ⟨n, G, Y, wk, hn, hG, hY⟩ := io
  intro D nD
  obtain ⟨rl, ll⟩ := lock_ok r1 lo
  have hul := lockS_un hu lo
  obtain ⟨rs, ls⟩ := rl.swap (τ := wipe σ vs) hul (wipe_length ..) fun i hi => wipe_out hi
  have hvl : ∀ i ∈ vs, i < σ.length := fun i hi => by
    rw [rl.len]
    exact (List.getElem?_eq_some_iff.mp (unAll_at hul hi)).1
  subst hn
  have freeD : Free (wipe σ vs) ⟨w1.F, w1.H, lockS w1.env it.lk⟩ D := fun j a b d hj hp => by
    obtain ⟨o, h1, p, rfl, nf, own⟩ := rs.at_ j _ hj
    rw [hp] at h1
    cases h1
    obtain ⟨z, hz⟩ := own.some
    have nD : (⟨w1.F, w1.H, lockS w1.env it.lk⟩ : Wd).H D = none := nD
    rw [hz] at nD
    cases nD
  have nFD := rl.sm.free nD
  let Wv : Nat → Hp → Prop := fun i H' => ∃ F' e' acc ds0, RelE c (wipe σ vs) ⟨F', H', e'⟩ ∧ LeS σ ⟨w1.F, w1.H, lockS w1.env it.lk⟩ (wipe σ vs) ⟨F', H', e'⟩ ∧ Free (wipe σ vs) ⟨F', H', e'⟩ D ∧ F' D = none ∧ unAll e' vs = true ∧
      H' D = some (.lst acc) ∧ Reps c.b F' acc ds0 ∧ ds0.length ≤ i ∧ Cn c E σ w ((mLcI mg mt me vs (it.items.drop i) e').bind fun ds e2 => .ok (.new (.lst (ds0 ++ ds))) (unlockS e2 it.lk)) (KV c σ w Q)
  refine ⟨fun i k H' => k = it.items.length - i ∧ i ≤ it.items.length ∧ Wv i H', ⟨_, rfl, Nat.zero_le _, w1.F, lockS w1.env it.lk, [], [], rs.side freeD nFD, (ls.side nD :), freeD, nFD, hul, upd_same, .nil, Nat.le_refl _, q1⟩, ?_⟩
  rintro i k H' ⟨rfl, hle, F', e', acc, ds0, r2, l2, fD, nF, hu2, hD, ra, hlen, q2⟩
  by_cases hlt : i < it.items.length
  · refine .inr ⟨wk.goes i H' hlt (hG _ _ r2 l2), Wv (i + 1), fun H3 h => ⟨_, by omega, rfl, hlt, h⟩, ?_⟩
    intro xv H4 hy
    have hDn : H' D ≠ none := by rw [hD]; exact fun z => nomatch z
    obtain ⟨F4, r4, l4, rp⟩ := hY i xv H4 (wipe σ vs) ⟨F', H', e'⟩ it.items[i] r2 l2 (List.getElem?_eq_getElem hlt) (wk.yields i H' xv H4 hlt (hG _ _ r2 l2) hy)
    have fD4 : Free (wipe σ vs) ⟨F4, H4, e'⟩ D := fD.next r4 l4 hDn
    have hD4 : H4 D = some (.lst acc) := l4.hh D _ fD.bm hD
    have nF4 : F4 D = none := (l4.fn D fD.bm hDn).trans nF
    rw [List.drop_eq_getElem_cons hlt] at q2
    have q2 : Cn c E σ w (((R.of (mg it.items[i] e') e').bind fun e1 _ => (mt e1).nr.bind fun b e2 => if b then (mD me e2).nr.bind fun y e3 => (R.of (unC e3 vs) e3).bind fun e4 _ => (mLcI mg mt me vs (it.items.drop (i + 1)) e4).bind fun ys e5 => .ok (y :: ys) e5 else (R.of (unC e2 vs) e2).bind fun e4 _ => mLcI mg mt me vs (it.items.drop (i + 1)) e4).bind fun ds e2 => .ok (.new (.lst (ds0 ++ ds))) (unlockS e2 it.lk)) (KV c σ w Q) := q2
    cases hm : mg it.items[i] e' with
    | none => rw [hm] at q2; exact q2.elim
    | some e5 =>
      rw [hm] at q2
      refine hg (wipe σ vs) ⟨F4, H4, e'⟩ xv _ e5 _ r4 rp hm fun σ5 r5 l5 out => ?_
      have hout : ∀ j, j ∉ vs → σ5[j]? = (wipe σ vs)[j]? := fun j hj => out.out j fun z => hj (hw j z)
      have hw5 : wipe σ5 vs = wipe σ vs := (wipe_ext out.len hout).trans wipe_wipe
      refine ⟨hw5, ?_⟩
      have h5n : H4 D ≠ none := by rw [hD4]; exact fun z => nomatch z
      have fD5 : Free σ5 ⟨F4, H4, e5⟩ D := fD4.next r5 l5 h5n
      have l15 := (l2.trans l4).trans l5
      obtain ⟨b, e6, hmt, q3⟩ := Cn.nrb (q2)
      refine SimT.at (w := ⟨F4, H4, e5⟩) ht r5 hmt fun F6 H6 r6 l6 => ?_
      have fD6 : Free σ5 ⟨F6, H6, e6⟩ D := fD5.next r6 l6 h5n
      have hD6 : H6 D = some (.lst acc) := l6.hh D _ fD5.bm hD4
      have nF6 : F6 D = none := (l6.fn D fD5.bm h5n).trans nF4
      have h6n : H6 D ≠ none := by rw [hD6]; exact fun z => nomatch z
      -- the turn's own names are forgotten again
      have back : ∀ {F7 H7 : Hp} {e7 e8 : En}, RelE c σ5 ⟨F7, H7, e7⟩ → LeS σ5 ⟨F6, H6, e6⟩ σ5 ⟨F7, H7, e7⟩ → unC e7 vs = some e8 → RelE c (wipe σ vs) ⟨F7, H7, e8⟩ ∧ LeS σ ⟨w1.F, w1.H, lockS w1.env it.lk⟩ (wipe σ vs) ⟨F7, H7, e8⟩ ∧ unAll e8 vs = true ∧
          Free (wipe σ vs) ⟨F7, H7, e8⟩ D ∧ H7 D = some (.lst acc) ∧ F7 D = none := fun {F7 H7 e7 e8} r7 l7 hc => by
        unfold unC at hc
        split at hc
        case isFalse => cases hc
        case isTrue hcs =>
        cases hc
        have hcs : ∀ i ∈ vs, canSet e7[i]? = true := List.all_eq_true.mp hcs
        obtain ⟨r8, l8⟩ := r7.unS vs fun i hi => (canSet_ok (hcs i hi)).2
        have hu8 := unS_all e7 vs fun i hi => (canSet_ok (hcs i hi)).1
        obtain ⟨r9, l9⟩ := r8.swap (τ := wipe σ vs) hu8 out.len.symm fun i hi => (hout i hi).symm
        have l69 := (l7.trans l8).trans l9
        have h7n : H7 D ≠ none := by
          rw [show H7 D = _ from l7.hh D _ fD6.bm hD6]
          exact fun z => nomatch z
        have f8 := ((fD6.next r7 l7 h6n).next r8 l8 h7n).next r9 l9 h7n
        exact ⟨r9, (l15.trans l6).trans l69, hu8, f8, l7.hh D _ fD6.bm hD6, (l7.fn D fD6.bm h6n).trans nF6⟩
      cases b with
      | true =>
        rw [if_pos rfl]
        have q3 : Cn c E σ w (((mD me e6).nr.bind fun y e3 => (R.of (unC e3 vs) e3).bind fun e4 _ => (mLcI mg mt me vs (it.items.drop (i + 1)) e4).bind fun ys e5 => .ok (y :: ys) e5).bind fun ds e2 => .ok (.new (.lst (ds0 ++ ds))) (unlockS e2 it.lk)) (KV c σ w Q) := q3
        obtain ⟨y, e7, hme, q4⟩ := Cn.nrb q3
        refine SimD.at (w := ⟨F6, H6, e6⟩) he.d r6 hme fun yv F7 H7 r7 l7 ry => ?_
        cases hc : unC e7 vs with
        | none => rw [hc] at q4; exact q4.elim
        | some e8 =>
          rw [hc] at q4
          obtain ⟨r8, l8, hu8, f8, hD7, nF7⟩ := back r7 l7 hc
          refine ⟨acc, hD7, ?_, F7, e8, acc ++ [yv], ds0 ++ [y], r8.side f8 nF7, l8.side nD, f8, nF7, hu8, upd_same, (ra.mono (((l4.ff.trans l5.ff).trans l6.ff).trans l7.ff)).app (.cons ry .nil), ?_, ?_⟩
          · rw [ra.len]
            omega
          · rw [List.length_append]
            show ds0.length + 1 ≤ i + 1
            omega
          · have q5 : Cn c E σ w (((mLcI mg mt me vs (it.items.drop (i + 1)) e8).bind fun ys e5 => .ok (y :: ys) e5).bind fun ds e2 => .ok (.new (.lst (ds0 ++ ds))) (unlockS e2 it.lk)) (KV c σ w Q) := q4
            cases hr : mLcI mg mt me vs (it.items.drop (i + 1)) e8 with
            | st => rw [hr] at q5; exact q5
            | er x e => rw [hr] at q5; exact q5
            | ok ys e9 =>
              rw [hr] at q5
              have q5 : KV c σ w Q (.new (.lst (ds0 ++ y :: ys))) (unlockS e9 it.lk) := q5
              show KV c σ w Q (.new (.lst (ds0 ++ [y] ++ ys))) (unlockS e9 it.lk)
              rw [List.append_assoc]
              exact q5
      | false =>
        rw [if_neg Bool.false_ne_true]
        have q3 : Cn c E σ w (((R.of (unC e6 vs) e6).bind fun e4 _ => mLcI mg mt me vs (it.items.drop (i + 1)) e4).bind fun ds e2 => .ok (.new (.lst (ds0 ++ ds))) (unlockS e2 it.lk)) (KV c σ w Q) := q3
        cases hc : unC e6 vs with
        | none => rw [hc] at q3; exact q3.elim
        | some e8 =>
          rw [hc] at q3
          obtain ⟨r8, l8, hu8, f8, hD7, nF7⟩ := back r6 (LeS.refl _ _) hc
          exact ⟨F6, e8, acc, ds0, r8, l8, f8, nF7, hu8, hD7, ra.mono ((l4.ff.trans l5.ff).trans l6.ff), by omega, q3⟩
  · have ei : i = it.items.length := by omega
    subst ei
    rw [List.drop_length] at q2
    refine .inl ⟨wk.stops H' (hG _ _ r2 l2), ?_⟩
    have q2 : KV c σ w Q (.new (.lst (ds0 ++ []))) (unlockS e' it.lk) := q2
    rw [List.append_nil] at q2
    obtain ⟨r3, l3⟩ := r2.swap (τ := σ) hu2 (wipe_length ..).symm fun i hi => (wipe_out hi).symm
    have hDn : H' D ≠ none := by rw [hD]; exact fun z => nomatch z
    have f3 := fD.next r3 l3 hDn
    obtain ⟨r4, l4⟩ := unlock_ok (w := w1) (w' := ⟨F', H', e'⟩) lo (l2.trans l3) ((ll.trans l2).trans l3) r3
    have f4 : Free σ ⟨F', H', unlockS e' it.lk⟩ D := f3.unl it.lk
    exact q2 (.ref D) F' H' r4 (l1.trans l4) ⟨D, rfl, l1.free nD, nF, ⟨acc, hD, ra⟩, f4⟩
end
end MR
set_option autoImplicit false
namespace MR
open PySem PySem.Spec PyProof.Rows L2
noncomputable def tyD (T : String) : D → Bool
  | .lst _ => T == "list"
  | .scr _ => T == "list"
  | .dic _ => T == "dict"
  | .dit _ => T == "dict"
  | .str _ => T == "str"
  | _ => false
noncomputable def owAt (i : Nat) (e : En) : Option (Bool × D) := match e[i]? with
  | some (.ow a false d) => some (a, d)
  | _ => none
noncomputable def mutK (i : Nat) (f : D → List D → Option (D × D)) (ds : List D) (e : En) : R Val := (R.of (owAt i e) e).bind fun p _ => (R.of (f p.2 ds) e).bind fun q _ => .ok (.fz q.1) (e.set i (.ow p.1 false q.2))
noncomputable def mMut (i : Nat) (T : String) (f : D → List D → Option (D × D)) (ms : En → R (List Val)) (e : En) : R Val := (R.of (owAt i e) e).bind fun p _ => if tyD T p.2 = true then (ms e).bind fun as e1 => (frzs as e1).bind fun ds e2 => mutK i f ds e2 else .st
noncomputable def mMut0 (i : Nat) (T : String) (f : D → List D → Option (D × D)) (e : En) : R Val := (R.of (owAt i e) e).bind fun p _ => if tyD T p.2 = true then mutK i f [] e else .st
section
variable {c : Ctx} {E : Option (L2.St → XK)} {σ τ : L2.St} {w w0 : Wd} {Q : VK} {v x y : V} {t u : TS} {te ta tb tk : TE} {me ma mb mk : En → R Val} {tt : TA} {ms : En → R (List Val)}
theorem owAt_ok {e : En} {i : Nat} {p : Bool × D} (h : owAt i e = some p) : e[i]? = some (.ow p.1 false p.2) := by
  unfold owAt at h
  split at h
  · next h1 => cases h; exact h1
  · cases h
theorem own_some {i : Nat} {a b : Bool} {d : D} (rel : RelE c σ w) (h : w.env[i]? = some (.ow a b d)) : ∃ p, σ[i]? = some (some (.ref p)) ∧ w.F p = none ∧ Own c w.F w.H p d := by
  obtain ⟨o, h1, p, rfl, h2, h3⟩ := rel.at_ i _ h
  exact ⟨p, h1, h2, h3⟩
theorem tyD_own {T : String} {p : Addr} {F H : Hp} {d : D} (h : Own c F H p d) (e : tyD T d = true) : tyV c.K T (.ref p) H := by
  cases d with
  | lst ds =>
    obtain ⟨vs, h1, _⟩ := h
    exact .inl ⟨by simpa [tyD] using e, vs, .inl (.inl h1)⟩
  | dic ds =>
    obtain ⟨vs, h1, _⟩ := h
    exact .inr (.inr (.inl ⟨by simpa [tyD] using e, .inl ⟨vs, h1⟩⟩))
  | dit ds =>
    obtain ⟨vs, h1, _⟩ := h
    exact .inr (.inr (.inl ⟨by simpa [tyD] using e, .inr ⟨vs, h1⟩⟩))
  | obj _ _ => cases e
  | _ => exact h.elim
theorem tyD_ac {T : String} {d : D} (rel : RelE c σ w) (h : AcR c w v d) (e : tyD T d = true) : tyV c.K T v w.H := by
  rcases h with h | ⟨p, rfl, h⟩
  · cases h with
    | str z => show T = "str"; simpa [tyD] using e
    | lst e1 _ => exact .inl ⟨by simpa [tyD] using e, _, .inl (.inl (rel.sm _ _ e1))⟩
    | scr e1 => exact .inl ⟨by simpa [tyD] using e, _, rel.sm.seq e1⟩
    | dic e1 _ _ => exact .inr (.inr (.inl ⟨by simpa [tyD] using e, .inl ⟨_, rel.sm _ _ e1⟩⟩))
    | dit e1 _ _ => exact .inr (.inr (.inl ⟨by simpa [tyD] using e, .inr ⟨_, rel.sm _ _ e1⟩⟩))
    | _ => cases e
  · exact tyD_own h e
noncomputable def RdS (c : Ctx) (r : V → List V → Hp → VK → Prop) (f : D → List D → Option Val) : Prop := ∀ (σ : L2.St) (w : Wd) (x : V) (a : D) (vs : List V) (ds : List D) (res : Val) (Q : VK), RelE c σ w → AcR c w x a → AcRs c w vs ds → f a ds = some res → Out c σ w res Q → r x vs w.H Q
noncomputable def mRd (T : String) (f : D → List D → Option Val) (mo : En → R Val) (ms : En → R (List Val)) (e : En) : R Val := (mP mo e).bind fun a e1 => (R.of (con a e1) e1).bind fun d0 _ => if tyD T d0 = true then (ms e1).bind fun as e2 => R.of ((con a e2).bind fun d => (cons? as e2).bind fun ds => f d ds) e2 else .st
theorem s_rd {T : String} {r : V → List V → Hp → VK → Prop} {f : D → List D → Option Val} (h : RdS c r f) (ho : SimE c E ta ma) (hs : SimA c E tt ms) : SimE c E (tBM c.K T r ta tt) (mRd T f ma ms) := by
  intro σ w Q rel q
  refine ho.p.to rel (LeS.refl σ w) q fun a w1 x r1 l1 na v1 q1 => ?_
  obtain ⟨d0, hd0, q1⟩ := Cn.ofB q1
  split at q1
  case isFalse => exact q1.elim
  case isTrue ht =>
  refine ⟨tyD_ac r1 (con_ok r1 na v1 hd0) ht, ?_⟩
  refine hs.to r1 l1 q1 fun as w2 vs r2 l2 vp q2 => ?_
  obtain ⟨res, e, k⟩ := Cn.of q2
  obtain ⟨d, e1, e⟩ := obn e
  obtain ⟨ds, e2, e⟩ := obn e
  exact h σ w2 x d vs ds res Q r2 (con_ok (H0 := w2.H) r2 na (v1.later na l2) e1) (cons_ok r2 vp e2) e (Out.at k (l1.trans l2))
noncomputable def stI (i : Nat) (f : D → D → D → Option D) (d k : D) (e : En) : O := (R.of (owAt i e) e).o fun p _ => (R.of (f p.2 k d) e).o fun d' _ => .nx (e.set i (.ow p.1 false d'))
noncomputable def mStore (i : Nat) (f : D → D → D → Option D) (mk me : En → R Val) (e : En) : O := (mD me e).o fun d e1 => (R.of (owAt i e1) e1).o fun _ _ => (mD mk e1).o fun k e2 => stI i f d k e2
noncomputable def fSetL : D → D → D → Option D
  | .lst ds, .int k, d => (ixN ds.length k).map fun j => .lst (ds.set j d)
  | _, _, _ => none
theorem SimD.so2 {md : En → R D} {k : D → En → O} {DD : Ends} {w1 : Wd} (h : SimD c E te md) (rel : RelE c σ w1) (l : LeS σ w σ w1) (q : Co c E σ w ((md w1.env).o k) DD)
    (hk : ∀ a w2 v, RelE c σ w2 → LeS σ w1 σ w2 → Rep c.b w2.F v a → Co c E σ w (k a w2.env) DD → Q v w2.H) : te σ w1.H Q := by
  refine h σ w1 Q rel ?_
  cases hm : md w1.env with
  | st => rw [hm] at q; exact q
  | er x e =>
    rw [hm] at q
    exact KE.step (KEs.ke q) l
  | ok a e =>
    rw [hm] at q
    exact fun v F' H' r l1 vr => hk a ⟨F', H', e⟩ v r l1 vr q
theorem Co.of {α : Type} {o : Option α} {e : En} {k : α → En → O} {DD : Ends} (q : Co c E σ w ((R.of o e).o k) DD) : ∃ a, o = some a ∧ Co c E σ w (k a e) DD := by
  cases o with
  | none => exact q.elim
  | some a => exact ⟨a, rfl, q⟩
/-- a store by values -/
noncomputable def StS (c : Ctx) (r : TSet) (f : D → D → D → Option D) : Prop := ∀ (F H : Hp) (p : Addr) (d : D) (y v : V) (k a d' : D) (Q : Hp → Prop), Same F H → Own c F H p d → Rep c.b F y k → Rep c.b F v a → f d k a = some d' → (∀ o, Own c F (upd H p o) p d' → Q (upd H p o)) → r (.ref p) y v H Q
theorem stI_ok {r : TSet} {f : D → D → D → Option D} {i : Nat} {DD : Ends} {p : Addr} {w1 : Wd} {d k : D} (h : StS c r f) (rel : RelE c σ w1) (l : LeS σ w σ w1) (hp : σ[i]? = some (some (.ref p))) (rk : Rep c.b w1.F y k) (rd : Rep c.b w1.F v d)
    (q : Co c E σ w (stI i f d k w1.env) DD) : r (.ref p) y v w1.H fun H' => DD.nx σ H' := by
  unfold stI at q
  obtain ⟨p1, h1, q⟩ := Co.of q
  obtain ⟨d', h2, q⟩ := Co.of q
  have ho := owAt_ok h1
  obtain ⟨p2, h3, nf, own⟩ := own_some rel ho
  rw [hp] at h3
  cases h3
  refine h w1.F w1.H p p1.2 y v k d d' _ rel.sm own rk rd h2 fun o own' => ?_
  obtain ⟨r1, l1⟩ := put_own rel ho hp own'
  exact q.go σ _ _ r1 (l.trans l1)
theorem s_store {i : Nat} {r : TSet} {f : D → D → D → Option D} (h : StS c r f) (hk : SimE c E tk mk) (he : SimE c E te me) : SimS c E (tAsg te (gSub (tVar i) tk r)) (mStore i f mk me) := by
  intro σ w DD rel q
  refine he.d.so rel q fun d w1 v r1 l1 rd q1 => ?_
  obtain ⟨p1, h1, q1⟩ := Co.of q1
  obtain ⟨p, hp, nf, own⟩ := own_some r1 (owAt_ok h1)
  refine ⟨.ref p, hp, hk.d.so2 (w := w) r1 l1 q1 fun k w2 y r2 l2 rk q2 => ?_⟩
  exact stI_ok h r2 (l1.trans l2) hp rk (rd.mono l2.ff) q2
theorem st_list : StS c rSetL fSetL := by
  intro F H p d y v k a d' Q sm own rk ra e q
  unfold fSetL at e
  split at e
  · next ds i =>
    obtain ⟨j, hj, rfl⟩ := map_some e
    obtain ⟨us, h1, r1⟩ := own
    cases rk
    exact ⟨p, us, i, j, rfl, rfl, h1, by rw [r1.len]; exact hj, q _ ⟨_, upd_same, r1.set ra⟩⟩
  · cases e
theorem map_len {α β γ : Type} {xs : List α} {ys : List β} {f : α → γ} {g : β → γ} (h : xs.map f = ys.map g) : xs.length = ys.length := by
  have := congrArg List.length h
  simpa using this
noncomputable def putS (f : Str) (d : D) : List (Str × D) → List (Str × D)
  | [] => [(f, d)]
  | (g, x) :: r => if g = f then (g, d) :: r else (g, x) :: putS f d r
noncomputable def mFldSet (ns : List Str) (f : Str) (i : Nat) (me : En → R Val) (e : En) : O := (mD me e).o fun d e1 => (R.of (owAt i e1) e1).o fun p _ => match p.2 with
  | .obj n ds => if n ∈ ns ∧ ds.length < 1000 then .nx (e1.set i (.ow p.1 false (.obj n (putS f d ds)))) else .st
  | _ => .st
noncomputable def mAug (i : Nat) (f : D → D → Option Val) (me : En → R Val) (e : En) : O := (mVar i e).o fun a e0 => (mP me e0).o fun b e1 => (R.of ((con a e1).bind fun x => (con b e1).bind fun y => f x y) e1).o fun r e2 => setAt i r e2
theorem s_aug {i : Nat} {r : R2} {f : D → D → Option Val} (h : OpS c r f) (he : SimE c E te me) : SimS c E (tAug i te r) (mAug i f me) := by
  intro σ w DD rel q
  have q : Co c E σ w ((varAt i w.env w.env[i]?).o _) DD := q
  cases hs : w.env[i]? with
  | none => rw [hs] at q; exact q.elim
  | some s =>
    rw [hs] at q
    obtain ⟨o, h1, h2⟩ := rel.at_ i s hs
    have fin : ∀ {a : Val} {x : V}, o = some x → (∀ d, a ≠ .new d) → VR c σ w.H w x a → Co c E σ w ((mP me w.env).o fun b e1 => (R.of ((con a e1).bind fun x => (con b e1).bind fun y => f x y) e1).o fun r e2 => setAt i r e2) DD → tAug i te r DD σ w.H := by
      intro a x hx na va q
      subst hx
      refine ⟨x, h1, ?_⟩
      have hp := he.p
      refine hp σ w _ rel ?_
      cases hm : mP me w.env with
      | st => rw [hm] at q; exact q
      | er x e => rw [hm] at q; exact KEs.ke q
      | ok b e =>
        rw [hm] at q
        intro yv F' H' r1 l1 nb vb
        obtain ⟨res, hr, q1⟩ := Co.of q
        obtain ⟨da, ea, hr⟩ := obn hr
        obtain ⟨db, eb, hr⟩ := obn hr
        refine h σ ⟨F', H', e⟩ x yv da db res _ r1 (con_ok (H0 := H') (w := ⟨F', H', e⟩) r1 na (va.later na l1) ea) (con_ok (w := ⟨F', H', e⟩) r1 nb vb eb) hr fun zv F2 H2 r2 l2 vz => ?_
        refine setAt_ok (w := w) (w1 := ⟨F2, H2, e⟩) r2 (l1.trans l2) ?_ q1
        cases res with
        | fz d => exact vz
        | «at» j => exact vz
        | new d =>
          obtain ⟨p, ep, n, f, own, ns⟩ := vz
          exact ⟨p, ep, l1.free n, f, own, ns⟩
    cases s with
    | un => exact q.elim
    | ex => exact q.elim
    | fz d =>
      obtain ⟨x, hx, rx⟩ := h2
      exact fin (a := .fz d) hx (fun _ z => nomatch z) rx q
    | ow a b d =>
      obtain ⟨p, hx, _⟩ := h2
      subst hx
      exact fin (a := .at i) rfl (fun _ z => nomatch z) h1 q
end
end MR
set_option autoImplicit false
namespace MR
open PySem PySem.Spec PyProof.Rows L2
open Classical in
/-- what never changes, for a callee: what is lent lies in it -/
noncomputable def lend (L : Addr → Prop) (F H : Hp) : Hp := fun q => if L q then H q else F q
open Classical in
noncomputable def unlend (L : Addr → Prop) (F : Hp) : Hp := fun q => if L q then none else F q
mutual
/-- no list, dict, object in it -/
noncomputable def flatX : D → Bool
  | .tup ds => flatXs ds
  | d => flatD d
noncomputable def flatXs : List D → Bool
  | [] => true
  | d :: ds => flatX d && flatXs ds
end
noncomputable def flatK : D → Bool
  | .lst ds => flatXs ds
  | .dic ds => flatXs (ds.map (·.2))
  | .dit ds => flatXs (ds.map (·.2))
  | .obj _ ds => flatXs (ds.map (·.2))
  | d => flatX d
/-- the argument that is handed over: the parameter j, the caller's slot i -/
structure Io where
  j : Nat
  i : Nat
  a : Bool
  d : D
  p : Addr
noncomputable def setIo (io : Option Io) (ec e : En) : Option En := match io with
  | none => some e
  | some x => match ec[x.j]? with
    | some (.ow _ _ d) => some (e.set x.i (.ow x.a false d))
    | _ => none
section
variable {c : Ctx} {E : Option (L2.St → XK)} {σ σ0 σ' : L2.St} {w w0 w1 : Wd} {Q : VK} {v x y : V} {L : Addr → Prop} {io : Option Io} {env0 ec e2 : En} {F' H' : Hp}
theorem lend_same (hL : ∀ q, L q → w.F q = none) : Same w.F (lend L w.F w.H) := fun q o h => by
  unfold lend
  rw [if_neg fun z => by rw [hL q z] at h; cases h]
  exact h
theorem lend_sm (rel : RelE c σ w) : Same (lend L w.F w.H) w.H := fun q o h => by
  unfold lend at h
  split at h
  · exact h
  · exact rel.sm _ _ h
/-- tuples stay -/
noncomputable def TupS (F F2 : Hp) : Prop := ∀ p vs, F p = some (.tup vs) → F2 p = some (.tup vs)
mutual
theorem flat_any {F F2 : Hp} (hT : TupS F F2) : ∀ {d : D} {v : V}, flatX d = true → Rep c.b F v d → Rep c.b F2 v d
  | .non, _, _, r => by cases r; exact .non
  | .bl b, _, _, r => by cases r; exact .bl b
  | .int i, _, _, r => by cases r; exact .int i
  | .str z, _, _, r => by cases r; exact .str z
  | .tup ds, _, h, r => by
    cases r with
    | tup e r => exact .tup (hT _ _ e) (flat_all hT (by unfold flatX at h; exact h) r)
  | .lst _, _, h, _ => by cases h
  | .dic _, _, h, _ => by cases h
  | .obj _ _, _, h, _ => by cases h
  | .scr _, _, h, _ => by cases h
  | .dit _, _, h, _ => by cases h
  | .ktp _, _, h, _ => by cases h
  | .ty _, _, h, _ => by cases h
  | .cls _, _, h, _ => by cases h
theorem flat_all {F F2 : Hp} (hT : TupS F F2) : ∀ {ds : List D} {vs : List V}, flatXs ds = true → Reps c.b F vs ds → Reps c.b F2 vs ds
  | [], _, _, r => by cases r; exact .nil
  | d :: ds, _, h, r => by
    unfold flatXs at h
    rw [Bool.and_eq_true] at h
    cases r with
    | cons a t => exact .cons (flat_any hT h.1 a) (flat_all hT h.2 t)
end
theorem flat_own {F F2 H : Hp} {p : Addr} {d : D} (hT : TupS F F2) (h : flatK d = true) (o : Own c F H p d) : Own c F2 H p d := by
  cases d with
  | lst ds =>
    obtain ⟨vs, h1, r⟩ := o
    exact ⟨vs, h1, flat_all hT h r⟩
  | dic ds =>
    obtain ⟨vs, h1, k, r⟩ := o
    exact ⟨vs, h1, k, flat_all hT h r⟩
  | dit ds =>
    obtain ⟨vs, h1, k, r⟩ := o
    exact ⟨vs, h1, k, flat_all hT h r⟩
  | obj n ds =>
    obtain ⟨dx, vs, h1, k, r⟩ := o
    exact ⟨dx, vs, h1, k, flat_all hT h r⟩
  | _ => exact o.elim
theorem own_ntup {F H : Hp} {p : Addr} {d : D} {vs : List V} (o : Own c F H p d) (h : H p = some (.tup vs)) : False := by
  cases d with
  | lst ds => obtain ⟨_, h1, _⟩ := o; rw [h] at h1; cases h1
  | dic ds => obtain ⟨_, h1, _⟩ := o; rw [h] at h1; cases h1
  | dit ds => obtain ⟨_, h1, _⟩ := o; rw [h] at h1; cases h1
  | obj n ds => obtain ⟨_, _, h1, _⟩ := o; rw [h] at h1; cases h1
  | _ => exact o.elim
theorem unlend_tup {F1 H1 : Hp} (hs : Same (lend L F1 H1) F') (hL : ∀ q, L q → H1 q ≠ none ∧ ∀ vs, H1 q ≠ some (.tup vs)) : TupS F' (unlend L F') := fun p vs h => by
  unfold unlend
  rw [if_neg]
  · exact h
  · intro l
    obtain ⟨h1, h2⟩ := hL p l
    cases ho : H1 p with
    | none => exact h1 ho
    | some o =>
      have : F' p = some o := hs p o (by unfold lend; rw [if_pos l]; exact ho)
      rw [h] at this
      cases this
      exact h2 vs ho
structure IoOk (σ : L2.St) (w1 : Wd) (σ0 : L2.St) (env0 : En) (x : Io) : Prop where
  own : w1.env[x.i]? = some (.ow x.a false x.d)
  at_ : σ[x.i]? = some (some (.ref x.p))
  par : env0[x.j]? = some (.ow true false x.d)
  pat : σ0[x.j]? = some (some (.ref x.p))
/-- back in the caller -/
theorem call_back (rel : RelE c σ w1) (hL : ∀ q, L q → w1.F q = none ∧ w1.H q ≠ none ∧ ¬ (∃ x, io = some x ∧ q = x.p)) (hLt : ∀ q, L q → ∀ vs, w1.H q ≠ some (.tup vs))
    (hio : ∀ x, io = some x → IoOk σ w1 σ0 env0 x) (hon : ∀ (k : Nat) (a b : Bool) (d : D), env0[k]? = some (.ow a b d) → ∃ x, io = some x ∧ k = x.j)
    (rel' : RelE c.b.top σ' ⟨F', H', ec⟩) (le' : LeS σ0 ⟨lend L w1.F w1.H, w1.H, env0⟩ σ' ⟨F', H', ec⟩) (hs : setIo io ec w1.env = some e2) (hf : (∀ q, ¬ L q) ∨ ∀ (x : Io) (a b : Bool) (d : D), io = some x → ec[x.j]? = some (.ow a b d) → flatK d = true) :
    RelE c σ ⟨unlend L F', H', e2⟩ ∧ LeS σ w1 σ ⟨unlend L F', H', e2⟩ := by
  have bm0 : ∀ q, Bm σ0 env0 q → ∃ x, io = some x ∧ q = x.p := fun q ⟨k, a, d, hk, hq⟩ => by
    obtain ⟨x, hx, rfl⟩ := hon k _ _ _ hk
    have := (hio x hx).pat
    rw [this] at hq
    cases hq
    exact ⟨x, hx, rfl⟩
  have bmC : ∀ q, Bm σ0 env0 q → Bm σ w1.env q := fun q h => by
    obtain ⟨x, hx, rfl⟩ := bm0 q h
    exact ⟨x.i, x.a, x.d, (hio x hx).own, (hio x hx).at_⟩
  have sF : Same w1.F (unlend L F') := fun q o h => by
    unfold unlend
    have nl : ¬ L q := fun z => by
      rw [(hL q z).1] at h
      cases h
    rw [if_neg nl]
    exact le'.ff _ _ (lend_same (fun q z => (hL q z).1) _ _ h)
  have F'at : ∀ q, ¬ Bm σ0 env0 q → w1.H q ≠ none → ¬ L q → F' q = w1.F q := fun q nb hq nl => by
    refine (le'.fn q nb hq).trans ?_
    show lend L w1.F w1.H q = _
    unfold lend
    rw [if_neg nl]
  have unAt : ∀ q, ¬ L q → unlend L F' q = F' q := fun q nl => if_neg nl
  have unL : ∀ q, L q → unlend L F' q = none := fun q l => if_pos l
  have hhC : ∀ q o, ¬ Bm σ0 env0 q → w1.H q = some o → H' q = some o := fun q o nb h => le'.hh q o nb h
  -- the slot that was handed over, behind the call
  have ioB : ∀ x, io = some x → ∃ d', ec[x.j]? = some (.ow true false d') ∧ F' x.p = none ∧ Own c F' H' x.p d' := fun x hx => by
    obtain ⟨d', h1, h2, _⟩ := le'.pn x.j true false x.d (hio x hx).par rfl
    obtain ⟨p, h3, h4, h5⟩ := own_some rel' h1
    rw [h2, (hio x hx).pat] at h3
    cases h3
    exact ⟨d', h1, h4, h5⟩
  -- the caller's slots
  have e2at : ∀ (i : Nat) (s : Sl), e2[i]? = some s → (∃ x d', io = some x ∧ i = x.i ∧ s = .ow x.a false d' ∧ ec[x.j]? = some (.ow true false d')) ∨ ((∀ x, io = some x → i ≠ x.i) ∧ w1.env[i]? = some s) := fun i s h => by
    cases io with
    | none =>
      have hs : some w1.env = some e2 := hs
      cases hs
      exact .inr ⟨fun x z => (nomatch z), h⟩
    | some x =>
      obtain ⟨d', h1, _, _⟩ := ioB x rfl
      have hs : (match ec[x.j]? with
        | some (.ow _ _ d) => some (w1.env.set x.i (.ow x.a false d))
        | _ => none) = some e2 := hs
      rw [h1] at hs
      cases hs
      rcases get_set h with ⟨z1, z2⟩ | ⟨z1, z2⟩
      · exact .inl ⟨x, d', rfl, z1, z2, h1⟩
      · exact .inr ⟨fun y hy => (by cases hy; exact z1), z2⟩
  have e2len : e2.length = w1.env.length := by
    cases io with
    | none =>
      have hs : some w1.env = some e2 := hs
      cases hs
      rfl
    | some x =>
      obtain ⟨d', h1, _, _⟩ := ioB x rfl
      have hs : (match ec[x.j]? with
        | some (.ow _ _ d) => some (w1.env.set x.i (.ow x.a false d))
        | _ => none) = some e2 := hs
      rw [h1] at hs
      cases hs
      exact List.length_set ..
  have gow : ∀ (i : Nat) (a b : Bool) (d : D), e2[i]? = some (.ow a b d) → ∃ d0, w1.env[i]? = some (.ow a b d0) := fun i a b d h => by
    rcases e2at i _ h with ⟨x, d', hx, rfl, hs, _⟩ | ⟨_, z⟩
    · cases hs
      exact ⟨x.d, (hio x hx).own⟩
    · exact ⟨d, z⟩
  -- an owned slot's address is not the handed one, but in its slot
  have nio : ∀ (i : Nat) (a b : Bool) (d : D) (q : Addr), (∀ x, io = some x → i ≠ x.i) → w1.env[i]? = some (.ow a b d) → σ[i]? = some (some (.ref q)) → ¬ Bm σ0 env0 q := fun i a b d q ni h1 h2 hb => by
    obtain ⟨x, hx, rfl⟩ := bm0 q hb
    exact ni x hx (rel.ne i x.i _ _ _ _ _ _ x.p h1 (hio x hx).own h2 (hio x hx).at_)
  refine ⟨⟨?_, fun i s hi => ?_, fun i k a b d1 a' b' d2 p h1 h2 e1 e2 => ?_, fun q o h => ?_, fun i d h => ?_⟩, ⟨sF, fun q o nb h => ?_, fun q nb hq => ?_, fun q hq => le'.dom q hq, fun q ⟨i, a, d, hi, hq⟩ => ?_, fun q ⟨i, a, d, hi, hq⟩ => ?_, fun i a b d hi ab => ?_⟩⟩
  · exact rel.len.trans e2len.symm
  · rcases e2at i s hi with ⟨x, d', hx, rfl, rfl, hec⟩ | ⟨ni, z⟩
    · obtain ⟨d2, h1, h2, h3⟩ := ioB x hx
      rw [hec] at h1
      cases h1
      have nl : ¬ L x.p := fun z => (hL _ z).2.2 ⟨x, hx, rfl⟩
      refine ⟨_, (hio x hx).at_, x.p, rfl, (unAt _ nl).trans h2, ?_⟩
      rcases hf with hf | hf
      · have : unlend L F' = F' := funext fun q => unAt q (hf q)
        show Own c (unlend L F') H' x.p d'
        rw [this]
        exact h3
      · exact flat_own (unlend_tup le'.ff fun q l => ⟨(hL q l).2.1, hLt q l⟩) (hf x _ _ d' hx hec) h3
    · obtain ⟨o, h1, h2⟩ := rel.at_ i s z
      refine ⟨o, h1, ?_⟩
      cases s with
      | un => exact True.intro
      | ex => exact c.mono _ _ _ sF h2
      | fz d =>
        obtain ⟨v, e, r⟩ := h2
        exact ⟨v, e, r.mono sF⟩
      | ow a b d =>
        obtain ⟨q, rfl, nf, own⟩ := h2
        obtain ⟨u, hu⟩ := own.some
        have nb := nio i a b d q ni z h1
        refine ⟨q, rfl, ?_, own.step sF fun o ho => hhC q o nb ho⟩
        show unlend L F' q = none
        by_cases hl : L q
        · exact unL q hl
        · rw [unAt q hl, F'at q nb (by rw [hu]; exact fun z => nomatch z) hl]
          exact nf
  · obtain ⟨d3, h3⟩ := gow _ _ _ _ h1
    obtain ⟨d4, h4⟩ := gow _ _ _ _ h2
    exact rel.ne i k _ _ _ _ _ _ p h3 h4 e1 e2
  · have h : unlend L F' q = some o := h
    by_cases hl : L q
    · rw [unL q hl] at h
      cases h
    · rw [unAt q hl] at h
      exact rel'.sm _ _ h
  · obtain ⟨d0, h0⟩ := gow _ _ _ _ h
    exact rel.pl i d0 h0
  · exact hhC q o (fun z => nb (bmC q z)) h
  · show unlend L F' q = _
    by_cases hl : L q
    · rw [unL q hl, (hL q hl).1]
    · rw [unAt q hl]
      exact F'at q (fun z => nb (bmC q z)) hq hl
  · obtain ⟨d0, h0⟩ := gow _ _ _ _ hi
    exact .inl ⟨i, a, d0, h0, hq⟩
  · obtain ⟨d0, h0⟩ := gow _ _ _ _ hi
    exact .inl ⟨i, a, d0, h0, hq⟩
  · by_cases hx : ∃ x, io = some x ∧ i = x.i
    · obtain ⟨x, hx, rfl⟩ := hx
      obtain ⟨d', h1, _, _⟩ := ioB x hx
      subst hx
      have hs : (match ec[x.j]? with
        | some (.ow _ _ d) => some (w1.env.set x.i (.ow x.a false d))
        | _ => none) = some e2 := hs
      rw [h1] at hs
      cases hs
      have h0 := (hio x rfl).own
      rw [hi] at h0
      cases h0
      exact ⟨d', List.getElem?_set_self (List.getElem?_eq_some_iff.mp hi).1, rfl, fun z => by cases z⟩
    · refine ⟨d, ?_, rfl, fun _ => rfl⟩
      cases io with
      | none =>
        have hs : some w1.env = some e2 := hs
        cases hs
        exact hi
      | some x =>
        obtain ⟨d', h1, _, _⟩ := ioB x rfl
        have hs : (match ec[x.j]? with
          | some (.ow _ _ d) => some (w1.env.set x.i (.ow x.a false d))
          | _ => none) = some e2 := hs
        rw [h1] at hs
        cases hs
        show (w1.env.set x.i _)[i]? = _
        rw [List.getElem?_set_ne fun z => hx ⟨x, rfl, z.symm⟩]
        exact hi
end
noncomputable def spM (c : Ctx0) (b : Bool) (k : Nat) (N : List Str) (m : En → O) : Sp := fun vs H Q E => vs.length = k ∧ ∃ F env, RelE c.top (start N vs) ⟨F, H, env⟩ ∧ (∀ (i : Nat) (a b : Bool) (d : D), env[i]? = some (.ow a b d) → a = true ∧ b = false) ∧
  Co c.top (if b = true then some (fun _ => E) else none) (start N vs) ⟨F, H, env⟩ (m env) { nx := fun _ H => Q .non H, rt := Q }
noncomputable def argS (io ii : Option Nat) (len : Bool) (j : Nat) (a : Val) (e : En) : R Sl := if io = some j then .ok .un e else if len = true then (match a with
  | .at i => if ii = some i then .st else R.of ((conAt e[i]?).map .fz) e
  | a => (frz a e).bind fun d e1 => .ok (.fz d) e1) else (frz a e).bind fun d e1 => .ok (.fz d) e1
noncomputable def prep (io ii : Option Nat) (len : Bool) : Nat → List Val → En → R (List Sl)
  | _, [], e => .ok [] e
  | j, a :: as, e => (argS io ii len j a e).bind fun s e1 => (prep io ii len (j + 1) as e1).bind fun ss e2 => .ok (s :: ss) e2
/-- the caller's slot that is handed over -/
noncomputable def ioIx (io : Option Nat) (as : List Val) : Option Nat := io.bind fun j => match as[j]? with
  | some (.at i) => some i
  | _ => none
/-- (the parameter, the slot, pinned) and the slots of the callee -/
noncomputable def ioFin (io ii : Option Nat) (ss : List Sl) (e : En) : Option (Option (Nat × Nat × Bool) × List Sl) := match io with
  | none => some (none, ss)
  | some j => ii.bind fun i => (owAt i e).map fun p => (some (j, i, p.1), ss.set j (.ow true false p.2))
noncomputable def backIo (x : Option (Nat × Nat × Bool)) (ec e : En) : Option (En × Bool) := match x with
  | none => some (e, true)
  | some (j, i, a) => match ec[j]? with
    | some (.ow _ _ d) => some (e.set i (.ow a false d), flatK d)
    | _ => none
noncomputable def flatR : Val → Bool
  | .fz d => flatX d
  | .new d => flatK d
  | .at _ => false
noncomputable def callR (x : Option (Nat × Nat × Bool)) (len nr : Bool) (e : En) : O → R Val
  | .nx ec => (R.of (backIo x ec e) e).bind fun p _ => if (!len || p.2) = true then .ok (.fz .non) p.1 else .st
  | .rt a ec => (R.of (backIo x ec e) e).bind fun p _ => if (!len || (p.2 && flatR a)) = true then .ok a p.1 else .st
  | .er y ec => (R.of (backIo x ec e) e).bind fun p _ => if (!nr && (!len || (p.2 && flatXs (y.fs.map (·.2))))) = true then .er y p.1 else .st
  | _ => .st
noncomputable def callK (io : Option Nat) (len nr : Bool) (k n : Nat) (m : En → O) (as : List Val) (e : En) : R Val := if as.length = k then (prep io (ioIx io as) len 0 as e).bind fun ss e1 => (R.of (ioFin io (ioIx io as) ss e1) e1).bind fun q _ => callR q.1 len nr e1 (m (q.2 ++ List.replicate (n - k) .un)) else .st
noncomputable def mCall (io : Option Nat) (len nr : Bool) (k n : Nat) (m : En → O) (ms : En → R (List Val)) (e : En) : R Val := (ms e).bind fun as e1 => callK io len nr k n m as e1
section
variable {c : Ctx} {E : Option (L2.St → XK)} {σ σ0 σ' : L2.St} {w w0 w1 : Wd} {Q : VK} {v x y : V} {env0 ec e2 : En} {F' H' : Hp} {tt : TA} {ms : En → R (List Val)}
theorem VPs.get : ∀ {vs : List V} {as : List Val}, VPs c σ w vs as → ∀ {i : Nat} {a : Val}, as[i]? = some a → ∃ v, vs[i]? = some v ∧ VR c σ w.H w v a
  | _, _, .cons na vr t, 0, a, e => by
    cases e
    exact ⟨_, rfl, vr⟩
  | _, _, .cons na vr t, i + 1, a, e => VPs.get t (i := i) e
  | _, _, .nil, i, a, e => by cases e
/-- an argument as the callee sees it -/
noncomputable def ArgR (c : Ctx) (σ : L2.St) (w : Wd) (len : Bool) (ii : Option Nat) (v : V) (s : Sl) : Prop := s = .un ∨ ∃ d, s = .fz d ∧ (Rep c.b w.F v d ∨ (len = true ∧ ∃ (l : Nat) (a b : Bool), w.env[l]? = some (.ow a b d) ∧ some l ≠ ii ∧ σ[l]? = some (some v)))
inductive ArgRs (c : Ctx) (σ : L2.St) (w : Wd) (len : Bool) (ii : Option Nat) : List V → List Sl → Prop where
  | nil : ArgRs c σ w len ii [] []
  | cons {v : V} {s : Sl} {vs : List V} {ss : List Sl} (h : ArgR c σ w len ii v s) (t : ArgRs c σ w len ii vs ss) : ArgRs c σ w len ii (v :: vs) (s :: ss)
theorem ArgRs.len' {len : Bool} {ii : Option Nat} {vs : List V} {ss : List Sl} (h : ArgRs c σ w len ii vs ss) : vs.length = ss.length := by
  induction h with
  | nil => rfl
  | cons _ _ ih => exact congrArg (· + 1) ih
theorem ArgRs.get {len : Bool} {ii : Option Nat} : ∀ {vs : List V} {ss : List Sl}, ArgRs c σ w len ii vs ss → ∀ {i : Nat} {s : Sl}, ss[i]? = some s → ∃ v, vs[i]? = some v ∧ ArgR c σ w len ii v s
  | _, _, .cons h t, 0, s, e => by
    cases e
    exact ⟨_, rfl, h⟩
  | _, _, .cons h t, i + 1, s, e => ArgRs.get t (i := i) e
  | _, _, .nil, i, s, e => by cases e
theorem argS_ok {io ii : Option Nat} {len : Bool} {j : Nat} {a : Val} {s : Sl} {e : En} (rel : RelE c σ w) (na : ∀ d, a ≠ .new d) (vr : VR c σ w.H w v a) (h : argS io ii len j a w.env = .ok s e) :
    ∃ F', RelE c σ ⟨F', w.H, e⟩ ∧ LeS σ w σ ⟨F', w.H, e⟩ ∧ ArgR c σ ⟨F', w.H, e⟩ len ii v s ∧ (len = true → e = w.env ∧ F' = w.F) := by
  unfold argS at h
  split at h
  · cases h
    exact ⟨w.F, rel, LeS.refl σ w, .inl rfl, fun _ => ⟨rfl, rfl⟩⟩
  · split at h
    · next hl =>
      cases a with
      | fz d =>
        cases h
        exact ⟨w.F, rel, LeS.refl σ w, .inr ⟨d, rfl, .inl vr⟩, fun _ => ⟨rfl, rfl⟩⟩
      | new d => exact absurd rfl (na d)
      | «at» i =>
        have vr : σ[i]? = some (some v) := vr
        have h : (if ii = some i then .st else R.of ((conAt w.env[i]?).map .fz) w.env) = R.ok s e := h
        split at h
        · cases h
        · next hii =>
          cases hc : conAt w.env[i]? with
          | none => rw [hc] at h; cases h
          | some d =>
            rw [hc] at h
            cases h
            refine ⟨w.F, rel, LeS.refl σ w, .inr ⟨d, rfl, ?_⟩, fun _ => ⟨rfl, rfl⟩⟩
            unfold conAt at hc
            split at hc
            · next d' hs =>
              cases hc
              obtain ⟨o, h1, u, rfl, rp⟩ := rel.at_ i _ hs
              rw [vr] at h1
              cases h1
              exact .inl rp
            · next a b d' hs =>
              cases hc
              exact .inr ⟨hl, i, a, b, hs, fun z => hii z.symm, vr⟩
            · cases hc
    · next hl =>
      cases hf : frz a w.env with
      | st => rw [hf] at h; cases h
      | er x e => exact (frz_er hf).elim
      | ok d e1 =>
        rw [hf] at h
        cases h
        obtain ⟨F', r1, l1, rp⟩ := frz_ok (w0 := w) rel (LeS.refl σ w) vr hf
        exact ⟨F', r1, l1, .inr ⟨d, rfl, .inl rp⟩, fun z => absurd z hl⟩
theorem prep_ok {io ii : Option Nat} {len : Bool} : ∀ {as : List Val} {j : Nat} {w0 w : Wd} {vs : List V} {ss : List Sl} {e : En}, RelE c σ w → LeS σ w0 σ w → VPs c σ w vs as → prep io ii len j as w.env = .ok ss e →
    ∃ F', RelE c σ ⟨F', w.H, e⟩ ∧ LeS σ w0 σ ⟨F', w.H, e⟩ ∧ ArgRs c σ ⟨F', w.H, e⟩ len ii vs ss ∧ LeS σ w σ ⟨F', w.H, e⟩ ∧ (len = true → e = w.env ∧ F' = w.F)
  | [], _, _, w, _, _, _, rel, le, vp, h => by
    cases vp
    cases h
    exact ⟨w.F, rel, le, .nil, LeS.refl σ w, fun _ => ⟨rfl, rfl⟩⟩
  | a :: as, j, _, w, _, _, _, rel, le, vp, h => by
    cases vp with
    | cons na vr t =>
      have h : ((argS io ii len j a w.env).bind fun s e1 => (prep io ii len (j + 1) as e1).bind fun ss e2 => R.ok (s :: ss) e2) = _ := h
      cases h1 : argS io ii len j a w.env with
      | st => rw [h1] at h; cases h
      | er x e => rw [h1] at h; cases h
      | ok s e1 =>
        rw [h1] at h
        obtain ⟨F1, r1, l1, ar, c1⟩ := argS_ok rel na vr h1
        have h : ((prep io ii len (j + 1) as e1).bind fun ss e2 => R.ok (s :: ss) e2) = _ := h
        cases h2 : prep io ii len (j + 1) as e1 with
        | st => rw [h2] at h; cases h
        | er x e => rw [h2] at h; cases h
        | ok ss e2 =>
          rw [h2] at h
          cases h
          obtain ⟨F2, r2, _, ars, l2, c2⟩ := prep_ok (w0 := ⟨F1, w.H, e1⟩) (w := ⟨F1, w.H, e1⟩) r1 (LeS.refl σ _) (t.later l1) h2
          refine ⟨F2, r2, le.trans (l1.trans l2), .cons ?_ ars, l1.trans l2, fun hl => ⟨(c2 hl).1.trans (c1 hl).1, (c2 hl).2.trans (c1 hl).2⟩⟩
          rcases ar with ar | ⟨d, rfl, ar⟩
          · exact .inl ar
          · refine .inr ⟨d, rfl, ?_⟩
            rcases ar with ar | ⟨hl, l, a', b', h3, h4, h5⟩
            · exact .inl (Rep.mono l2.ff ar)
            · exact .inr ⟨hl, l, a', b', (congrArg (fun (z : En) => z[l]?) (c2 hl).1).trans h3, h4, h5⟩
theorem prep_er {io ii : Option Nat} {len : Bool} : ∀ {as : List Val} {j : Nat} {e : En} {x : Xn} {e' : En}, prep io ii len j as e = .er x e' → False
  | [], _, _, _, _, h => by cases h
  | a :: as, j, e, x, e', h => by
    have h : ((argS io ii len j a e).bind fun s e1 => (prep io ii len (j + 1) as e1).bind fun ss e2 => R.ok (s :: ss) e2) = _ := h
    cases h1 : argS io ii len j a e with
    | st => rw [h1] at h; cases h
    | er y e3 =>
      unfold argS at h1
      split at h1
      · cases h1
      · have fr : ∀ {y e3}, ((frz a e).bind fun d e1 => R.ok (Sl.fz d) e1) = .er y e3 → False := fun {y e3} h1 => by
          cases hf : frz a e with
          | st => rw [hf] at h1; cases h1
          | er x e => exact frz_er hf
          | ok d e1 => rw [hf] at h1; cases h1
        split at h1
        · cases a with
          | fz d => cases h1
          | new d => cases h1
          | «at» i =>
            have h1 : (if ii = some i then R.st else R.of ((conAt e[i]?).map Sl.fz) e) = R.er y e3 := h1
            split at h1
            · cases h1
            · cases hc : conAt e[i]? with
              | none => rw [hc] at h1; cases h1
              | some d => rw [hc] at h1; cases h1
        · exact fr h1
    | ok s e1 =>
      rw [h1] at h
      have h : ((prep io ii len (j + 1) as e1).bind fun ss e2 => R.ok (s :: ss) e2) = _ := h
      cases h2 : prep io ii len (j + 1) as e1 with
      | st => rw [h2] at h; cases h
      | er x e => exact prep_er h2
      | ok ss e2 => rw [h2] at h; cases h
/-- the callee's world -/
theorem callee_rel {io : Option Nat} {len : Bool} {as : List Val} {ss : List Sl} {vs : List V} {N : List Str} {q : Option (Nat × Nat × Bool) × List Sl} (rel : RelE c σ w) (vp : VPs c σ w vs as) (ar : ArgRs c σ w len (ioIx io as) vs ss) (h : ioFin io (ioIx io as) ss w.env = some q) :
    ∃ (L : Addr → Prop) (ix : Option Io), (∀ p, L p → ∀ vs, w.H p ≠ some (.tup vs)) ∧ q.1 = ix.map (fun x => (x.j, x.i, x.a)) ∧ (len = false → ∀ p, ¬ L p) ∧ (∀ p, L p → w.F p = none ∧ w.H p ≠ none ∧ ¬ ∃ x, ix = some x ∧ p = x.p) ∧
      (∀ x, ix = some x → IoOk σ w (start N vs) (q.2 ++ List.replicate (N.length - vs.length) .un) x) ∧ (∀ (k : Nat) (a b : Bool) (d : D), (q.2 ++ List.replicate (N.length - vs.length) Sl.un)[k]? = some (.ow a b d) → ∃ x, ix = some x ∧ k = x.j) ∧
      RelE c.b.top (start N vs) ⟨lend L w.F w.H, w.H, q.2 ++ List.replicate (N.length - vs.length) .un⟩ ∧ (∀ (i : Nat) (a b : Bool) (d : D), (q.2 ++ List.replicate (N.length - vs.length) Sl.un)[i]? = some (.ow a b d) → a = true ∧ b = false) := by
  have lenq : vs.length = ss.length := ar.len'
  have start_at : ∀ (i : Nat) (v : V), vs[i]? = some v → (start N vs)[i]? = some (some v) := fun i v hv => by
    have hi := (List.getElem?_eq_some_iff.mp hv).1
    show (vs.map some ++ List.replicate (N.length - vs.length) none)[i]? = _
    rw [List.getElem?_append_left (by rw [List.length_map]; exact hi), List.getElem?_map, hv]
    rfl
  have start_len : (start N vs).length = vs.length + (N.length - vs.length) := by
    show (vs.map some ++ List.replicate (N.length - vs.length) none).length = _
    rw [List.length_append, List.length_map, List.length_replicate]
  have rest : ∀ (l : List Sl) (i : Nat) (s : Sl), (l ++ List.replicate (N.length - vs.length) Sl.un)[i]? = some s → l[i]? = some s ∨ (l.length ≤ i ∧ s = .un ∧ i < l.length + (N.length - vs.length)) := fun l i s h => by
    by_cases hi : i < l.length
    · rw [List.getElem?_append_left hi] at h
      exact .inl h
    · have hl := (List.getElem?_eq_some_iff.mp h).1
      rw [List.getElem?_append_right (by omega), List.getElem?_replicate] at h
      split at h
      · cases h
        rw [List.length_append, List.length_replicate] at hl
        exact .inr ⟨by omega, rfl, hl⟩
      · cases h
  let L : Addr → Prop := fun p => len = true ∧ ∃ (l : Nat) (a b : Bool) (d : D), w.env[l]? = some (.ow a b d) ∧ some l ≠ ioIx io as ∧ σ[l]? = some (some (.ref p))
  have L1 : ∀ p, L p → w.F p = none ∧ w.H p ≠ none := fun p ⟨_, l, a, b, d, h1, _, h2⟩ => by
    obtain ⟨p2, h3, h4, own⟩ := own_some rel h1
    rw [h2] at h3
    cases h3
    obtain ⟨o, ho⟩ := own.some
    exact ⟨h4, by rw [ho]; exact fun z => nomatch z⟩
  have Lt : ∀ p, L p → ∀ vs, w.H p ≠ some (.tup vs) := fun p ⟨_, l, a, b, d, h1, _, h2⟩ vs hv => by
    obtain ⟨p2, h3, h4, own⟩ := own_some rel h1
    rw [h2] at h3
    cases h3
    exact own_ntup own hv
  have sF := lend_same (w := w) (L := L) fun p hp => (L1 p hp).1
  have argOk : ∀ (v : V) (d : D), (Rep c.b w.F v d ∨ (len = true ∧ ∃ (l : Nat) (a b : Bool), w.env[l]? = some (.ow a b d) ∧ some l ≠ ioIx io as ∧ σ[l]? = some (some v))) → Rep c.b (lend L w.F w.H) v d := fun v d h => by
    rcases h with h | ⟨hl, l, a, b, h1, h2, h3⟩
    · exact h.mono sF
    · obtain ⟨p, h4, h5, own⟩ := own_some rel h1
      rw [h3] at h4
      cases h4
      refine own.rep sF ?_
      exact if_pos ⟨hl, l, a, b, d, h1, h2, h3⟩
  have A : ∀ (i : Nat) (s : Sl), ss[i]? = some s → s = .un ∨ ∃ d v, s = .fz d ∧ vs[i]? = some v ∧ Rep c.b (lend L w.F w.H) v d := fun i s hs => by
    obtain ⟨v, hv, ar2⟩ := ar.get hs
    rcases ar2 with ar2 | ⟨d, rfl, ar2⟩
    · exact .inl ar2
    · exact .inr ⟨d, v, rfl, hv, argOk v d ar2⟩
  have nL : len = false → ∀ p, ¬ L p := fun hl p z => by
    have z1 : len = true := z.1
    rw [hl] at z1
    cases z1
  have big : ∀ i, vs.length ≤ i → i < vs.length + (N.length - vs.length) → ∃ o, (start N vs)[i]? = some o := fun i h1 h2 => ⟨_, List.getElem?_eq_getElem (by rw [start_len]; exact h2)⟩
  have fzS : ∀ (i : Nat) (s : Sl), (s = .un ∨ ∃ d v, s = .fz d ∧ vs[i]? = some v ∧ Rep c.b (lend L w.F w.H) v d) → i < vs.length → ∃ o, (start N vs)[i]? = some o ∧ SlotR c.b.top (lend L w.F w.H) w.H o s := fun i s h hi => by
    rcases h with rfl | ⟨d, v, rfl, hv, r⟩
    · exact ⟨_, List.getElem?_eq_getElem (by rw [start_len]; omega), True.intro⟩
    · exact ⟨_, start_at i v hv, v, rfl, r⟩
  cases io with
  | none =>
    have h : some (none, ss) = some q := h
    cases h
    have nOw : ∀ (k : Nat) (a b : Bool) (d : D), (ss ++ List.replicate (N.length - vs.length) Sl.un)[k]? ≠ some (.ow a b d) := fun k a b d hk => by
      rcases rest ss k _ hk with z | ⟨_, z, _⟩
      · rcases A k _ z with z | ⟨_, _, z, _⟩ <;> cases z
      · cases z
    refine ⟨L, none, Lt, rfl, nL, fun p hp => ⟨(L1 p hp).1, (L1 p hp).2, fun z => z.elim fun x y => (nomatch y.1)⟩, fun x z => (nomatch z), fun k a b d hk => absurd hk (nOw k a b d), ⟨?_, fun i s hi => ?_, fun i k a b d1 a' b' d2 p h1 h2 e1 e2 => absurd h1 (nOw _ _ _ _), lend_sm rel, fun i d => nOw i _ _ d⟩, fun i a b d hi => absurd hi (nOw i a b d)⟩
    · rw [start_len]
      show _ = (ss ++ List.replicate _ _).length
      rw [List.length_append, List.length_replicate, lenq]
    · rcases rest ss i s hi with z | ⟨z1, rfl, z2⟩
      · exact fzS i s (A i s z) (by rw [lenq]; exact (List.getElem?_eq_some_iff.mp z).1)
      · obtain ⟨o, ho⟩ := big i (by omega) (by omega)
        exact ⟨o, ho, True.intro⟩
  | some j =>
    have h : ((ioIx (some j) as).bind fun i => (owAt i w.env).map fun p => (some (j, i, p.1), ss.set j (.ow true false p.2))) = some q := h
    obtain ⟨i, hix, h⟩ := obn h
    obtain ⟨p1, how, rfl⟩ := map_some h
    have ho := owAt_ok how
    have haj : as[j]? = some (.at i) := by
      have hix : (match as[j]? with
        | some (.at i) => some i
        | _ => none) = some i := hix
      split at hix
      · next i2 h2 => cases hix; exact h2
      · cases hix
    obtain ⟨v, hvj, hσ⟩ := vp.get haj
    have hσ : σ[i]? = some (some v) := hσ
    obtain ⟨p, hp, nF, own⟩ := own_some rel ho
    rw [hσ] at hp
    cases hp
    have jl : j < ss.length := by rw [← lenq]; exact (List.getElem?_eq_some_iff.mp hvj).1
    have nLp : ¬ L p := fun ⟨_, l, a, b, d, h1, h2, h3⟩ => by
      have := rel.ne l i _ _ _ _ _ _ p h1 ho h3 hσ
      subst this
      exact h2 hix.symm
    have gj : ∀ (k : Nat) (s : Sl), (ss.set j (.ow true false p1.2))[k]? = some s → (k = j ∧ s = .ow true false p1.2) ∨ (k ≠ j ∧ ss[k]? = some s) := fun k s hk => get_set hk
    have gow : ∀ (k : Nat) (a b : Bool) (d : D), (ss.set j (.ow true false p1.2) ++ List.replicate (N.length - vs.length) Sl.un)[k]? = some (.ow a b d) → k = j ∧ a = true ∧ b = false := fun k a b d hk => by
      rcases rest _ k _ hk with z | ⟨_, z, _⟩
      · rcases gj k _ z with ⟨z1, z2⟩ | ⟨_, z⟩
        · cases z2
          exact ⟨z1, rfl, rfl⟩
        · rcases A k _ z with z | ⟨_, _, z, _⟩ <;> cases z
      · cases z
    have lset : (ss.set j (.ow true false p1.2)).length = ss.length := List.length_set ..
    refine ⟨L, some ⟨j, i, p1.1, p1.2, p⟩, Lt, rfl, nL, fun r hr => ⟨(L1 r hr).1, (L1 r hr).2, fun z => z.elim fun x y => ?_⟩, fun x hx => ?_, fun k a b d hk => ⟨_, rfl, (gow k a b d hk).1⟩, ⟨?_, fun k s hk => ?_, fun k1 k2 a b d1 a' b' d2 r h1 h2 e1 e2 => (gow _ _ _ _ h1).1.trans (gow _ _ _ _ h2).1.symm, lend_sm rel, fun k d hk => ?_⟩, fun k a b d hk => (gow k a b d hk).2⟩
    · obtain ⟨y1, rfl⟩ := y
      cases y1
      exact nLp hr
    · cases hx
      refine ⟨ho, hσ, ?_, start_at j _ hvj⟩
      show (ss.set j _ ++ _)[j]? = _
      rw [List.getElem?_append_left (by rw [lset]; exact jl), List.getElem?_set_self jl]
    · rw [start_len]
      show _ = (ss.set j _ ++ List.replicate _ _).length
      rw [List.length_append, List.length_replicate, lset, lenq]
    · rcases rest _ k s hk with z | ⟨z1, rfl, z2⟩
      · rcases gj k s z with ⟨rfl, rfl⟩ | ⟨_, z⟩
        · refine ⟨_, start_at k _ hvj, p, rfl, (if_neg nLp).trans nF, own.step sF fun _ z => z⟩
        · exact fzS k s (A k s z) (by rw [lenq]; exact (List.getElem?_eq_some_iff.mp z).1)
      · obtain ⟨o, ho⟩ := big k (by rw [lset] at z1; omega) (by rw [lset] at z2; omega)
        exact ⟨o, ho, True.intro⟩
    · have := (gow _ _ _ _ hk).2.2
      cases this
theorem Cn.if {α : Type} {b : Prop} [Decidable b] {r : R α} {K : α → En → Prop} (q : Cn c E σ w (if b then r else .st) K) : b ∧ Cn c E σ w r K := by
  split at q
  · next h => exact ⟨h, q⟩
  · exact q.elim
theorem VPs.len {vs : List V} {as : List Val} (h : VPs c σ w vs as) : vs.length = as.length := by
  induction h with
  | nil => rfl
  | cons _ _ _ ih => exact congrArg (· + 1) ih
theorem backIo_ok {ix : Option Io} {p : En × Bool} {e : En} (h : backIo (ix.map fun x => (x.j, x.i, x.a)) ec e = some p) : setIo ix ec e = some p.1 ∧ ∀ (x : Io) (a b : Bool) (d : D), ix = some x → ec[x.j]? = some (.ow a b d) → p.2 = flatK d := by
  cases ix with
  | none =>
    cases h
    exact ⟨rfl, fun x a b d z => (nomatch z)⟩
  | some x =>
    have h : (match ec[x.j]? with
      | some (.ow _ _ d) => some (e.set x.i (.ow x.a false d), flatK d)
      | _ => none) = some p := h
    split at h
    · next a b d hs =>
      cases h
      refine ⟨?_, fun y a' b' d' hy he => ?_⟩
      · show (match ec[x.j]? with
          | some (.ow _ _ d) => some (e.set x.i (.ow x.a false d))
          | _ => none) = _
        rw [hs]
      · cases hy
        rw [hs] at he
        cases he
        rfl
    · cases h
theorem setIo_ow {ix : Option Io} {e : En} (h : setIo ix ec e = some e2) (hx : ∀ x, ix = some x → e[x.i]? = some (.ow x.a false x.d)) {i : Nat} {a b : Bool} {d : D} (hi : e2[i]? = some (.ow a b d)) : ∃ d0, e[i]? = some (.ow a b d0) := by
  cases ix with
  | none =>
    cases h
    exact ⟨d, hi⟩
  | some x =>
    have h : (match ec[x.j]? with
      | some (.ow _ _ d) => some (e.set x.i (.ow x.a false d))
      | _ => none) = some e2 := h
    split at h
    · cases h
      rcases get_set hi with ⟨rfl, z⟩ | ⟨_, z⟩
      · cases z
        exact ⟨x.d, hx x rfl⟩
      · exact ⟨d, z⟩
    · cases h
theorem unlend_id {L : Addr → Prop} (h : ∀ q, ¬ L q) (F : Hp) : unlend L F = F := funext fun q => if_neg (h q)
/-- a call of a def: the arguments are frozen (len false) or lent (len true); io: the parameter that is handed over -/
theorem call_run {io : Option Nat} {len nr b : Bool} {k : Nat} {N : List Str} {m : En → O} {as : List Val} {vs : List V} {Ex : XK} (hE : (b = true ∧ ∃ E1, E = some E1 ∧ E1 σ = Ex) ∨ (b = false ∧ (nr = true ∨ E = none))) (rel : RelE c σ w1) (l : LeS σ w σ w1) (vp : VPs c σ w1 vs as)
    (q : Cn c E σ w (callK io len nr k N.length m as w1.env) (KV c σ w Q)) : spM c.b b k N m vs w1.H Q Ex := by
  unfold callK at q
  obtain ⟨hk, q⟩ := Cn.if q
  cases hp : prep io (ioIx io as) len 0 as w1.env with
  | st => rw [hp] at q; exact q.elim
  | er x e => exact (prep_er hp).elim
  | ok ss e1 =>
    rw [hp] at q
    obtain ⟨F1, r1, l1, ar, l2, hlen⟩ := prep_ok (w0 := w) rel l vp hp
    obtain ⟨q1, hf, q⟩ := Cn.ofB (E := E) (show Cn c E σ w ((R.of (ioFin io (ioIx io as) ss e1) e1).bind _) _ from q)
    obtain ⟨L, ix, hLt, hx, nL, hL, hio, hon, rc, hpin⟩ := callee_rel (N := N) r1 (vp.later l2) ar hf
    have lvs : vs.length = k := vp.len.trans hk
    rw [hx, ← lvs] at q
    refine ⟨lvs, lend L F1 w1.H, _, rc, hpin, ?_⟩
    generalize q1.2 ++ List.replicate (N.length - vs.length) Sl.un = env0 at q rc hpin hon hio ⊢
    have back : ∀ {σ' : L2.St} {F' H' : Hp} {ec : En} {p : En × Bool}, RelE c.b.top σ' ⟨F', H', ec⟩ → LeS (start N vs) ⟨lend L F1 w1.H, w1.H, env0⟩ σ' ⟨F', H', ec⟩ → backIo (ix.map fun x => (x.j, x.i, x.a)) ec e1 = some p → (len = true → p.2 = true) →
        RelE c σ ⟨unlend L F', H', p.1⟩ ∧ LeS σ w σ ⟨unlend L F', H', p.1⟩ ∧ ∀ (i : Nat) (a b : Bool) (d : D), p.1[i]? = some (.ow a b d) → ∃ d0, e1[i]? = some (.ow a b d0) := fun {σ' F' H' ec p} rel' le' hb hl => by
      obtain ⟨b1, b2⟩ := backIo_ok hb
      have hfl : (∀ q, ¬ L q) ∨ ∀ (x : Io) (a b : Bool) (d : D), ix = some x → ec[x.j]? = some (.ow a b d) → flatK d = true := by
        cases len with
        | false => exact .inl (nL rfl)
        | true => exact .inr fun x a b d h1 h2 => (b2 x a b d h1 h2).symm.trans (hl rfl)
      obtain ⟨r2, l3⟩ := call_back (w1 := ⟨F1, w1.H, e1⟩) r1 hL hLt hio hon rel' le' b1 hfl
      exact ⟨r2, l1.trans l3, fun i a b d hi => setIo_ow b1 (fun x hx => (hio x hx).own) hi⟩
    cases ho : m env0 with
    | st => rw [ho] at q; exact q.elim
    | bk e => rw [ho] at q; exact q.elim
    | ct e => rw [ho] at q; exact q.elim
    | nx ec =>
      rw [ho] at q
      obtain ⟨p, hb, q⟩ := Cn.ofB (E := E) (show Cn c E σ w ((R.of (backIo _ ec e1) e1).bind _) _ from q)
      obtain ⟨hg, q⟩ := Cn.if q
      refine ⟨fun σ' F' H' rel' le' => ?_⟩
      obtain ⟨r2, l3, _⟩ := back rel' le' hb fun hl => by
        rw [hl] at hg
        exact hg
      exact q .non _ _ r2 l3 .non
    | rt a ec =>
      rw [ho] at q
      obtain ⟨p, hb, q⟩ := Cn.ofB (E := E) (show Cn c E σ w ((R.of (backIo _ ec e1) e1).bind _) _ from q)
      obtain ⟨hg, q⟩ := Cn.if q
      intro v σ' F' H' rel' le' vt
      have hfl : len = true → p.2 = true ∧ flatR a = true := fun hl => by
        rw [hl] at hg
        exact (Bool.and_eq_true _ _).mp hg
      obtain ⟨r2, l3, ow⟩ := back rel' le' hb fun hl => (hfl hl).1
      refine q v _ _ r2 l3 ?_
      cases a with
      | «at» i => exact vt.elim
      | fz d =>
        show Rep c.b (unlend L F') v d
        cases len with
        | false => rw [unlend_id (nL rfl)]; exact vt
        | true => exact flat_any (unlend_tup le'.ff fun q l => ⟨(hL q l).2.1, hLt q l⟩) (hfl rfl).2 vt
      | new d =>
        obtain ⟨pp, rfl, hn, nf, own, ns⟩ := vt
        have hn : w1.H pp = none := by
          rcases hn with ⟨i, b, d0, h1, h2⟩ | hn
          · have := (hpin i false b d0 h1).1
            cases this
          · exact hn
        have hu : unlend L F' pp = none := by
          unfold unlend
          split
          · rfl
          · exact nf
        refine ⟨pp, rfl, l1.free hn, hu, ?_, fun i a b d' hi he => ?_⟩
        · cases len with
          | false =>
            show Own c (unlend L F') H' pp d
            rw [unlend_id (nL rfl)]
            exact own
          | true => exact flat_own (unlend_tup le'.ff fun q l => ⟨(hL q l).2.1, hLt q l⟩) (hfl rfl).2 own
        · obtain ⟨d0, h0⟩ := ow i a b d' hi
          obtain ⟨p3, h3, _, own3⟩ := own_some r1 h0
          rw [he] at h3
          cases h3
          obtain ⟨o, ho⟩ := own3.some
          have ho : w1.H pp = some o := ho
          rw [hn] at ho
          cases ho
    | er x ec =>
      rw [ho] at q
      obtain ⟨p, hb, q⟩ := Cn.ofB (E := E) (show Cn c E σ w ((R.of (backIo _ ec e1) e1).bind _) _ from q)
      obtain ⟨hg, q⟩ := Cn.if q
      rw [Bool.and_eq_true] at hg
      obtain ⟨hn, hg⟩ := hg
      rcases hE with ⟨hb1, E1, rfl, hEx⟩ | ⟨hb1, hE⟩
      · subst hb1
        intro σ' cls d F' H' rel' le' xr
        have hfl : len = true → p.2 = true ∧ flatXs (x.fs.map (·.2)) = true := fun hl => by
          rw [hl] at hg
          exact (Bool.and_eq_true _ _).mp hg
        obtain ⟨r2, l3, _⟩ := back rel' le' hb fun hl => (hfl hl).1
        rw [← hEx]
        refine q cls d _ _ r2 l3 ?_
        obtain ⟨x1, x2⟩ := xr
        refine ⟨x1, ?_⟩
        rcases x2 with x2 | ⟨a, fs, h1, h2, h2b, h2c, h3, h4⟩
        · exact .inl x2
        · refine .inr ⟨a, fs, h1, l1.free h2, ?_, h2c, h3, ?_⟩
          · show unlend L F' a = none
            unfold unlend
            split
            · rfl
            · exact h2b
          · cases len with
            | false =>
              show Reps c.b (unlend L F') _ _
              rw [unlend_id (nL rfl)]
              exact h4
            | true => exact flat_all (unlend_tup le'.ff fun q l => ⟨(hL q l).2.1, hLt q l⟩) (hfl rfl).2 h4
      · subst hb1
        rcases hE with hE | rfl
        · rw [hE] at hn
          cases hn
        · exact q.elim
theorem callK_nr {io : Option Nat} {len : Bool} {k n : Nat} {m : En → O} {as : List Val} {e : En} {y : Xn} {e2 : En} (hc : callK io len true k n m as e = .er y e2) : False := by
  unfold callK at hc
  split at hc
  · cases hp : prep io (ioIx io as) len 0 as e with
    | st => rw [hp] at hc; cases hc
    | er x e => exact prep_er hp
    | ok ss e1 =>
      rw [hp] at hc
      have hc : ((R.of (ioFin io (ioIx io as) ss e1) e1).bind fun q _ => callR q.1 len true e1 (m (q.2 ++ List.replicate (n - k) .un))) = R.er y e2 := hc
      cases hf : ioFin io (ioIx io as) ss e1 with
      | none => rw [hf] at hc; cases hc
      | some qq =>
        rw [hf] at hc
        have hc : callR qq.1 len true e1 (m (qq.2 ++ List.replicate (n - k) .un)) = R.er y e2 := hc
        have bi : ∀ {ec : En} {f : (En × Bool) → En → R Val}, (∀ p e, f p e ≠ R.er y e2) → ((R.of (backIo qq.1 ec e1) e1).bind f) ≠ R.er y e2 := fun {ec f} hf h => by
          cases hb : backIo qq.1 ec e1 with
          | none => rw [hb] at h; cases h
          | some p => rw [hb] at h; exact hf p e1 h
        cases ho : m (qq.2 ++ List.replicate (n - k) .un) with
        | st => rw [ho] at hc; cases hc
        | bk _ => rw [ho] at hc; cases hc
        | ct _ => rw [ho] at hc; cases hc
        | nx ec => rw [ho] at hc; exact bi (fun p e h => by split at h <;> cases h) hc
        | rt a ec => rw [ho] at hc; exact bi (fun p e h => by split at h <;> cases h) hc
        | er z ec => rw [ho] at hc; exact bi (fun p e h => by simp at h) hc
  · cases hc
theorem s_call {io : Option Nat} {len nr b : Bool} {k : Nat} {N : List Str} {m : En → O} {Ex : XK} (hE : (b = true ∧ E = some fun _ => Ex) ∨ (b = false ∧ (nr = true ∨ E = none))) (hs : SimA c E tt ms) : SimE c E (tCall (spM c.b b k N m) [] Ex tt) (mCall io len nr k N.length m ms) := by
  intro σ w Q rel q
  refine hs.to rel (LeS.refl σ w) q fun as w1 vs r1 l1 vp q1 => ?_
  show spM c.b b k N m (vs ++ []) w1.H Q Ex
  rw [List.append_nil]
  exact call_run (hE.imp (fun h => ⟨h.1, _, h.2, rfl⟩) id) r1 l1 vp q1
theorem s_callS {io : Option Nat} {len nr : Bool} {k : Nat} {N : List Str} {m : En → O} {E1 : L2.St → XK} (hE : E = some E1) (hs : SimA c E tt ms) : SimE c E (tCallS (spM c.b true k N m) E1 tt) (mCall io len nr k N.length m ms) := by
  intro σ w Q rel q
  exact hs.to rel (LeS.refl σ w) q fun as w1 vs r1 l1 vp q1 => call_run (.inl ⟨rfl, E1, hE, rfl⟩) r1 l1 vp q1
end
end MR
set_option autoImplicit false
namespace MR
open PySem PySem.Spec PyProof.Rows L2
noncomputable def argB (j1 j2 j : Nat) (a : Val) (e : En) : R Sl := if j = j1 ∨ j = j2 then .ok .un e else (frz a e).bind fun d e1 => .ok (.fz d) e1
noncomputable def prepB (j1 j2 : Nat) : Nat → List Val → En → R (List Sl)
  | _, [], e => .ok [] e
  | j, a :: as, e => (argB j1 j2 j a e).bind fun s e1 => (prepB j1 j2 (j + 1) as e1).bind fun ss e2 => .ok (s :: ss) e2
noncomputable def owOut (j : Nat) (ec : En) : Option D := match ec[j]? with
  | some (.ow _ _ d) => some d
  | _ => none
noncomputable def atIx (o : Option Val) : Option Nat := match o with
  | some (.at i) => some i
  | _ => none
noncomputable def backB (j1 j2 : Nat) (x1 x2 : Nat × Bool) (ec e : En) : Option En := (owOut j1 ec).bind fun d1 => (owOut j2 ec).map fun d2 => (e.set x1.1 (.ow x1.2 false d1)).set x2.1 (.ow x2.2 false d2)
noncomputable def callRB (j1 j2 : Nat) (x1 x2 : Nat × Bool) (nr : Bool) (e : En) : O → R Val
  | .nx ec => (R.of (backB j1 j2 x1 x2 ec e) e).bind fun p _ => .ok (.fz .non) p
  | .rt a ec => (R.of (backB j1 j2 x1 x2 ec e) e).bind fun p _ => .ok a p
  | .er y ec => (R.of (backB j1 j2 x1 x2 ec e) e).bind fun p _ => if nr = false then .er y p else .st
  | _ => .st
noncomputable def ixB (j1 j2 : Nat) (as : List Val) (e : En) : Option ((Nat × Bool × D) × (Nat × Bool × D)) := (atIx as[j1]?).bind fun i1 => (atIx as[j2]?).bind fun i2 => if i1 = i2 then none else (owAt i1 e).bind fun p1 => (owAt i2 e).map fun p2 => ((i1, p1), (i2, p2))
noncomputable def callB (j1 j2 : Nat) (nr : Bool) (k n : Nat) (m : En → O) (as : List Val) (e : En) : R Val := if as.length = k ∧ j1 ≠ j2 then (prepB j1 j2 0 as e).bind fun ss e1 => (R.of (ixB j1 j2 as e1) e1).bind fun q _ => callRB j1 j2 (q.1.1, q.1.2.1) (q.2.1, q.2.2.1) nr e1 (m (((ss.set j1 (.ow true false q.1.2.2)).set j2 (.ow true false q.2.2.2)) ++ List.replicate (n - k) .un)) else .st
noncomputable def mCall2 (j1 j2 : Nat) (nr : Bool) (k n : Nat) (m : En → O) (ms : En → R (List Val)) (e : En) : R Val := (ms e).bind fun as e1 => callB j1 j2 nr k n m as e1
end MR
set_option autoImplicit false
namespace MR
open PySem PySem.Spec PyProof.Rows L2
end MR
set_option autoImplicit false
namespace MR
open PySem PySem.Spec PyProof.Rows L2
end MR
set_option autoImplicit false
namespace MR
open PySem PySem.Spec PyProof.Rows L2
/-- the receiver is an instance of the class n, without an attribute m -/
noncomputable def isObj? (n : Str) (mm : Str) : D → Option Unit
  | .obj n2 ds => gdO (n2 = n ∧ ds.lookup mm = none) ()
  | _ => none
noncomputable def mMeth (n mm : Str) (io : Option Nat) (len nr : Bool) (k nn : Nat) (m : En → O) (mo : En → R Val) (ms : En → R (List Val)) (e : En) : R Val := (mP mo e).bind fun a e1 => (R.of ((con a e1).bind (isObj? n mm)) e1).bind fun _ _ => (ms e1).bind fun as e2 => callK io len nr k nn m (a :: as) e2
noncomputable def isIns? (n : Str) : D → Option Unit
  | .obj n2 _ => gdO (n2 = n) ()
  | _ => none
noncomputable def mProp (n : Str) (io : Option Nat) (len nr : Bool) (k nn : Nat) (m : En → O) (mo : En → R Val) (e : En) : R Val := (mP mo e).bind fun a e1 => (R.of ((con a e1).bind (isIns? n)) e1).bind fun _ _ => callK io len nr k nn m [a] e1
section
variable {c : Ctx} {E : Option (L2.St → XK)} {σ σ0 σ' : L2.St} {w w0 w1 : Wd} {Q : VK} {v x y : V} {tt : TA} {ms : En → R (List Val)} {ta : TE} {ma : En → R Val}
noncomputable def mLenOwn (n : Str) (io : Option Nat) (len nr : Bool) (nn : Nat) (m : En → O) (ms : En → R (List Val)) (e : En) : R Val := (ms e).bind fun as e1 => (R.of ((cons? as e1).bind fun ds => (one? ds).bind (isIns? n)) e1).bind fun _ _ => (callK io len nr 1 nn m as e1).bind fun a e2 => R.of ((vI? a).bind fun i => gdO (0 ≤ i ∧ i < 2 ^ 62) (vI i)) e2
theorem ext_at {α : Type} {xs : List α} {a : α} {i : Nat} {b : α} (h : (xs ++ [a])[i]? = some b) : (i < xs.length ∧ xs[i]? = some b) ∨ (i = xs.length ∧ b = a) := by
  by_cases hi : i < xs.length
  · rw [List.getElem?_append_left hi] at h
    exact .inl ⟨hi, h⟩
  · rw [List.getElem?_append_right (by omega)] at h
    by_cases z : i = xs.length
    · subst z
      rw [Nat.sub_self] at h
      cases h
      exact .inr ⟨rfl, rfl⟩
    · rw [List.getElem?_eq_none (by simp only [List.length_cons, List.length_nil]; omega)] at h
      cases h
theorem ext_get {α : Type} {xs : List α} {a : α} {i : Nat} {b : α} (h : xs[i]? = some b) : (xs ++ [a])[i]? = some b := by
  rw [List.getElem?_append_left (List.getElem?_eq_some_iff.mp h).1]
  exact h
theorem ext_last {α : Type} {xs : List α} {a : α} : (xs ++ [a])[xs.length]? = some a := by
  rw [List.getElem?_append_right (Nat.le_refl _), Nat.sub_self]
  rfl
theorem RelE.ext {p : Addr} {d : D} (rel : RelE c σ w) (f : Free σ w p) (nf : w.F p = none) (own : Own c w.F w.H p d) : RelE c (σ ++ [some (.ref p)]) ⟨w.F, w.H, w.env ++ [.ow false false d]⟩ := by
  refine ⟨?_, fun i s hi => ?_, fun i j a b d1 a' b' d2 q h1 h2 e1 e2 => ?_, rel.sm, fun i d1 hi => ?_⟩
  · show (σ ++ _).length = (w.env ++ _).length
    rw [List.length_append, List.length_append, rel.len]
    rfl
  · rcases ext_at hi with ⟨_, z⟩ | ⟨rfl, rfl⟩
    · obtain ⟨o, h1, h2⟩ := rel.at_ i s z
      exact ⟨o, ext_get h1, h2⟩
    · exact ⟨_, by rw [← rel.len]; exact ext_last, p, rfl, nf, own⟩
  · have key : ∀ {i : Nat} {a b : Bool} {d1 : D}, (w.env ++ [.ow false false d])[i]? = some (.ow a b d1) → (σ ++ [some (V.ref p)])[i]? = some (some (.ref q)) → (w.env[i]? = some (.ow a b d1) ∧ σ[i]? = some (some (.ref q)) ∧ q ≠ p) ∨ (i = w.env.length ∧ q = p) := fun {i a b d1} h e => by
      rcases ext_at h with ⟨hi, z⟩ | ⟨hi, z⟩
      · rcases ext_at e with ⟨_, z2⟩ | ⟨h3, _⟩
        · exact .inl ⟨z, z2, fun y => f i a b d1 z (by rw [z2, y])⟩
        · rw [rel.len] at h3
          omega
      · rcases ext_at e with ⟨h3, _⟩ | ⟨_, z2⟩
        · rw [rel.len] at h3
          omega
        · cases z2
          exact .inr ⟨hi, rfl⟩
    rcases key h1 e1 with ⟨x1, x2, x3⟩ | ⟨x1, x2⟩ <;> rcases key h2 e2 with ⟨y1, y2, y3⟩ | ⟨y1, y2⟩
    · exact rel.ne i j _ _ _ _ _ _ q x1 y1 x2 y2
    · exact absurd y2 x3
    · exact absurd x2 y3
    · exact x1.trans y1.symm
  · rcases ext_at hi with ⟨_, z⟩ | ⟨_, z⟩
    · exact rel.pl i d1 z
    · cases z
end
end MR
set_option autoImplicit false
namespace MR
open PySem PySem.Spec PyProof.Rows L2
/-- an own error's __init__, by the names of its fields -/
noncomputable def spInitN (K : PySem.W.Frag) (C : Addr) (fs : List Str) : Sp := fun vs H Q _ => ∃ (a : Addr) (us : List V), vs = .ref a :: us ∧ us.length = fs.length ∧ OexC K C ∧ (∀ f ∈ fs, PySem.W.findIn K (.ref C) f = some none) ∧ H a = some (exo a C none) ∧
  ∀ dx, H dx = none → dx ≠ a → Q .non (upd (upd H dx (exd dx (fs.zip us).reverse)) a (exo a C (some dx)))
noncomputable def mRaise (n : Str) (fs : List Str) (ms : En → R (List Val)) (e : En) : O := (ms e).o fun as e1 => (frzs as e1).o fun ds e2 => if ds.length = fs.length then .er ⟨n, (fs.zip ds).reverse⟩ e2 else .st
section
variable {c : Ctx} {E : Option (L2.St → XK)} {σ σ0 σ' : L2.St} {w w0 w1 : Wd} {Q : VK} {v x y : V} {tt : TA} {ms : En → R (List Val)} {ta : TE} {ma : En → R Val} {DD : Ends}
theorem SimA.so {k : List Val → En → O} {Q : List V → Hp → Prop} (h : SimA c E tt ms) (rel : RelE c σ w) (q : Co c E σ w ((ms w.env).o k) DD)
    (hk : ∀ as w2 vs, RelE c σ w2 → LeS σ w σ w2 → VPs c σ w2 vs as → Co c E σ w (k as w2.env) DD → Q vs w2.H) : tt σ w.H Q := by
  refine h σ w Q rel ?_
  cases hm : ms w.env with
  | st => rw [hm] at q; exact q
  | er x e => rw [hm] at q; exact KEs.ke q
  | ok a e =>
    rw [hm] at q
    exact fun v F' H' r l1 vr => hk a ⟨F', H', e⟩ v r l1 vr q
theorem frzs_so {k : List D → En → O} {as : List Val} {vs : List V} {G : Prop} (rel : RelE c σ w) (vp : VPs c σ w vs as) (q : Co c E σ w0 ((frzs as w.env).o k) DD)
    (hk : ∀ ds w2, w2.H = w.H → RelE c σ w2 → LeS σ w σ w2 → Reps c.b w2.F vs ds → Co c E σ w0 (k ds w2.env) DD → G) : G := by
  cases hf : frzs as w.env with
  | st => rw [hf] at q; exact q.elim
  | er x e => exact (frzs_er hf).elim
  | ok ds e =>
    rw [hf] at q
    obtain ⟨F', r, _, l2, rs⟩ := frzs_ok rel (LeS.refl σ w) vp hf
    exact hk ds ⟨F', w.H, e⟩ rfl r l2 rs q
theorem zip_map {α β : Type} : ∀ {xs : List α} {ys : List β}, ys.length = xs.length → (xs.zip ys).map (·.1) = xs ∧ (xs.zip ys).map (·.2) = ys
  | [], [], _ => ⟨rfl, rfl⟩
  | [], _ :: _, h => by cases h
  | _ :: _, [], h => by cases h
  | x :: xs, y :: ys, h => by
    obtain ⟨h1, h2⟩ := zip_map (xs := xs) (ys := ys) (Nat.succ.inj h)
    exact ⟨by rw [List.zip_cons_cons, List.map_cons, h1], by rw [List.zip_cons_cons, List.map_cons, h2]⟩
theorem s_raise {n : Str} {fs : List Str} {W : WX} (ho : OexC c.K (c.cls n)) (hn : ∀ f ∈ fs, PySem.W.findIn c.K (.ref (c.cls n)) f = some none) (hl : fs.length ≤ 100) (hE : E = some fun σ cls d H => W cls d σ H) (hs : SimA c E tt ms) :
    SimS c E (fun _ σ H => tMkO (c.cls n) (spInitN c.K (c.cls n) fs) [] tt σ H fun cls d H' => W cls d σ H') (mRaise n fs ms) := by
  subst hE
  intro σ w DD rel q
  refine hs.so rel q fun as w1 vs r1 l1 vp q1 => frzs_so r1 vp q1 fun ds w2 e2 r2 l2 rs q2 => ?_
  split at q2
  case isFalse => exact q2.elim
  case isTrue hd =>
  have hvs : vs.length = fs.length := rs.len.trans hd
  refine ⟨by omega, fun a na => ⟨a, vs ++ [], rfl, by rw [List.append_nil]; exact hvs, ho, hn, upd_same, fun dx nd ne => ?_⟩⟩
  rw [List.append_nil]
  have nd0 : w1.H dx = none := by rw [upd_ne ne] at nd; exact nd
  refine ⟨rfl, dx, _, upd_same, (upd_ne ne).trans upd_same, nd0, ?_⟩
  -- the heap behind: the error's dict is new
  have hh : upd (L2.del (upd (upd (upd w1.H a (exo a (c.cls n) none)) dx (exd dx (fs.zip vs).reverse)) a (exo a (c.cls n) (some dx))) a) dx (.xd (fs.zip vs).reverse) = upd w1.H dx (.xd (fs.zip vs).reverse) := by
    funext b
    by_cases z : b = dx
    · rw [z, upd_same, upd_same]
    · rw [upd_ne z, upd_ne z]
      by_cases y : b = a
      · rw [y, L2.del_same, na]
      · rw [L2.del_ne y, upd_ne y, upd_ne z, upd_ne y]
  rw [hh]
  rw [← e2] at nd0 ⊢
  obtain ⟨r3, l3⟩ := allocN (o := .xd (fs.zip vs).reverse) r2 nd0
  have l02 := (l1.trans l2).trans l3
  refine q2 σ (.ref (c.cls n)) (some dx) w2.F _ r3 l02 ⟨rfl, .inr ⟨dx, _, rfl, (l1.trans l2).free nd0, r2.sm.free nd0, upd_same, ?_, ?_⟩⟩
  · show (fs.zip vs).reverse.map (·.1) = (fs.zip ds).reverse.map (·.1)
    rw [List.map_reverse, List.map_reverse, (zip_map hvs).1, (zip_map hd).1]
  · show Reps c.b w2.F ((fs.zip vs).reverse.map (·.2)) ((fs.zip ds).reverse.map (·.2))
    rw [List.map_reverse, List.map_reverse, (zip_map hvs).2, (zip_map hd).2]
    exact rs.rev
/-- where nothing may be raised -/
theorem s_never {n : Str} {fs : List Str} : SimS c none tNever (mRaise n fs ms) := by
  intro σ w DD rel q
  have q : Co c none σ w ((ms w.env).o _) DD := q
  cases hm : ms w.env with
  | st => rw [hm] at q; exact q
  | er x e => rw [hm] at q; exact q
  | ok as e =>
    rw [hm] at q
    have q : Co c none σ w ((frzs as e).o _) DD := q
    cases hf : frzs as e with
    | st => rw [hf] at q; exact q
    | er x e => rw [hf] at q; exact q
    | ok ds e2 =>
      rw [hf] at q
      have q : Co c none σ w (if ds.length = fs.length then .er ⟨n, (fs.zip ds).reverse⟩ e2 else .st) DD := q
      split at q
      · exact q
      · exact q
end
noncomputable def noEx (e : En) : Bool := e.all fun s => match s with
  | .ex => false
  | _ => true
/-- which classes the clause takes -/
noncomputable abbrev Tab := List (Str × Bool)
noncomputable def tabGet (t : Tab) (n : Str) : Option Bool := t.lookup n
/-- behind the suite: the name is forgotten -/
noncomputable def O.unx (i : Nat) : O → O
  | .nx e => if noEx (e.set i .un) = true ∧ canSet e[i]? = true then .nx (e.set i .un) else .st
  | .bk e => if noEx (e.set i .un) = true ∧ canSet e[i]? = true then .bk (e.set i .un) else .st
  | .ct e => if noEx (e.set i .un) = true ∧ canSet e[i]? = true then .ct (e.set i .un) else .st
  | .rt a e => if noEx (e.set i .un) = true ∧ canSet e[i]? = true then .rt a (e.set i .un) else .st
  | _ => .st
noncomputable def mTry (i : Nat) (t : Tab) (mb : En → O) (ms : Xn → En → O) (e : En) : O := match mb e with
  | .er x e1 => match tabGet t x.n with
    | some true => if noEx e1 = true ∧ canSet e1[i]? = true ∧ x.fs.isEmpty = false then (ms x (e1.set i .ex)).unx i else .st
    | some false => .er x e1
    | none => .st
  | o => o
/-- what is known of the slot of the caught error -/
noncomputable def XK1 (c : Ctx0) (a : Addr) (cls : Value) (d : Option Addr) (x : Xn) (o : Option V) (F : Hp) : Prop := o = some (.ref a) ∧ cls = .ref (c.cls x.n) ∧ ∃ dd fs, d = some dd ∧ F dd = some (.xd fs) ∧ fs.map (·.1) = x.fs.map (·.1) ∧ Reps c F (fs.map (·.2)) (x.fs.map (·.2))
noncomputable def suiteC (c : Ctx) (a : Addr) (cls : Value) (d : Option Addr) (x : Xn) : Ctx := ⟨c.b, XK1 c.b a cls d x, fun o F F' s h => by
  obtain ⟨h1, h2, dd, fs, h3, h4, h5, h6⟩ := h
  exact ⟨h1, h2, dd, fs, h3, s _ _ h4, h5, h6.mono s⟩⟩
section
variable {c : Ctx} {E : Option (L2.St → XK)} {σ σ0 σ' : L2.St} {w w0 w1 : Wd} {Q : VK} {v x y : V} {tt : TA} {ms : En → R (List Val)} {ta : TE} {ma : En → R Val} {DD : Ends}
theorem noEx_at {e : En} (h : noEx e = true) {i : Nat} : e[i]? ≠ some .ex := fun z => by
  have hm := List.mem_of_getElem? z
  have := List.all_eq_true.mp h _ hm
  cases this
/-- other contexts, where no slot holds an error -/
theorem RelE.ctx {c' : Ctx} (rel : RelE c σ w) (hb : c'.b = c.b) (hn : ∀ i : Nat, w.env[i]? ≠ some Sl.ex) : RelE c' σ w := by
  obtain ⟨b', X', m'⟩ := c'
  have hb : b' = c.b := hb
  subst hb
  refine ⟨rel.len, fun i s hi => ?_, rel.ne, rel.sm, rel.pl⟩
  obtain ⟨o, h1, h2⟩ := rel.at_ i s hi
  refine ⟨o, h1, ?_⟩
  cases s with
  | un => exact True.intro
  | ex => exact absurd hi (hn i)
  | fz d => exact h2
  | ow a b d => cases d <;> exact h2
/-- a slot is stored, not with a thing that is mine -/
theorem set_sl {i : Nat} {s : Sl} {o : Option V} (rel : RelE c σ w) (cs : canSet w.env[i]? = true) (r : SlotR c w.F w.H o s) (no : ∀ a b d, s ≠ .ow a b d) : RelE c (σ.set i o) ⟨w.F, w.H, w.env.set i s⟩ ∧ LeS σ w (σ.set i o) ⟨w.F, w.H, w.env.set i s⟩ := by
  obtain ⟨hl, hn⟩ := canSet_ok cs
  have hσ : i < σ.length := by rw [rel.len]; exact hl
  have gow : ∀ (j : Nat) (a b : Bool) (d' : D), (w.env.set i s)[j]? = some (.ow a b d') → j ≠ i ∧ w.env[j]? = some (.ow a b d') := fun j a b d' h => by
    rcases get_set h with ⟨_, z⟩ | z
    · exact absurd z.symm (no a b d')
    · exact z
  refine ⟨⟨?_, fun j s2 hs => ?_, fun j k a b d1 a' b' d2 p h1 h2 e1 e2 => ?_, rel.sm, fun j d' z => rel.pl j d' (gow _ _ _ _ z).2⟩, ⟨Same.refl _, fun _ _ _ h => h, fun _ _ _ => rfl, fun _ h => h, fun p ⟨j, a, d', hj, hp⟩ => ?_, fun p ⟨j, a, d', hj, hp⟩ => ?_, fun j a b d' hj ab => ?_⟩⟩
  · show (σ.set i _).length = (w.env.set i _).length
    rw [List.length_set, List.length_set]
    exact rel.len
  · rcases get_set hs with ⟨rfl, rfl⟩ | ⟨ne, hs⟩
    · exact ⟨_, List.getElem?_set_self hσ, r⟩
    · obtain ⟨o2, h1, h2⟩ := rel.at_ j s2 hs
      exact ⟨o2, by rw [List.getElem?_set_ne (Ne.symm ne)]; exact h1, h2⟩
  · obtain ⟨n1, h1⟩ := gow _ _ _ _ h1
    obtain ⟨n2, h2⟩ := gow _ _ _ _ h2
    rw [List.getElem?_set_ne (Ne.symm n1)] at e1
    rw [List.getElem?_set_ne (Ne.symm n2)] at e2
    exact rel.ne j k a b d1 a' b' d2 p h1 h2 e1 e2
  · obtain ⟨n1, h1⟩ := gow _ _ _ _ hj
    rw [List.getElem?_set_ne (Ne.symm n1)] at hp
    exact .inl ⟨j, a, d', h1, hp⟩
  · obtain ⟨n1, h1⟩ := gow _ _ _ _ hj
    rw [List.getElem?_set_ne (Ne.symm n1)] at hp
    exact .inl ⟨j, a, d', h1, hp⟩
  · have ne : j ≠ i := fun z => by
      subst z
      rw [hn a b d' hj] at ab
      cases ab
    refine ⟨d', ?_, List.getElem?_set_ne (Ne.symm ne), fun _ => rfl⟩
    show (w.env.set i _)[j]? = _
    rw [List.getElem?_set_ne (Ne.symm ne)]
    exact hj
/-- what was tracked is laid among what never changes -/
theorem RelE.lay {p : Addr} {o : HO} (rel : RelE c σ w) (h : w.H p = some o) (f : Free σ w p) (nf : w.F p = none) : RelE c σ ⟨upd w.F p o, w.H, w.env⟩ := by
  have sm : Same w.F (upd w.F p o) := same_new nf
  refine ⟨rel.len, fun i s hs => ?_, rel.ne, fun q u hq => ?_, rel.pl⟩
  · obtain ⟨ov, h1, h2⟩ := rel.at_ i s hs
    refine ⟨ov, h1, h2.mono sm fun q a b d es eo hf => ?_⟩
    subst es
    exact (upd_ne fun z => f i a b d hs (by rw [h1, eo, z])).trans hf
  · have hq : upd w.F p o q = some u := hq
    by_cases z : q = p
    · rw [z, upd_same] at hq
      rw [z]
      exact h.trans hq
    · rw [upd_ne z] at hq
      exact rel.sm _ _ hq
theorem LeS.lay {p : Addr} {o : HO} {w' : Wd} (l : LeS σ w σ' w') (n : w.H p = none) (nf : w'.F p = none) : LeS σ w σ' ⟨upd w'.F p o, w'.H, w'.env⟩ :=
  ⟨l.ff.trans (same_new nf), l.hh, fun q nb hq => (upd_ne fun z => hq (by rw [z]; exact n)).trans (l.fn q nb hq), l.dom, l.bb, l.bu, l.pn⟩
theorem s_try {i : Nat} {t : Tab} {tb : WX → TS} {ts : Addr → Value → Option Addr → TS} {Wout : WX} {cV : Value} {mb : En → O} {mx : Xn → En → O} (hE : E = none ∨ E = some fun σ cls d H => Wout cls d σ H) (ht : ∀ n b, tabGet t n = some b → PySem.W.exmOne c.K (.ref (c.cls n)) cV = some b)
    (hb : ∀ W : WX, SimS c (some fun σ cls d H => W cls d σ H) (tb W) mb) (hs : ∀ a cls d x, SimS (suiteC c a cls d x) none (ts a cls d) (mx x)) :
    SimS c E (fun D σ H => tb (wAs c.K cV i ts Wout D) D σ H) (mTry i t mb mx) := by
  intro σ w DD rel q
  refine hb _ σ w DD rel ?_
  unfold mTry at q
  cases hm : mb w.env with
  | st => rw [hm] at q; exact q
  | nx e => rw [hm] at q; exact q
  | bk e => rw [hm] at q; exact q
  | ct e => rw [hm] at q; exact q
  | rt a e => rw [hm] at q; exact q
  | er x e1 =>
    rw [hm] at q
    intro σ' cls d F' H' r' l' xr
    have q : Co c E σ w (match tabGet t x.n with
      | some true => if noEx e1 = true ∧ canSet e1[i]? = true ∧ x.fs.isEmpty = false then (mx x (e1.set i .ex)).unx i else .st
      | some false => .er x e1
      | none => .st) DD := q
    obtain ⟨hcls, xr2⟩ := xr
    cases htg : tabGet t x.n with
    | none => rw [htg] at q; exact q.elim
    | some b =>
      have hx := ht _ _ htg
      rw [htg] at q
      refine ⟨b, by rw [hcls]; exact hx, fun hbt a na => ?_, fun hbf => ?_⟩
      · subst hbt
        have q : Co c E σ w (if noEx e1 = true ∧ canSet e1[i]? = true ∧ x.fs.isEmpty = false then (mx x (e1.set i .ex)).unx i else .st) DD := q
        split at q
        case isFalse => exact q.elim
        case isTrue hc =>
        rcases xr2 with ⟨_, h0⟩ | ⟨dd, fs, rfl, nd, ndF, hd, hk, hr⟩
        · have := hc.2.2
          rw [h0] at this
          cases this
        · have fr : Free σ' ⟨F', H', e1⟩ dd := fun j a b d hj hp => by
            obtain ⟨p, h1, _, own⟩ := own_some r' hj
            rw [hp] at h1
            cases h1
            have hd : H' dd = some (.xd fs) := hd
            cases d with
            | lst ds => obtain ⟨vs, h2, _⟩ := own; have h2 : H' dd = _ := h2; rw [hd] at h2; cases h2
            | dic ds => obtain ⟨vs, h2, _⟩ := own; have h2 : H' dd = _ := h2; rw [hd] at h2; cases h2
            | dit ds => obtain ⟨vs, h2, _⟩ := own; have h2 : H' dd = _ := h2; rw [hd] at h2; cases h2
            | obj n ds => obtain ⟨dx, vs, h2, _⟩ := own; have h2 : H' dd = _ := h2; rw [hd] at h2; cases h2
            | _ => exact own.elim
          have rL := r'.lay hd fr ndF
          have lL := l'.lay (o := .xd fs) nd ndF
          have rX : RelE (suiteC c a cls (some dd) x) σ' ⟨upd F' dd (.xd fs), H', e1⟩ := rL.ctx rfl fun j => noEx_at hc.1
          obtain ⟨r2, l2⟩ := set_sl (o := some (.ref a)) (s := .ex) rX hc.2.1 ⟨rfl, hcls, dd, fs, rfl, upd_same, hk, hr.mono (same_new ndF)⟩ fun _ _ _ z => (nomatch z)
          refine hs a cls (some dd) x _ _ _ r2 ?_
          have l02 := lL.trans l2
          have fin : ∀ {σ3 : L2.St} {F3 H3 : Hp} {e3 : En}, RelE (suiteC c a cls (some dd) x) σ3 ⟨F3, H3, e3⟩ → LeS (σ'.set i (some (.ref a))) ⟨upd F' dd (.xd fs), H', e1.set i .ex⟩ σ3 ⟨F3, H3, e3⟩ → noEx (e3.set i .un) = true ∧ canSet e3[i]? = true →
              RelE c (σ3.set i none) ⟨F3, H3, e3.set i .un⟩ ∧ LeS σ w (σ3.set i none) ⟨F3, H3, e3.set i .un⟩ := fun {σ3 F3 H3 e3} r3 l3 hn => by
            obtain ⟨r4, l4⟩ := set_sl (o := none) (s := .un) r3 hn.2 True.intro fun _ _ _ z => (nomatch z)
            exact ⟨r4.ctx rfl fun j => noEx_at hn.1, (l02.trans l3).trans l4⟩
          cases ho : mx x (e1.set i .ex) with
          | st => rw [ho] at q; exact q.elim
          | er y e3 => rw [ho] at q; exact q.elim
          | nx e3 =>
            rw [ho] at q
            have q : Co c E σ w (if noEx (e3.set i .un) = true ∧ canSet e3[i]? = true then .nx (e3.set i .un) else .st) DD := q
            split at q
            · next hn => exact ⟨fun σ3 F3 H3 r3 l3 => q.go _ _ _ (fin r3 l3 hn).1 (fin r3 l3 hn).2⟩
            · exact q.elim
          | bk e3 =>
            rw [ho] at q
            have q : Co c E σ w (if noEx (e3.set i .un) = true ∧ canSet e3[i]? = true then .bk (e3.set i .un) else .st) DD := q
            split at q
            · next hn => exact ⟨fun σ3 F3 H3 r3 l3 => q.go _ _ _ (fin r3 l3 hn).1 (fin r3 l3 hn).2⟩
            · exact q.elim
          | ct e3 =>
            rw [ho] at q
            have q : Co c E σ w (if noEx (e3.set i .un) = true ∧ canSet e3[i]? = true then .ct (e3.set i .un) else .st) DD := q
            split at q
            · next hn => exact ⟨fun σ3 F3 H3 r3 l3 => q.go _ _ _ (fin r3 l3 hn).1 (fin r3 l3 hn).2⟩
            · exact q.elim
          | rt va e3 =>
            rw [ho] at q
            have q : Co c E σ w (if noEx (e3.set i .un) = true ∧ canSet e3[i]? = true then .rt va (e3.set i .un) else .st) DD := q
            split at q
            case isFalse => exact q.elim
            case isTrue hn =>
            intro v σ3 F3 H3 r3 l3 vt
            obtain ⟨r4, l4⟩ := fin r3 l3 hn
            refine q v _ _ _ r4 l4 ?_
            cases va with
            | fz d => exact vt
            | «at» j => exact vt
            | new d =>
              obtain ⟨p, e, hnew, nf, own, ns⟩ := vt
              refine ⟨p, e, ?_, nf, ?_, fun j a2 b2 d2 hj hp => ?_⟩
              · rcases hnew with hnew | hnew
                · exact l02.bu p hnew
                · exact .inr (l02.free hnew)
              · cases d <;> exact own
              · have hj : (e3.set i .un)[j]? = some (.ow a2 b2 d2) := hj
                rcases get_set hj with ⟨_, z⟩ | ⟨ne, z⟩
                · cases z
                · rw [List.getElem?_set_ne (Ne.symm ne)] at hp
                  exact ns j a2 b2 d2 z hp
      · subst hbf
        rcases hE with rfl | rfl
        · exact q.elim
        · exact q σ' cls d F' H' r' l' ⟨hcls, xr2⟩
noncomputable def mXf (i : Nat) (n : Str) (x : Xn) (f : Str) (e : En) : R Val := match e[i]? with
  | some .ex => if x.n = n then R.of ((x.fs.lookup f).map .fz) e else .st
  | _ => .st
theorem s_xf {i : Nat} {a : Addr} {cls : Value} {d : Option Addr} {x : Xn} {n f : Str} : SimE (suiteC c a cls d x) none (tXf a cls d (c.cls n) f (tVar i)) (mXf i n x f) := by
  intro σ w Q rel q
  unfold mXf at q
  split at q
  case h_2 => exact q.elim
  case h_1 hs =>
  split at q
  case isFalse => exact q.elim
  case isTrue hn =>
  obtain ⟨res, e, k⟩ := Cn.of q
  obtain ⟨d0, e, rfl⟩ := map_some e
  obtain ⟨o, h1, rfl, hc, dd, fs, rfl, hd, hk, hr⟩ := rel.at_ i _ hs
  subst hn
  rcases sval_rep f hk hr with ⟨h, _⟩ | ⟨d2, v, h, hv, rv⟩
  · rw [h] at e; cases e
  · rw [h] at e
    cases e
    exact ⟨.ref a, h1, rfl, hc, dd, fs, v, rfl, rel.sm _ _ hd, hv, k v _ _ rel (LeS.refl σ w) rv⟩
end
end MR
set_option autoImplicit false
namespace MR
open PySem PySem.Spec PyProof.Rows L2
noncomputable def cutR (n : Nat) : R Val → R Val
  | .ok (.fz .non) e => match e[n]? with
    | some (.ow false false d) => if e.length = n + 1 then .ok (.new d) (e.take n) else .st
    | _ => .st
  | .er x e => .er x (e.take n)
  | _ => .st
noncomputable def mMake (n : Str) (len nr : Bool) (k nn : Nat) (m : En → O) (ms : En → R (List Val)) (e : En) : R Val := (ms e).bind fun as e1 => cutR e1.length (callK (some 0) len nr k nn m (.at e1.length :: as) (e1 ++ [.ow false false (.obj n [])]))
section
variable {c : Ctx} {E : Option (L2.St → XK)} {σ σ0 σ' : L2.St} {w w0 w1 : Wd} {Q : VK} {v x y : V} {tt : TA} {ms : En → R (List Val)} {ta : TE} {ma : En → R Val}
theorem VPs.ext {o : Option V} {H : Hp} {s : Sl} {vs : List V} {as : List Val} (h : VPs c σ w vs as) : VPs c (σ ++ [o]) ⟨w.F, H, w.env ++ [s]⟩ vs as := by
  induction h with
  | nil => exact .nil
  | @cons v a _ _ na vr t ih =>
    refine .cons na ?_ ih
    cases a with
    | fz d => exact vr
    | «at» i => exact ext_get vr
    | new d => exact absurd rfl (na d)
end
end MR
set_option autoImplicit true
namespace L2
open PySem PySem.Spec PyProof.Rows
section
variable {X : Cx}
noncomputable def bqk (c : Bool) (v : Value) : Bool := match v with
  | .bool d => d == c
  | _ => false
theorem bqk_at {c : Bool} : ∀ {us : List Value} {bs : List Bool}, Vals (bs.map V.bl) us → (∀ y, y ∈ us → ∃ d, y = .bool d) ∧ us.countP (bqk c) = bs.count c
  | us, [], h => by
    cases h
    exact ⟨fun y hy => (List.not_mem_nil hy).elim, rfl⟩
  | us, b :: bs, h => by
    cases h with
    | cons r t =>
      have ih := bqk_at (c := c) t
      cases (show _ = Value.bool b from r)
      refine ⟨fun y hy => ?_, ?_⟩
      · rcases List.mem_cons.mp hy with e | e
        · exact ⟨b, e⟩
        · exact ih.1 y e
      · rw [List.countP_cons, List.count_cons, ih.2]
        rfl
noncomputable def rCntB (K : PySem.W.Frag) : V → List V → Hp → VK → Prop := fun x xs H Q => ∃ (p : Addr) (bs : List Bool) (c : Bool), x = .ref p ∧ xs = [.bl c] ∧ SqL K H p (bs.map V.bl) ∧ Q (.int (bs.count c : Nat)) H
theorem mt_bcount : MtR X "list.count" (rCntB X.K) := by
  intro pl sh st Hh xv xl vv ul Qw I rx rl h
  obtain ⟨p, bs, c, rfl, rfl, hs, q⟩ := h
  cases rx
  obtain ⟨u, rfl, ru⟩ := rl.one
  cases (show u = Value.bool c from ru)
  obtain ⟨its, rv, ⟨⟨kl, dd, dt, sl⟩, n, ho, hc, hdn, hd⟩, _⟩ := I.list hs
  simp only at hc hd
  subst hc hd
  have hb := bqk_at (c := c) rv
  refine call_meets PySem.F.slot_list_count ⟨_, ho, rfl⟩ PySem.F.entry_list_count (PySem.F.args_list_count_2 _ _) (SeqAt.list_countAt p its.toArray n dd sl (.bool c) (bqk c)) ⟨ho, fun y hy => ?_, ?_⟩
  · obtain ⟨d, rfl⟩ := hb.1 y (by simpa using hy)
    exact SeqAt.EqAt.bool_bool d c
  · refine ⟨.int (bs.count c : Nat), Hh, I.tok _, ⟨sh.toks, ?_⟩, q⟩
    have e : its.toArray.toList.countP (bqk c) = bs.count c := hb.2
    show Value.int ((its.toArray.toList.countP (bqk c) : Nat) : Int) _ = _
    rw [e]
noncomputable def rIsX (K : PySem.W.Frag) (a : Addr) (cls : Value) (d : Option Addr) : List V → Hp → VK → Prop := fun xs H Q => ∃ (D dd : Addr) (fs : List (Str × V)) (c : V) (cv : Value) (b : Bool), cls = .ref D ∧ d = some dd ∧ ExcC K D ∧ H dd = some (.xd fs) ∧ xs = [.ref a, c] ∧
  (∀ u, RelV c u → u = cv) ∧ PySem.W.kitOne K (.ref D) cv = some b ∧ Q (.bl b) H
theorem call_isX {a : Addr} {oe : Obj} {cls : Value} {d : Option Addr} {pn : List (Addr × Obj)} (hz : Zc cls d oe) (hf : ∃ vs, oe.data = .fields vs) : CallR (X.suite a ((a, oe) :: pn)) (.builtin "isinstance") (rIsX X.K a cls d) := by
  intro pl sh st Hh xv ul Qw I r h
  obtain ⟨D, dd, fs, c, cv, b, rfl, rfl, C, hd, rfl, hcv, e, q⟩ := h
  obtain ⟨u, u2, rfl, rx, rt⟩ := vals2 r
  cases rx
  have ec := hcv _ rt
  subst ec
  obtain ⟨hget, _⟩ := I.pin (a, oe) (List.mem_append_left _ List.mem_cons_self)
  obtain ⟨vs, hv⟩ := hf
  have ob : ObjOk X.prog X.w Hh sh.heap dd (.xd fs) := I.hok dd _ hd
  obtain ⟨mA, hns, _⟩ := ob
  obtain ⟨od, ho, _⟩ := lookIn_ns hns
  have J : PySem.W.InstAt sh.heap a oe D (some od) := ⟨hget, hz.1, by unfold PySem.W.notCls; rw [hv] <;> rfl, by rw [hz.2]; exact ho⟩
  have hcl : (PySem.W.clsIn X.K D).isSome = true := by
    obtain ⟨cd, hc, _⟩ := PySem.W.any_some C.hd
    rw [hc]
    rfl
  exact PySem.W.kia_one (PySem.W.kitx_exc hcl C.hg C.hk C.hs C.ha C.hn C.ht C.hm) I.kIn J e (fun z => nomatch z) fun tk => ⟨.bl b, Hh, I.kept (t' := tk) fun _ _ z => z, rfl, q⟩
variable {CX : CXT} {k n : Nat} {f : Addr} {fd : FuncData} {ps ks : List Str} {sp : Sp} {E : St → XK} {x : Str} {p pos : Pos} {e : Expr} {es : List Expr} {kws : List Keyword} {t tk : TA} {g : List Value → List Value → List Value} {gV : List V → List V → List V}
end
end L2
set_option autoImplicit false
namespace MR
open PySem PySem.Spec PyProof.Rows L2
section
variable {P : Program} {w : World} {K : PySem.W.Frag} {mg : Str → Option Value} {base : Heap}
theorem fn_nox {c : Ctx0} {x qual : Str} {st : Stmt} {f : Addr} {fd : FuncData} {N ps : List Str} {k : Nat} {m : En → O} (F : Fun K x qual st f fd) (S : FnScope N ps (defScope st))
    (hbody : ∀ (cdv : Value) (A : Around) (outer : List Env) (s : Shared) (H : Hp) (E : XK), Room k (A.deeper (envOfC qual (defScope st) s.heap.objs.size f cdv)) →
      ∃ t, PSs (cxOf CX0 P w K mg base N qual (defScope st) f cdv A outer s H E).nox (defBody st) t ∧ SimS c.top none t m) : FnOk P w K mg base CX0 (k + 1) f fd ps (spM c false ps.length N m) := by
  refine F.ok S (fun vs H Q E h => h.1) fun cdv A outer s H vs Q E hr h => ?_
  obtain ⟨hl, F', env, rel, _, co⟩ := h
  obtain ⟨t, hp, hs⟩ := hbody cdv A outer s H E hr
  exact ⟨t, hp, hs _ _ _ rel co⟩
theorem fn_x {c : Ctx0} {x qual : Str} {st : Stmt} {f : Addr} {fd : FuncData} {N ps : List Str} {k : Nat} {m : En → O} (F : Fun K x qual st f fd) (S : FnScope N ps (defScope st))
    (hbody : ∀ (cdv : Value) (A : Around) (outer : List Env) (s : Shared) (H : Hp) (E : XK), Room k (A.deeper (envOfC qual (defScope st) s.heap.objs.size f cdv)) →
      ∃ t, PSs (cxOf (L2.CX P w) P w K mg base N qual (defScope st) f cdv A outer s H E) (defBody st) t ∧ SimS c.top (some fun _ => E) t m) : FnOk P w K mg base (L2.CX P w) (k + 1) f fd ps (spM c true ps.length N m) := by
  refine F.okX S (fun vs H Q E h => h.1) fun cdv A outer s H vs Q E hr h => ?_
  obtain ⟨hl, F', env, rel, _, co⟩ := h
  obtain ⟨t, hp, hs⟩ := hbody cdv A outer s H E hr
  exact ⟨t, hp, hs _ _ _ rel co⟩
end
noncomputable def mIsE (i : Nat) (x : Xn) (t : Tab) (e : En) : R Val := match e[i]? with
  | some .ex => R.of ((tabGet t x.n).map fun b => .fz (.bl b)) e
  | _ => .st
section
variable {c : Ctx} {E : Option (L2.St → XK)} {σ σ0 σ' : L2.St} {w w0 w1 : Wd} {Q : VK} {v x y : V} {tt : TA} {ms : En → R (List Val)} {ta : TE} {ma : En → R Val}
theorem s_isX {i : Nat} {a : Addr} {cls : Value} {d : Option Addr} {x : Xn} {t : Tab} {vc : V} {cv : Value} (hv : ∀ u, RelV vc u → u = cv) (ht : ∀ n b, tabGet t n = some b → ExcC c.K (c.cls n) ∧ PySem.W.kitOne c.K (.ref (c.cls n)) cv = some b) :
    SimE (suiteC c a cls d x) none (tCB (rIsX c.K a cls d) (tCons (tVar i) (tCons (tC vc) tNil))) (mIsE i x t) := by
  intro σ w Q rel q
  unfold mIsE at q
  split at q
  case h_2 => exact q.elim
  case h_1 hs =>
  obtain ⟨res, e, k⟩ := Cn.of q
  obtain ⟨b, e3, rfl⟩ := map_some e
  obtain ⟨o, h1, rfl, hc, dd, fs, rfl, hd, hk, hr⟩ := rel.at_ i _ hs
  obtain ⟨h2, h3⟩ := ht _ _ e3
  exact ⟨.ref a, h1, c.cls x.n, dd, fs, vc, cv, b, hc, rfl, h2, rel.sm _ _ hd, rfl, hv, h3, k _ _ _ rel (LeS.refl σ w) (.bl b)⟩
noncomputable def tyOf : D → Option String
  | .non => some "NoneType"
  | .bl _ => some "bool"
  | .int _ => some "int"
  | .str _ => some "str"
  | .lst _ => some "list"
  | .tup _ => some "tuple"
  | .scr _ => none
  | .dic _ => some "dict"
  | .dit _ => some "dict"
  | _ => none
theorem tyOf_ac {d : D} {n : String} (rel : RelE c σ w) (h : AcR c w v d) (e : tyOf d = some n) : TyX c.K w.H v (.type n) := by
  cases d with
  | non => cases e; rw [ac_non h]; exact .base .non
  | bl b => cases e; rw [ac_bl h]; exact .base (.bl b)
  | int i => cases e; rw [ac_int h]; exact .base (.int i)
  | str z => cases e; rw [ac_str h]; exact .base (.str z)
  | lst ds => cases e; obtain ⟨p, vs, rfl, h1, _⟩ := ac_lst rel h; exact .base (.lst h1)
  | tup ds => cases e; obtain ⟨p, vs, rfl, h1, _⟩ := ac_tup rel h; exact .base (.tup h1)
  | dic ds => cases e; obtain ⟨p, vs, rfl, h1, _⟩ := ac_dic rel h; exact .base (.dK h1)
  | dit ds => cases e; obtain ⟨p, vs, rfl, h1, _⟩ := ac_dit rel h; exact .base (.dT h1)
  | _ => cases e
/-- isinstance(x, T), T a built-in class -/
noncomputable def fIsi : List D → Option Val
  | [d, .ty T] => (tyOf d).bind fun n => (kitB n T).bind bB
  | _ => none
theorem cb_isi : CbS c (rIsi c.K) fIsi := by
  intro σ w vs ds res Q rel ax e o
  unfold fIsi at e
  split at e
  · next d T =>
    obtain ⟨n, h1, e⟩ := obn e
    obtain ⟨b, h2, e⟩ := obn e
    cases e
    obtain ⟨v1, v2, rfl, a1, a2⟩ := acs2 ax
    rw [ac_ty a2]
    exact ⟨v1, .ty T, _, _, b, rfl, .ty T, tyOf_ac rel a1 h1, kit_ty h2, o.fz rel (.bl b)⟩
  · cases e
theorem s_ty (n : String) : SimE c E (tC (.ty n)) (mC (.ty n)) := s_c fun _ => .ty n
end
end MR
namespace L2
open PySem PySem.Spec PyProof.Rows
noncomputable def rMulS : V → V → Hp → VK → Prop := fun x y H Q => ∃ (z : Str) (k : Nat), x = .str z ∧ y = .int (k : Int) ∧ k ≤ 1000 ∧ z.length ≤ 1000 ∧ Q (.str ⟨(List.replicate k z.cps.toList).flatten.toArray⟩) H
theorem rep_fold (its : List Nat) : ∀ (k : Nat) (acc : List Nat), List.foldl (fun x1 x2 => x1 ++ x2) acc.toArray (List.replicate k its.toArray) = (acc ++ (List.replicate k its).flatten).toArray
  | 0, acc => by simp
  | k + 1, acc => by
    rw [List.replicate_succ, List.foldl_cons, show acc.toArray ++ its.toArray = (acc ++ its).toArray by simp, rep_fold its k, List.replicate_succ, List.flatten_cons, List.append_assoc]
theorem rep_len (its : List Nat) : ∀ k : Nat, ((List.replicate k its).flatten).length = its.length * k
  | 0 => by simp
  | k + 1 => by
    rw [List.replicate_succ, List.flatten_cons, List.length_append, rep_len its k, Nat.mul_succ, Nat.add_comm]
theorem op_mulS {X : Cx} : OpR X (binaryOp .Mult) rMulS := by
  intro pins s σ H x y v u Q I rx ry h
  obtain ⟨z, k, rfl, rfl, hk, hz, q⟩ := h
  obtain ⟨t, rfl⟩ := rx
  obtain ⟨t2, rfl⟩ := ry
  have fin : ∀ (r : Str) tk tt, r = ⟨(List.replicate k z.cps.toList).flatten.toArray⟩ → EP X pins σ Q (.str r tt) { s with toks := tk } := fun r tk tt e => by
    subst e
    exact ⟨V.str ⟨(List.replicate k z.cps.toList).flatten.toArray⟩, H, I.tok tk, (show ∃ t', Value.str _ tt = Value.str _ t' from ⟨tt, rfl⟩), q⟩
  have prod : z.length * k ≤ 1000000 := Nat.mul_le_mul hz hk
  have fl := rep_fold z.cps.toList k []
  rw [List.nil_append, show z.cps.toList.toArray = z.cps by simp] at fl
  refine PySem.P.mul_str ?_ (fun h1 _ => ?_) (fun h1 _ => ?_) ?_
  · rw [decide_eq_false (show ¬ (k : Int) < -(2 ^ 63) by omega), decide_eq_false (show ¬ (k : Int) ≥ 2 ^ 63 by omega)]
    rfl
  · have h2 : (1000 : Int) ≤ (2 ^ 63 - 1) / (k : Int) := by
      rw [Int.le_ediv_iff_mul_le (by omega)]
      omega
    omega
  · show decide (_ > sizeLine) = false
    rw [decide_eq_false]
    rw [sizeLine_eq, Int.toNat_natCast]
    omega
  · by_cases h1 : (k : Int) < 1
    · rw [if_pos h1]
      have hk0 : k = 0 := by omega
      subst hk0
      exact ⟨by decide, fin _ _ _ rfl⟩
    · rw [if_neg h1]
      by_cases h2 : ((k : Int) == 1 || z.length == 0) = true
      · rw [if_pos h2]
        refine fin z s.toks t ?_
        rcases Bool.or_eq_true _ _ ▸ h2 with h3 | h3
        · have hk1 : k = 1 := by
            have := of_decide_eq_true (show decide ((k : Int) = 1) = true from h3)
            omega
          subst hk1
          cases z
          simp
        · have e : z.cps = #[] := Array.size_eq_zero_iff.mp (show z.cps.size = 0 from of_decide_eq_true h3)
          obtain ⟨c⟩ := z
          cases e
          simp
      · rw [if_neg h2]
        refine ⟨?_, fin _ _ _ ?_⟩
        · have e2 : (⟨List.foldl (fun x1 x2 => x1 ++ x2) #[] (List.replicate (k : Int).toNat z.cps)⟩ : Str) = ⟨(List.replicate k z.cps.toList).flatten.toArray⟩ := by
            rw [Int.toNat_natCast]
            exact congrArg Str.mk fl
          rw [e2]
          show (List.replicate k z.cps.toList).flatten.toArray.size ≤ sizeLine
          rw [List.size_toArray, rep_len, sizeLine_eq]
          have e3 : z.cps.toList.length = z.length := by simp [Str.length]
          rw [e3]
          omega
        · rw [Int.toNat_natCast]
          exact congrArg Str.mk fl
end L2
set_option autoImplicit false
namespace MR
open PySem PySem.Spec PyProof.Rows L2
section
variable {X : Cx} {K : PySem.W.Frag} {c : Ctx}
noncomputable def rAddI : R2 := rI0 fun i j => .int (i + j)
noncomputable def rAddT : R2 := fun x y H Q => ∃ i j, x = .str i ∧ y = .str j ∧ i.length + j.length ≤ sizeLine ∧ Q (.str (i ++ j)) H
noncomputable def rAddA (K : PySem.W.Frag) : R2 := fun x y H Q => rAddI x y H Q ∨ rAddT x y H Q ∨ rCat x y H Q ∨ rCatT K x y H Q
theorem k_add (h : X.K = K) : OpR X (binaryOp .Add) (rAddA K) := by
  subst h
  exact op_or op_add (op_or op_add_str (op_or op_cat op_catT))
noncomputable def fAddA (a b : D) : Option Val := orO (fAdd a b) (orO (fAddS a b) (orO (fCat a b) (fCatT a b)))
theorem o_addA : OpS c (rAddA c.K) fAddA := o_add.or (o_addS.or (o_cat.or o_catT))
noncomputable def rMulI : R2 := rI CMulW fun i j => .int (i * j)
noncomputable def rMulA : R2 := fun x y H Q => rMulI x y H Q ∨ rRep x y H Q
theorem k_mul : OpR X (binaryOp .Mult) rMulA := op_or op_mulW op_rep
noncomputable def fMulA (a b : D) : Option Val := orO (fMul a b) (fRep a b)
theorem o_mulA : OpS c rMulA fMulA := o_mul.or o_rep
noncomputable def scalD : D → D → Option Bool
  | .int i, .int j => some (decide (i = j))
  | .str i, .str j => some (decide (i = j))
  | .bl i, .bl j => some (decide (i = j))
  | .non, .non => some true
  | .non, .int _ => some false
  | .int _, .non => some false
  | .non, .str _ => some false
  | .str _, .non => some false
  | .non, .bl _ => some false
  | .bl _, .non => some false
  | .int _, .str _ => some false
  | .str _, .int _ => some false
  | .bl _, .str _ => some false
  | .str _, .bl _ => some false
  | _, _ => none
theorem scalD_ok {w : Wd} {x y : V} {a b : D} {t : Bool} (ax : AcR c w x a) (ay : AcR c w y b) (h : scalD a b = some t) : scal x y = true ∧ decide (x = y) = t := by
  unfold scalD at h
  split at h
  · cases h; rw [ac_int ax, ac_int ay]; exact ⟨rfl, by simp⟩
  · cases h; rw [ac_str ax, ac_str ay]; exact ⟨rfl, by simp⟩
  · cases h; rw [ac_bl ax, ac_bl ay]; exact ⟨rfl, by simp⟩
  · cases h; rw [ac_non ax, ac_non ay]; exact ⟨rfl, rfl⟩
  · cases h; rw [ac_non ax, ac_int ay]; exact ⟨rfl, rfl⟩
  · cases h; rw [ac_int ax, ac_non ay]; exact ⟨rfl, rfl⟩
  · cases h; rw [ac_non ax, ac_str ay]; exact ⟨rfl, rfl⟩
  · cases h; rw [ac_str ax, ac_non ay]; exact ⟨rfl, rfl⟩
  · cases h; rw [ac_non ax, ac_bl ay]; exact ⟨rfl, rfl⟩
  · cases h; rw [ac_bl ax, ac_non ay]; exact ⟨rfl, rfl⟩
  · cases h; rw [ac_int ax, ac_str ay]; exact ⟨rfl, rfl⟩
  · cases h; rw [ac_str ax, ac_int ay]; exact ⟨rfl, rfl⟩
  · cases h; rw [ac_bl ax, ac_str ay]; exact ⟨rfl, rfl⟩
  · cases h; rw [ac_str ax, ac_bl ay]; exact ⟨rfl, rfl⟩
  · cases h
noncomputable def fEqS (a b : D) : Option Val := (scalD a b).bind bB
noncomputable def fNeS (a b : D) : Option Val := (scalD a b).bind fun t => bB (!t)
theorem o_eqS : OpS c rEq fEqS := by
  intro σ w x y a b res Q rel ax ay e o
  obtain ⟨t, e2, e1⟩ := obn e
  cases e1
  obtain ⟨h1, rfl⟩ := scalD_ok ax ay e2
  exact ⟨h1, o.fz rel (.bl _)⟩
theorem o_neS : OpS c rNe fNeS := by
  intro σ w x y a b res Q rel ax ay e o
  obtain ⟨t, e2, e1⟩ := obn e
  cases e1
  obtain ⟨h1, rfl⟩ := scalD_ok ax ay e2
  exact ⟨h1, o.fz rel (.bl _)⟩
noncomputable def rEqA (K : PySem.W.Frag) : R2 := fun x y H Q => rEq x y H Q ∨ rEqD K x y H Q
noncomputable def rNeA (K : PySem.W.Frag) : R2 := fun x y H Q => rNe x y H Q ∨ rNeD K x y H Q
theorem k_eq (h : X.K = K) (hu : X.A.units + 64 < cLine) : OpR X (compareOp .Eq) (rEqA K) := by
  subst h
  exact op_or op_eq (op_eqD hu)
theorem k_ne (h : X.K = K) (hu : X.A.units + 64 < cLine) : OpR X (compareOp .NotEq) (rNeA K) := by
  subst h
  exact op_or op_ne (op_neD hu)
noncomputable def fEqA (a b : D) : Option Val := orO (fEqS a b) (fEq a b)
noncomputable def fNeA (a b : D) : Option Val := orO (fNeS a b) (fNe a b)
theorem o_eqA : OpS c (rEqA c.K) fEqA := o_eqS.or o_eqD
theorem o_neA : OpS c (rNeA c.K) fNeA := o_neS.or o_neD
noncomputable def rLtI : R2 := rI0 fun i j => .bl (decide (i < j))
noncomputable def rLtT : R2 := fun x y H Q => ∃ i j, x = .str i ∧ y = .str j ∧ Q (.bl (decide (i.cps.toList < j.cps.toList))) H
noncomputable def rLtA : R2 := fun x y H Q => rLtI x y H Q ∨ rLtT x y H Q
theorem k_lt : OpR X (compareOp .Lt) rLtA := op_or op_lt op_lt_str
noncomputable def fLtA (a b : D) : Option Val := orO (fLt a b) (fLtS a b)
theorem o_ltA : OpS c rLtA fLtA := o_lt.or o_ltS
noncomputable def rLeI : R2 := rI0 fun i j => .bl (decide (i ≤ j))
noncomputable def rGtI : R2 := rI0 fun i j => .bl (decide (j < i))
noncomputable def rGeI : R2 := rI0 fun i j => .bl (decide (j ≤ i))
theorem k_le : OpR X (compareOp .LtE) rLeI := op_le
theorem k_gt : OpR X (compareOp .Gt) rGtI := op_gt
theorem k_ge : OpR X (compareOp .GtE) rGeI := op_ge
theorem o_leI : OpS c rLeI fLe := o_le
theorem o_gtI : OpS c rGtI fGt := o_gt
theorem o_geI : OpS c rGeI fGe := o_ge
noncomputable def rInT : R2 := fun x y H Q => ∃ (n : Nat) (z : Str), x = .str ⟨#[n]⟩ ∧ y = .str z ∧ Q (.bl (decide (n ∈ z.cps.toList))) H
noncomputable def rInA (K : PySem.W.Frag) : R2 := fun x y H Q => rInT x y H Q ∨ rIn K false x y H Q
theorem k_in (h : X.K = K) : OpR X (compareOp .In) (rInA K) := by
  subst h
  exact op_or op_in_sign op_in_seq
noncomputable def fInA (a b : D) : Option Val := orO (fInS a b) (fIn false a b)
theorem o_inA : OpS c (rInA c.K) fInA := o_inS.or (o_in false)
noncomputable def rSubI : R2 := rI0 fun i j => .int (i - j)
noncomputable def rDivI : R2 := rI CDivW fun i j => .int (i / j)
noncomputable def rModI : R2 := rI (fun _ j => 0 < j) fun i j => .int (i % j)
noncomputable def rPowI : R2 := rI CPow fun i j => .int (i ^ j.toNat)
theorem k_sub : OpR X (binaryOp .Sub) rSubI := op_sub
theorem k_div : OpR X (binaryOp .FloorDiv) rDivI := op_fdivW
theorem k_mod : OpR X (binaryOp .Mod) rModI := op_mod
theorem k_pow : OpR X (binaryOp .Pow) rPowI := op_pow
theorem o_subI : OpS c rSubI fSub := o_sub
theorem o_divI : OpS c rDivI fDiv := o_div
theorem o_modI : OpS c rModI fMod := o_mod
theorem o_powI : OpS c rPowI fPow := o_pow
noncomputable def rNegI : V → Hp → VK → Prop := rU fun i => .int (-i)
theorem k_neg : UnR X (unaryOp .USub) rNegI := un_neg
theorem u_negI : UnS c rNegI fNeg := u_neg
noncomputable def rIsN : R2 := fun x y H Q => y = .non ∧ Q (.bl (decide (x = .non))) H
noncomputable def rIsNotN : R2 := fun x y H Q => y = .non ∧ Q (.bl (!decide (x = .non))) H
theorem k_isN : OpR X (compareOp .Is) rIsN := op_isN
theorem k_notN : OpR X (compareOp .IsNot) rIsNotN := op_notN
theorem o_isNI : OpS c rIsN fIsN := o_isN
theorem o_notNI : OpS c rIsNotN fNotN := o_notN
theorem k_ix (h : X.K = K) : IxR X (rIx K) := h ▸ ix_seq
theorem k_sl (h : X.K = K) : SlR X (rSlA K) := sl_all h
noncomputable def rLenA (K : PySem.W.Frag) : List V → Hp → VK → Prop := fun xs H Q => rLenSeq K xs H Q ∨ rLenStr xs H Q
theorem k_len (h : X.K = K) : CallR X (.builtin "len") (rLenA K) := by
  subst h
  exact cb_or (f := .builtin "len") call_len_seq call_len_str
noncomputable def fLenA (ds : List D) : Option Val := orO (fLen ds) (fLenS ds)
theorem cb_lenA : CbS c (rLenA c.K) fLenA := cb_lenSeq.or cb_lenStr
noncomputable def rAbsI : List V → Hp → VK → Prop := fun xs H Q => ∃ i, xs = [.int i] ∧ Q (.int (if i < 0 then -i else i)) H
theorem k_abs : CallR X (.builtin "abs") rAbsI := call_abs
noncomputable def fAbs : List D → Option Val := fI1 fun i => if i < 0 then -i else i
theorem cb_absI : CbS c rAbsI fAbs := cb_abs
noncomputable def rIntA : List V → Hp → VK → Prop := fun xs H Q => (∃ i, xs = [.int i] ∧ Q (.int i) H) ∨ ∃ k, xs = [.bl k] ∧ Q (.int (if k then 1 else 0)) H
theorem k_int : CallR X (.type "int") rIntA := call_int1
theorem cb_intA : CbS c rIntA fInt := cb_int
theorem k_sum (h : X.K = K) (hc : X.calm = true) : CallR X (.builtin "sum") (rSum K) := h ▸ cr_sum hc
theorem k_min (h : X.K = K) (hc : X.calm = true) : CallR X (.builtin "min") (rMin K) := h ▸ cr_min hc
theorem k_all (h : X.K = K) (hc : X.calm = true) : CallR X (.builtin "all") (rAll K) := h ▸ cr_all hc
theorem k_isi (h : X.K = K) : CallR X (.builtin "isinstance") (rIsi K) := h ▸ call_isi
theorem k_truth {a : Expr} {ta : TE} (h : X.K = K) (ha : PE X a ta) (he : ∀ whole, isTrue a X.env whole = (do let v ← whole; standAt a.pos; holding [v] (truthy v)) := by intro _; rfl) :
    PT X a (fun σ H Q => ta σ H fun x H' => ∃ k, TruV K x H' k ∧ Q k H') := h ▸ pt_truth ha he
noncomputable def iSeq (K : PySem.W.Frag) (te : TE) : TI := fun σ H R => iList K te σ H R ∨ iTup K te σ H R ∨ iStr te σ H R
theorem k_iter {tg e : Expr} {te : TE} (h : X.K = K) (he : PE X e te) : PI X tg e (iSeq K te) := by
  subst h
  exact pi_or (pi_list he) (pi_or (pi_tup he) (pi_str he))
noncomputable def mSeqI (m : En → R Val) : En → R Itr := mOrI (mIter m) (mOrI (mIterT m) (mIterS m))
theorem si_seq {E : Option (L2.St → XK)} {te : TE} {m : En → R Val} (h : SimE c E te m) : SimI c E (iSeq c.K te) (mSeqI m) := si_or (si_list h) (si_or (si_tup h) (si_str h))
end
end MR
namespace MR
open PySem PySem.Spec PyProof.Rows L2
section
variable {X : Cx} {K : PySem.W.Frag} {c : Ctx} {E : Option (L2.St → XK)}
noncomputable def mYes (e : En) : R Bool := .ok true e
theorem s_yes : SimT c E tYes mYes := fun σ w Q rel q => q w.F w.H rel (LeS.refl σ w)
theorem o_ipSub : OpS c (ipI fun i j => i - j) fSub := o_sub
theorem ClsOk.nil {f : Str} : ClsOk c [] f := fun _ h => absurd h List.not_mem_nil
theorem ClsOk.cons {n : Str} {ns : List Str} {f : Str} (h : Cls c.K (c.cls n)) (h2 : NoAttr c.K (c.cls n) f) (t : ClsOk c ns f) : ClsOk c (n :: ns) f := fun m hm => by
  rcases List.mem_cons.mp hm with rfl | hm
  · exact ⟨h, h2⟩
  · exact t m hm
noncomputable def rJoin (K : PySem.W.Frag) : V → List V → Hp → VK → Prop := fun x xs H Q => ∃ a p, ∃ ys : List Str, x = .str a ∧ xs = [.ref p] ∧ (SqL K H p (ys.map V.str) ∨ SqT K H p (ys.map V.str)) ∧
      (ys.map (·.length)).sum + ys.length * a.length ≤ 16777216 ∧ Q (.str (Txt.join a ys)) H
theorem k_join {o e : Expr} {to te : TE} {apos pos : Pos} (h : X.K = K) (ho : PE X o to) (he : PE X e te) (hs : starEach [e] X.env = [(false, eval e X.env)] := by rfl) (hbase : attributeBase o "join" X.env (eval o X.env) = eval o X.env := by rfl) (hline : (apos.endLine == pos.line) = true := by rfl) :
    PE X (.Call (.Attribute o "join" apos) [e] [] pos) (tM1 (rJoin K) to te) := h ▸ pe_join ho he hs hbase hline
noncomputable def strsD : List D → Option (List Str)
  | [] => some []
  | .str z :: ds => (strsD ds).map fun zs => z :: zs
  | _ :: _ => none
theorem strsD_rep {F : Hp} : ∀ {ds : List D} {vs : List V} {zs : List Str}, Reps c.b F vs ds → strsD ds = some zs → vs = zs.map V.str
  | [], _, _, r, e => by
    cases r
    cases e
    rfl
  | .str z :: ds, _, _, r, e => by
    cases r with
    | cons h t =>
      obtain ⟨zs, e1, rfl⟩ := map_some (show (strsD ds).map _ = _ from e)
      cases h
      rw [strsD_rep t e1]
      rfl
  | .non :: _, _, _, _, e => by cases e
  | .bl _ :: _, _, _, _, e => by cases e
  | .int _ :: _, _, _, _, e => by cases e
  | .lst _ :: _, _, _, _, e => by cases e
  | .tup _ :: _, _, _, _, e => by cases e
  | .dic _ :: _, _, _, _, e => by cases e
  | .obj _ _ :: _, _, _, _, e => by cases e
  | .scr _ :: _, _, _, _, e => by cases e
  | .dit _ :: _, _, _, _, e => by cases e
  | .ktp _ :: _, _, _, _, e => by cases e
  | .ty _ :: _, _, _, _, e => by cases e
  | .cls _ :: _, _, _, _, e => by cases e
noncomputable def mJoin (mo me : En → R Val) (e : En) : R Val := (mP mo e).bind fun a e1 => (R.of ((con a e1).bind fun d => match d with
  | .str z => some z
  | _ => none) e1).bind fun z _ => (mP me e1).bind fun b e2 => R.of ((con b e2).bind fun y => (seqOf y).bind fun ds => (strsD ds).bind fun zs => gdO ((zs.map (·.length)).sum + zs.length * z.length ≤ 16777216) (.fz (.str (Txt.join z zs)))) e2
theorem s_join {to te : TE} {mo me : En → R Val} (ho : SimE c E to mo) (he : SimE c E te me) : SimE c E (tM1 (rJoin c.K) to te) (mJoin mo me) := by
  intro σ w Q rel q
  refine ho.p.to rel (LeS.refl σ w) q fun a w1 x r1 l1 na v1 q1 => ?_
  obtain ⟨z, hz, q3⟩ := Cn.ofB q1
  obtain ⟨d, hd, hz⟩ := obn hz
  cases d with
  | str z1 =>
    cases hz
    have ac := ac_str (con_ok r1 na v1 hd)
    refine ⟨⟨_, ac⟩, he.p.to r1 l1 q3 fun b w2 y r2 l2 nb v2 q2 => ?_⟩
    obtain ⟨res, e, k⟩ := Cn.of q2
    obtain ⟨yd, e1, e⟩ := obn e
    obtain ⟨ds, e2, e⟩ := obn e
    obtain ⟨zs, e3, e⟩ := obn e
    obtain ⟨hg, rfl⟩ := gdO_ok e
    obtain ⟨p, vs, rfl, hs, rs⟩ := seq_ok r2 (con_ok r2 nb v2 e1) e2
    rw [strsD_rep rs e3] at hs
    exact ⟨_, p, zs, ac, rfl, hs, hg, (Out.at k (l1.trans l2)).fz r2 (.str _)⟩
  | _ => cases hz
noncomputable def rCntT : V → List V → Hp → VK → Prop := fun x xs H Q => ∃ a b, x = .str a ∧ xs = [.str b] ∧ Q (.int (Txt.count a b)) H
theorem k_cntT : MtR X "str.count" rCntT := mt_count
noncomputable def fCntT : D → List D → Option Val
  | .str a, [.str b] => some (vI (Txt.count a b))
  | _, _ => none
theorem rd_cntT : RdS c rCntT fCntT := by
  intro σ w x a vs ds res Q rel ax as e o
  unfold fCntT at e
  split at e
  · cases e
    obtain ⟨v, rfl, h⟩ := acs1 as
    exact ⟨_, _, ac_str ax, by rw [ac_str h], o.fz rel (.int _)⟩
  · cases e
theorem k_cntB (h : X.K = K) : MtR X "list.count" (rCntB K) := h ▸ mt_bcount
theorem k_cntI (h : X.K = K) : MtR X "list.count" (rCntI K) := h ▸ mt_lcount
noncomputable def rCntL (K : PySem.W.Frag) : V → List V → Hp → VK → Prop := fun x xs H Q => rCntB K x xs H Q ∨ rCntI K x xs H Q
theorem k_cntL (h : X.K = K) : MtR X "list.count" (rCntL K) := MtR.or (k_cntB h) (k_cntI h)
noncomputable def fCntB : D → List D → Option Val
  | d, [.bl b] => (boolsOf d).bind fun bs => some (vI (bs.count b : Nat))
  | _, _ => none
noncomputable def fCntI : D → List D → Option Val
  | d, [.int b] => (nums d).bind fun bs => some (vI (bs.count b : Nat))
  | _, _ => none
noncomputable def fCntL (a : D) (ds : List D) : Option Val := orO (fCntB a ds) (fCntI a ds)
theorem rd_cntL : RdS c (rCntL c.K) fCntL := by
  intro σ w x a vs ds res Q rel ax as e o
  have e : orO (fCntB a ds) (fCntI a ds) = some res := e
  cases hb : fCntB a ds with
  | some r =>
    rw [hb] at e
    cases e
    refine .inl ?_
    unfold fCntB at hb
    split at hb
    · obtain ⟨bs, h1, h2⟩ := obn hb
      cases h2
      obtain ⟨v, rfl, h⟩ := acs1 as
      obtain ⟨p, rfl, hs⟩ := bools_ok rel ax h1
      exact ⟨p, bs, _, rfl, by rw [ac_bl h], hs, o.fz rel (.int _)⟩
    · cases hb
  | none =>
    rw [hb] at e
    refine .inr ?_
    have e : fCntI a ds = some res := e
    unfold fCntI at e
    split at e
    · obtain ⟨bs, h1, h2⟩ := obn e
      cases h2
      obtain ⟨v, rfl, h⟩ := acs1 as
      obtain ⟨p, rfl, hs⟩ := nums_ok rel ax h1
      exact ⟨p, bs, _, rfl, by rw [ac_int h], hs, o.fz rel (.int _)⟩
    · cases e
end
end MR
set_option autoImplicit false
namespace MR
open PySem PySem.Spec PyProof.Rows L2
theorem tabGet_cons {a n : Str} {b b' : Bool} {t : Tab} (h : tabGet ((a, b) :: t) n = some b') : (a = n ∧ b = b') ∨ tabGet t n = some b' := by
  unfold tabGet at h ⊢
  rw [List.lookup_cons] at h
  cases e : (n == a) with
  | true =>
    rw [e] at h
    exact .inl ⟨(beq_iff_eq.mp e).symm, Option.some.inj h⟩
  | false =>
    rw [e] at h
    exact .inr h
end MR
set_option autoImplicit false
namespace MR
open PySem PySem.Spec PyProof.Rows L2
end MR
set_option autoImplicit false
namespace MR
open PySem PySem.Spec PyProof.Rows L2
noncomputable def sortI (is : List Int) : List Int := is.mergeSort fun a b => decide (a ≤ b)
theorem sortI_unique {is js : List Int} (hp : js.Perm is) (hs : js.Pairwise (· ≤ ·)) : js = sortI is := by
  refine List.Perm.eq_of_pairwise (le := (· ≤ ·)) (fun a b _ _ h1 h2 => Int.le_antisymm h1 h2) hs ?_ (hp.trans (List.mergeSort_perm _ _).symm)
  refine (List.pairwise_mergeSort (le := fun a b : Int => decide (a ≤ b)) (fun a b d h1 h2 => ?_) (fun a b => ?_) is).imp fun h => of_decide_eq_true h
  · have := of_decide_eq_true h1
    have := of_decide_eq_true h2
    exact decide_eq_true (by omega)
  · rcases Int.le_total a b with h | h
    · simp [h]
    · simp [h]
noncomputable def lexL (p q : Int × Int) : Bool := decide (p.1 < q.1 ∨ (p.1 = q.1 ∧ p.2 ≤ q.2))
noncomputable def sortP (ps : List (Int × Int)) : List (Int × Int) := ps.mergeSort lexL
theorem sortP_unique {ps qs : List (Int × Int)} (hp : qs.Perm ps) (hs : qs.Pairwise fun p q => lexL p q = true) : qs = sortP ps := by
  refine List.Perm.eq_of_pairwise (le := fun p q => lexL p q = true) (fun a b _ _ h1 h2 => ?_) hs ?_ (hp.trans (List.mergeSort_perm _ _).symm)
  · have h1 := of_decide_eq_true h1
    have h2 := of_decide_eq_true h2
    refine Prod.ext ?_ ?_ <;> omega
  · refine List.pairwise_mergeSort (le := lexL) (fun a b d h1 h2 => ?_) (fun a b => ?_) ps
    · have h1 := of_decide_eq_true h1
      have h2 := of_decide_eq_true h2
      exact decide_eq_true (by omega)
    · unfold lexL
      rw [Bool.or_eq_true, decide_eq_true_eq, decide_eq_true_eq]
      omega
noncomputable def pairsD : List D → Option (List (Int × Int))
  | [] => some []
  | .tup [.int i, .int j] :: ds => (pairsD ds).map fun ps => (i, j) :: ps
  | _ :: _ => none
noncomputable def pairD (p : Int × Int) : D := .tup [.int p.1, .int p.2]
noncomputable def fSortI (ds : List D) : Option Val := match ds with
  | [d] => (nums d).map fun is => .new (.lst ((sortI is).map .int))
  | _ => none
noncomputable def fSortP (ds : List D) : Option Val := match ds with
  | [.lst es] => (pairsD es).map fun ps => .new (.lst ((sortP ps).map pairD))
  | _ => none
/-- the pair that stands at a reference -/
noncomputable def kAt (H : Hp) : V → Int × Int
  | .ref t => match H t with
    | some (.tup [.int i, .int j]) => (i, j)
    | _ => (0, 0)
  | _ => (0, 0)
section
variable {c : Ctx} {E : Option (L2.St → XK)} {σ : L2.St} {w : Wd} {ta : TE} {ma : En → R Val}
theorem pairs_rep {F H : Hp} (sm : Same F H) : ∀ {es : List D} {vs : List V} {ps : List (Int × Int)}, Reps c.b F vs es → pairsD es = some ps → vs.map (kAt H) = ps ∧ ∀ v ∈ vs, ∃ t, v = .ref t ∧ F t = some (.tup [.int (kAt H v).1, .int (kAt H v).2])
  | [], _, _, r, e => by
    cases r
    cases e
    exact ⟨rfl, fun _ h => absurd h List.not_mem_nil⟩
  | d :: es, _, _, r, e => by
    cases r with
    | cons h t =>
      unfold pairsD at e
      split at e
      · next h0 => cases h0
      · next i j ds h0 =>
        cases h0
        obtain ⟨qs, e1, rfl⟩ := map_some e
        obtain ⟨h1, h2⟩ := pairs_rep sm t e1
        cases h with
        | tup eF r2 =>
          cases r2 with
          | cons ri t2 => cases t2 with
            | cons rj t3 =>
              cases t3
              cases ri
              cases rj
              next p =>
              have hk : kAt H (.ref p) = (i, j) := by
                show (match H p with
                  | some (.tup [.int i, .int j]) => (i, j)
                  | _ => (0, 0)) = _
                rw [sm _ _ eF]
              refine ⟨by rw [List.map_cons, h1, hk], fun v hv => ?_⟩
              rcases List.mem_cons.mp hv with rfl | hv
              · rw [hk]
                exact ⟨p, rfl, eF⟩
              · exact h2 v hv
      · cases e
theorem reps_map {F : Hp} {f : V → D} : ∀ {vs : List V}, (∀ v ∈ vs, Rep c.b F v (f v)) → Reps c.b F vs (vs.map f)
  | [], _ => .nil
  | v :: vs, h => .cons (h v List.mem_cons_self) (reps_map fun u hu => h u (List.mem_cons_of_mem _ hu))
theorem cb_sortI : CbS c (rSortedI c.K) fSortI := by
  intro σ w vs ds res Q rel ax e o
  unfold fSortI at e
  split at e
  · next d =>
    obtain ⟨is, h1, rfl⟩ := map_some e
    obtain ⟨v, rfl, h⟩ := acs1 ax
    obtain ⟨p, rfl, hs⟩ := nums_ok rel h h1
    refine ⟨p, is, rfl, hs, fun ns q hp hw nq => ?_⟩
    rw [sortI_unique hp hw]
    exact o.newL rel (reps_ints _) nq
  · cases e
theorem cb_sortP : CbS c (rSortedPO c.K) fSortP := by
  intro σ w vs ds res Q rel ax e o
  unfold fSortP at e
  split at e
  · next es =>
    obtain ⟨ps, h1, rfl⟩ := map_some e
    obtain ⟨v, rfl, h⟩ := acs1 ax
    obtain ⟨p, ws, rfl, hs, r⟩ := ac_lst rel h
    obtain ⟨hk, hv⟩ := pairs_rep rel.sm r h1
    refine ⟨p, ws, kAt w.H, rfl, .inl (.inl hs), fun x hx => ?_, fun ys q hsrt hstb nq => ?_⟩
    · obtain ⟨t, e1, e2⟩ := hv x hx
      exact ⟨t, e1, rel.sm _ _ e2⟩
    · have e2 : ys.map (kAt w.H) = sortP ps := by
        refine sortP_unique ?_ ?_
        · rw [← hk]
          exact hstb.perm.map _
        · rw [List.pairwise_map]
          refine List.Pairwise.imp ?_ hsrt
          intro x y hxy
          have := SrtO.lexB_no.mp hxy
          exact decide_eq_true (by omega)
      have r2 : Reps c.b w.F ys ((sortP ps).map pairD) := by
        rw [← e2, List.map_map]
        refine reps_map fun y hy => ?_
        obtain ⟨t, rfl, e3⟩ := hv y (hstb.perm.mem_iff.mp hy)
        exact .tup e3 (.cons (.int _) (.cons (.int _) .nil))
      exact o.newL rel r2 nq
  · cases e
noncomputable def rSortA (K : PySem.W.Frag) : List V → Hp → VK → Prop := fun xs H Q => rSortedI K xs H Q ∨ rSortedPO K xs H Q
theorem k_sorted {X : Cx} {K : PySem.W.Frag} (h : X.K = K) : CallR X (.builtin "sorted") (rSortA K) := by
  subst h
  exact cb_or (f := .builtin "sorted") cr_sortedI cr_sortedPO
noncomputable def fSorted (ds : List D) : Option Val := orO (fSortI ds) (fSortP ds)
theorem cb_sorted : CbS c (rSortA c.K) fSorted := cb_sortI.or cb_sortP
end
end MR
namespace MR
open PySem PySem.Spec PyProof.Rows L2
end MR
namespace MR
open PySem PySem.Spec PyProof.Rows L2
end MR
namespace MR
open PySem PySem.Spec PyProof.Rows L2
end MR
namespace MR
open PySem PySem.Spec PyProof.Rows L2
noncomputable def clsOf (t : List (Str × Addr)) (n : Str) : Addr := (t.lookup n).getD 0
theorem clsOf_hit {n : Str} {a : Addr} {t : List (Str × Addr)} : clsOf ((n, a) :: t) n = a := by
  unfold clsOf
  rw [List.lookup_cons, beq_self_eq_true]
  rfl
theorem clsOf_miss {n m : Str} {a : Addr} {t : List (Str × Addr)} (h : (n == m) = false) : clsOf ((m, a) :: t) n = clsOf t n := by
  unfold clsOf
  rw [List.lookup_cons, h]
end MR
namespace MR
open PySem PySem.Spec PyProof.Rows L2
end MR
set_option autoImplicit false
namespace MR
open PySem PySem.Spec PyProof.Rows L2
noncomputable def spLaw (K : PySem.W.Frag) : Sp := fun vs H Q _ => ∃ (a : Addr) (ns : List Int), vs = [.ref a] ∧ SqL K H a (ns.map V.int) ∧ ns.length ≤ 63 ∧ ∀ H', Q (.bl true) H'
/-- the law by its mirror -/
theorem law_ok {P : Program} {w : World} {mg : Str → Option Value} {base : Heap} {k : Nat} {f : Addr} {fd : FuncData} {c : Ctx0} {N : List Str} {m : En → O} (hN : 1 ≤ N.length)
    (G : FnOk P w c.K mg base CX0 k f fd ["script"] (spM c false 1 N m))
    (hm : ∀ ns : List Int, ns.length ≤ 63 → ∃ e, m (.fz (.scr ns) :: List.replicate (N.length - 1) .un) = .rt (.fz (.bl true)) e) : FnOk P w c.K mg base CX0 k f fd ["script"] (spLaw c.K) := by
  refine G.imp fun vs H Q E h => ?_
  obtain ⟨a, ns, rfl, hS, hl, q⟩ := h
  obtain ⟨e, he⟩ := hm ns hl
  have at_ : ∀ (i : Nat) (s : Sl), (Sl.fz (.scr ns) :: List.replicate (N.length - 1) .un)[i]? = some s → (i = 0 ∧ s = .fz (.scr ns)) ∨ (0 < i ∧ i < N.length ∧ s = .un) := fun i s h => by
    cases i with
    | zero => cases h; exact .inl ⟨rfl, rfl⟩
    | succ i =>
      have h : (List.replicate (N.length - 1) Sl.un)[i]? = some s := h
      rw [List.getElem?_replicate] at h
      split at h
      · cases h
        exact .inr ⟨by omega, by omega, rfl⟩
      · cases h
  have hst : (L2.start N [V.ref a]).length = N.length := by
    unfold L2.start
    rw [List.length_append, List.length_map, List.length_replicate]
    show 1 + (N.length - 1) = _
    omega
  refine ⟨rfl, H, Sl.fz (.scr ns) :: List.replicate (N.length - 1) .un, ⟨?_, fun i s hs => ?_, fun i j x y d1 x' y' d2 p h1 h2 e1 e2 => ?_, Same.refl H, fun j d hj => ?_⟩, fun i x y d hi => ?_, ?_⟩
  · show (L2.start N [V.ref a]).length = (Sl.fz (.scr ns) :: List.replicate (N.length - 1) .un).length
    rw [hst, List.length_cons, List.length_replicate]
    omega
  · rcases at_ i s hs with ⟨rfl, rfl⟩ | ⟨_, hi, rfl⟩
    · exact ⟨_, rfl, _, rfl, .scr hS⟩
    · exact ⟨_, List.getElem?_eq_getElem (by rw [hst]; exact hi), True.intro⟩
  · rcases at_ i _ h1 with ⟨_, z⟩ | ⟨_, _, z⟩ <;> cases z
  · rcases at_ j _ hj with ⟨_, z⟩ | ⟨_, _, z⟩ <;> cases z
  · rcases at_ i _ hi with ⟨_, z⟩ | ⟨_, _, z⟩ <;> cases z
  · rw [he]
    intro v σ' F' H' r l vt
    cases vt
    exact q _
end MR
set_option autoImplicit false
namespace MR
open PySem PySem.Spec PyProof.Rows L2
section
variable {c : Ctx} {X : Cx} {K : PySem.W.Frag}
noncomputable def fMulS : D → D → Option Val
  | .str z, .int k => gdO (0 ≤ k ∧ k ≤ 1000 ∧ z.length ≤ 1000) (.fz (.str ⟨(List.replicate k.toNat z.cps.toList).flatten.toArray⟩))
  | _, _ => none
theorem o_mulS : OpS c rMulS fMulS := by
  intro σ w x y a b res Q rel ax ay e o
  unfold fMulS at e
  split at e
  · next z k =>
    obtain ⟨hp, rfl⟩ := gdO_ok e
    refine ⟨z, k.toNat, ac_str ax, ?_, ?_, hp.2.2, o.fz rel (.str _)⟩
    · rw [ac_int ay, Int.toNat_of_nonneg hp.1]
    · have := hp.1
      have := hp.2.1
      omega
  · cases e
noncomputable def rMulB : R2 := fun x y H Q => rMulA x y H Q ∨ rMulS x y H Q
theorem k_mul2 : OpR X (binaryOp .Mult) rMulB := op_or k_mul op_mulS
noncomputable def fMulB (a b : D) : Option Val := orO (fMulA a b) (fMulS a b)
theorem o_mulB : OpS c rMulB fMulB := o_mulA.or o_mulS
end
end MR
set_option autoImplicit false
namespace MR
open PySem PySem.Spec PyProof.Rows L2
noncomputable def plainS : Option Sl → Bool
  | some .un => true
  | some (.fz _) => true
  | _ => false
noncomputable def backS (e0 e : En) : List Nat → En
  | [] => e
  | v :: vs => match e0[v]? with
    | some s => (backS e0 e vs).set v s
    | none => backS e0 e vs
noncomputable def mSave (vs : List Nat) (m : En → R Val) (e : En) : R Val := if (vs.all fun i => plainS e[i]?) = true then (match m (unS e vs) with
  | .st => .st
  | .ok a e2 => if unAll e2 vs = true then .ok a (backS e e2 vs) else .st
  | .er x e2 => if unAll e2 vs = true then .er x (backS e e2 vs) else .st) else .st
section
variable {c : Ctx} {E : Option (L2.St → XK)} {σ : L2.St} {w : Wd} {t : TE} {m : En → R Val}
theorem backS_len (e0 e : En) : ∀ vs : List Nat, (backS e0 e vs).length = e.length
  | [] => rfl
  | v :: vs => by
    unfold backS
    split
    · rw [List.length_set, backS_len e0 e vs]
    · exact backS_len e0 e vs
theorem backS_at (e0 e : En) : ∀ (vs : List Nat) (i : Nat) (s : Sl), (backS e0 e vs)[i]? = some s → (i ∈ vs ∧ e0[i]? = some s) ∨ e[i]? = some s
  | [], i, s, h => .inr h
  | v :: vs, i, s, h => by
    unfold backS at h
    split at h
    · next s0 h0 =>
      rcases get_set (env := backS e0 e vs) h with ⟨rfl, rfl⟩ | ⟨ne, h⟩
      · exact .inl ⟨List.mem_cons_self, h0⟩
      · exact (backS_at e0 e vs i s h).imp (fun z => ⟨List.mem_cons_of_mem _ z.1, z.2⟩) id
    · exact (backS_at e0 e vs i s h).imp (fun z => ⟨List.mem_cons_of_mem _ z.1, z.2⟩) id
theorem backS_out (e0 e : En) : ∀ (vs : List Nat) (i : Nat), i ∉ vs → (backS e0 e vs)[i]? = e[i]?
  | [], i, h => rfl
  | v :: vs, i, h => by
    have hv : v ≠ i := fun z => h (by rw [z]; exact List.mem_cons_self)
    unfold backS
    split
    · rw [List.getElem?_set_ne hv]
      exact backS_out e0 e vs i fun z => h (List.mem_cons_of_mem _ z)
    · exact backS_out e0 e vs i fun z => h (List.mem_cons_of_mem _ z)
theorem back_rel {vs : List Nat} {w : Wd} {F' H' : Hp} {e2 : En} (rel : RelE c σ w) (hp : ∀ i ∈ vs, plainS w.env[i]? = true) (hu : unAll e2 vs = true) (ff : Same w.F F') (r : RelE c σ ⟨F', H', e2⟩) :
    RelE c σ ⟨F', H', backS w.env e2 vs⟩ ∧ LeS σ ⟨F', H', e2⟩ σ ⟨F', H', backS w.env e2 vs⟩ := by
  have now : ∀ i ∈ vs, ∀ a b d, w.env[i]? ≠ some (.ow a b d) := fun i hi a b d z => by
    have := hp i hi
    rw [z] at this
    cases this
  have gow : ∀ (j : Nat) (x y : Bool) (d : D), (backS w.env e2 vs)[j]? = some (.ow x y d) → e2[j]? = some (.ow x y d) := fun j x y d z => by
    rcases backS_at w.env e2 vs j _ z with ⟨hj, h0⟩ | h0
    · exact absurd h0 (now j hj x y d)
    · exact h0
  have bow : ∀ (j : Nat) (x y : Bool) (d : D), e2[j]? = some (.ow x y d) → (backS w.env e2 vs)[j]? = some (.ow x y d) := fun j x y d z => by
    rw [backS_out _ _ _ _ fun hj => by rw [unAll_at hu hj] at z; cases z]
    exact z
  refine ⟨⟨r.len.trans (backS_len ..).symm, fun j s hj => ?_, fun j k x y d1 x' y' d2 p h1 h2 e1 e2' => r.ne j k _ _ _ _ _ _ p (gow _ _ _ _ h1) (gow _ _ _ _ h2) e1 e2', r.sm, fun j d z => r.pl j d (gow _ _ _ _ z)⟩,
    ⟨Same.refl _, fun _ _ _ h => h, fun _ _ _ => rfl, fun _ h => h, fun p ⟨j, x, d', hj, hp⟩ => .inl ⟨j, x, d', gow _ _ _ _ hj, hp⟩, fun p ⟨j, x, d', hj, hp⟩ => .inl ⟨j, x, d', gow _ _ _ _ hj, hp⟩, fun j x y d hj _ => ⟨d, bow _ _ _ _ hj, rfl, fun _ => rfl⟩⟩⟩
  rcases backS_at w.env e2 vs j s hj with ⟨hv, h0⟩ | h0
  · obtain ⟨o, h1, h2⟩ := rel.at_ j s h0
    refine ⟨o, h1, ?_⟩
    cases s with
    | un => exact True.intro
    | fz d =>
      obtain ⟨u, h3, h4⟩ := h2
      exact ⟨u, h3, h4.mono ff⟩
    | ex =>
      have := hp j hv
      rw [h0] at this
      cases this
    | ow x y d => exact absurd h0 (now j hv x y d)
  · exact r.at_ j s h0
theorem s_save {vs : List Nat} (h : SimE c E t m) : SimE c E t (mSave vs m) := by
  intro σ w Q rel q
  unfold mSave at q
  split at q
  case isFalse => exact q.elim
  case isTrue hp =>
  have hp : ∀ i ∈ vs, plainS w.env[i]? = true := List.all_eq_true.mp hp
  obtain ⟨r0, l0⟩ := rel.unS vs fun i hi a b d z => by
    have := hp i hi
    rw [z] at this
    cases this
  refine h σ ⟨w.F, w.H, unS w.env vs⟩ Q r0 ?_
  show Cn c E σ _ (m (unS w.env vs)) _
  cases hm : m (unS w.env vs) with
  | st => rw [hm] at q; exact q.elim
  | er x e2 =>
    rw [hm] at q
    have q : Cn c E σ w (if unAll e2 vs = true then R.er x (backS w.env e2 vs) else .st) (KV c σ w Q) := q
    split at q
    case isFalse => exact q.elim
    case isTrue hu =>
    have q : KE c E σ w x (backS w.env e2 vs) := q
    show KE c E σ _ x e2
    cases E with
    | none => exact q.elim
    | some E =>
      intro cls d F' H' r l xr
      obtain ⟨r3, l3⟩ := back_rel rel hp hu (l0.trans l).ff r
      exact q cls d F' H' r3 ((l0.trans l).trans l3) xr
  | ok a e2 =>
    rw [hm] at q
    have q : Cn c E σ w (if unAll e2 vs = true then R.ok a (backS w.env e2 vs) else .st) (KV c σ w Q) := q
    split at q
    case isFalse => exact q.elim
    case isTrue hu =>
    have q : KV c σ w Q a (backS w.env e2 vs) := q
    intro v F' H' r l vr
    obtain ⟨r3, l3⟩ := back_rel rel hp hu (l0.trans l).ff r
    refine q v F' H' r3 ((l0.trans l).trans l3) ?_
    cases a with
    | fz d => exact vr
    | «at» j => exact vr
    | new d =>
      obtain ⟨p, h1, h2, h3, h4, h5⟩ := vr
      refine ⟨p, h1, h2, h3, h4, fun i x y d' hi => ?_⟩
      rcases backS_at w.env e2 vs i _ hi with ⟨hj, h0⟩ | h0
      · have := hp i hj
        rw [h0] at this
        cases this
      · exact h5 i x y d' h0
end
end MR
namespace MR
open PySem PySem.Spec PyProof.Rows L2
section
variable {c : Ctx} {X : Cx} {K : PySem.W.Frag}
noncomputable def rLenDK : List V → Hp → VK → Prop := fun xs H Q => ∃ a kvs, xs = [V.ref a] ∧ H a = some (.dK kvs) ∧ Q (.int kvs.length) H
noncomputable def fLenDK (ds : List D) : Option Val := match ds with
  | [.dic kvs] => some (.fz (.int (kvs.length : Int)))
  | _ => none
theorem cb_lenDK : CbS c rLenDK fLenDK := by
  intro σ w vs ds res Q rel ax e o
  unfold fLenDK at e
  split at e
  · next kvs =>
    cases e
    obtain ⟨v, rfl, h⟩ := acs1 ax
    obtain ⟨p, kv2, rfl, h1, h2, h3⟩ := ac_dic rel h
    have hl : kv2.length = kvs.length := map_len h2
    exact ⟨p, kv2, rfl, h1, by rw [hl]; exact o.fz rel (.int _)⟩
  · cases e
noncomputable def rLenB (K : PySem.W.Frag) : List V → Hp → VK → Prop := fun xs H Q => rLenA K xs H Q ∨ rLenDK xs H Q
theorem k_len2 (h : X.K = K) : CallR X (.builtin "len") (rLenB K) := cb_or (f := .builtin "len") (k_len h) call_lenD
noncomputable def fLenB (ds : List D) : Option Val := orO (fLenA ds) (fLenDK ds)
theorem cb_lenB : CbS c (rLenB c.K) fLenB := cb_lenA.or cb_lenDK
end
end MR
set_option autoImplicit false
namespace MR
open PySem PySem.Spec PyProof.Rows L2
noncomputable def R.wp {α : Type} (r : R α) (Q : α → En → Prop) (X : Xn → En → Prop := fun _ _ => False) : Prop := match r with
  | .st => False
  | .ok a e => Q a e
  | .er x e => X x e
structure Po where
  nx : En → Prop := fun _ => False
  rt : Val → En → Prop := fun _ _ => False
  bk : En → Prop := fun _ => False
  ct : En → Prop := fun _ => False
  er : Xn → En → Prop := fun _ _ => False
noncomputable def O.wp (o : O) (Z : Po) : Prop := match o with
  | .st => False
  | .nx e => Z.nx e
  | .rt a e => Z.rt a e
  | .bk e => Z.bk e
  | .ct e => Z.ct e
  | .er x e => Z.er x e
section
variable {α β : Type} {Q Q' : α → En → Prop} {X : Xn → En → Prop} {Z Z' : Po}
theorem R.wp_bind {r : R α} {k : α → En → R β} {Q : β → En → Prop} (h : r.wp (fun a e => (k a e).wp Q X) X) : (r.bind k).wp Q X := by cases r <;> exact h
theorem R.wp_of {o : Option α} {e : En} (h : ∃ a, o = some a ∧ Q a e) : (R.of o e).wp Q X := by
  obtain ⟨a, rfl, h⟩ := h
  exact h
theorem R.wp_mono {r : R α} (h : r.wp Q X) (hq : ∀ a e, Q a e → Q' a e) : r.wp Q' X := by
  cases r with
  | st => exact h
  | ok a e => exact hq a e h
  | er x e => exact h
theorem R.wp_ok {r : R α} (h : r.wp Q) : ∃ a e, r = .ok a e ∧ Q a e := by
  cases r with
  | st => exact h.elim
  | ok a e => exact ⟨a, e, rfl, h⟩
  | er x e => exact h.elim
theorem R.wp_o {r : R α} {k : α → En → O} (h : r.wp (fun a e => (k a e).wp Z) Z.er) : (r.o k).wp Z := by cases r <;> exact h
theorem O.wp_bind {o : O} {k : En → O} (h : o.wp { Z with nx := fun e => (k e).wp Z }) : (o.bind k).wp Z := by cases o <;> exact h
theorem O.wp_mono {o : O} (h : o.wp Z) (h1 : ∀ e, Z.nx e → Z'.nx e) (h2 : ∀ a e, Z.rt a e → Z'.rt a e) (h3 : ∀ e, Z.bk e → Z'.bk e) (h4 : ∀ e, Z.ct e → Z'.ct e) (h5 : ∀ x e, Z.er x e → Z'.er x e) : o.wp Z' := by
  cases o with
  | st => exact h
  | nx e => exact h1 e h
  | rt a e => exact h2 a e h
  | bk e => exact h3 e h
  | ct e => exact h4 e h
  | er x e => exact h5 x e h
theorem wp_seq {m n : En → O} {e : En} (h : (m e).wp { Z with nx := fun e1 => (n e1).wp Z }) : (mSeq m n e).wp Z := O.wp_bind h
theorem wp_if {t : En → R Bool} {m n : En → O} {e : En} (h : (t e).wp (fun (b : Bool) e1 => if b = true then (m e1).wp Z else (n e1).wp Z) Z.er) : (mIfS t m n e).wp Z := by
  refine R.wp_o (k := fun (b : Bool) e1 => if b then m e1 else n e1) ?_
  cases ht : t e with
  | st => rw [ht] at h; exact h
  | er x e1 => rw [ht] at h; exact h
  | ok b e1 =>
    rw [ht] at h
    cases b with
    | true => exact (if_pos (c := true = true) (t := (m e1).wp Z) (e := (n e1).wp Z) rfl).mp h
    | false => exact (if_neg (c := false = true) (t := (m e1).wp Z) (e := (n e1).wp Z) Bool.false_ne_true).mp h
/-- a for by an invariant over the items -/
theorem wp_items {g : MR.D → En → Option En} {b : En → O} (I : Nat → En → Prop) : ∀ (ds : List MR.D) (e : En) (i : Nat), I i e →
    (∀ (j : Nat) (d : MR.D) (e : En), ds[j]? = some d → I (i + j) e → ∃ e1, g d e = some e1 ∧ (b e1).wp { nx := I (i + j + 1), ct := I (i + j + 1), bk := Z.nx, rt := Z.rt, er := Z.er }) → (∀ e, I (i + ds.length) e → Z.nx e) → (mItems g b ds e).wp Z
  | [], e, i, h0, _, hd => hd e h0
  | d :: ds, e, i, h0, hs, hd => by
    obtain ⟨e1, hg, hb⟩ := hs 0 d e rfl h0
    have go : ∀ e2, I (i + 1) e2 → (mItems g b ds e2).wp Z := fun e2 h2 => wp_items I ds e2 (i + 1) h2 (fun j d e hj hi => by
      have := hs (j + 1) d e hj (by rw [show i + (j + 1) = i + 1 + j by omega]; exact hi)
      rw [show i + (j + 1) + 1 = i + 1 + j + 1 by omega] at this
      exact this) fun e he => hd e (by rw [List.length_cons, show i + (ds.length + 1) = i + 1 + ds.length by omega]; exact he)
    unfold mItems
    rw [hg]
    show O.wp (match b e1 with
      | .nx e2 => mItems g b ds e2
      | .ct e2 => mItems g b ds e2
      | .bk e2 => .nx e2
      | o => o) Z
    cases hbo : b e1 with
    | st => rw [hbo] at hb; exact hb
    | nx e2 => rw [hbo] at hb; exact go e2 hb
    | ct e2 => rw [hbo] at hb; exact go e2 hb
    | bk e2 => rw [hbo] at hb; exact hb
    | rt a e2 => rw [hbo] at hb; exact hb
    | er x e2 => rw [hbo] at hb; exact hb
theorem O.wp_unl {o : O} {lk : Option Nat} (h : o.wp { Z with nx := fun e => Z.nx (unlockS e lk) }) : (o.unl lk).wp Z := by cases o <;> exact h
theorem wp_for {mi : En → R Itr} {g : MR.D → En → Option En} {b : En → O} {e : En} (h : (mi e).wp (fun (it : Itr) e1 => ∃ I : Nat → En → Prop, I 0 (lockS e1 it.lk) ∧
    (∀ (j : Nat) (d : MR.D) (e : En), it.items[j]? = some d → I j e → ∃ e1, g d e = some e1 ∧ (b e1).wp { nx := I (j + 1), ct := I (j + 1), bk := fun e => Z.nx (unlockS e it.lk), rt := Z.rt, er := Z.er }) ∧ (∀ e, I it.items.length e → Z.nx (unlockS e it.lk))) Z.er) : (mFor mi g b e).wp Z := by
  rw [mFor_eq]
  refine R.wp_o (k := fun (it : Itr) e1 => (mItems g b it.items (lockS e1 it.lk)).unl it.lk) ?_
  cases hm : mi e with
  | st => rw [hm] at h; exact h
  | er x e1 => rw [hm] at h; exact h
  | ok it e1 =>
    rw [hm] at h
    obtain ⟨I, h0, hs, hd⟩ := h
    exact O.wp_unl (wp_items I it.items _ 0 h0 (fun j d e hj hi => by rw [Nat.zero_add] at hi ⊢; exact hs j d e hj hi) fun e he => hd e (by rw [Nat.zero_add] at he; exact he))
end
end MR
set_option autoImplicit false
namespace MR
open PySem PySem.Spec PyProof.Rows L2
noncomputable def Numb : GenState → GenState
  | .suspended _ l c p fs cl => .suspended (fun _ => .unsupported "") l c p fs cl
  | x => x
noncomputable def isSl : GenState → Bool
  | .suspended .. => true
  | _ => false
noncomputable def isRt : Frame → Bool
  | .ret .. => true
  | .gen .. => false
noncomputable def okG : GenState → Bool
  | .suspended _ _ _ _ fs _ => fs.all isRt
  | _ => true
structure Sleeps (S : Nat → Option GenState) (s : Shared) : Prop where
  at_ : ∀ i r, S i = some r → isSl r = true ∧ s.gens[i]? = some (Numb r)
  oth : ∀ i x, S i = none → s.gens[i]? = some x → okG x = true
section
variable {S : Nat → Option GenState} {s s' : Shared} {g : Nat} {x y : GenState} {M : Model} {Γ : PySem.Ctx} {p : Pos}
theorem set_get (s : Shared) (g i : Nat) (y : GenState) : (s.setGen g y).gens[i]? = if g = i then (if g < s.gens.size then some y else none) else s.gens[i]? := by
  show (s.gens.setIfInBounds g y)[i]? = _
  rw [Array.getElem?_setIfInBounds]
theorem Sleeps.setGen (L : Sleeps S s) (h : S g = none) (ok : okG y = true) : Sleeps S (s.setGen g y) := by
  refine ⟨fun i r q => ⟨(L.at_ i r q).1, ?_⟩, fun i x q hx => ?_⟩
  · rw [set_get, if_neg fun z => by rw [z, q] at h; cases h]
    exact (L.at_ i r q).2
  · rw [set_get] at hx
    by_cases e : g = i
    · rw [if_pos e] at hx
      split at hx
      · cases hx; exact ok
      · cases hx
    · rw [if_neg e] at hx
      exact L.oth i x q hx
theorem Sleeps.size (L : Sleeps S s) : S s.gens.size = none := by
  cases q : S s.gens.size with
  | none => rfl
  | some r =>
    have := (L.at_ _ r q).2
    rw [Array.getElem?_eq_none (Nat.le_refl _)] at this
    cases this
theorem Sleeps.push (L : Sleeps S s) {c : Code} : Sleeps S { s with gens := s.gens.push (.fresh c) } := by
  refine ⟨fun i r q => ⟨(L.at_ i r q).1, ?_⟩, fun i x q hx => ?_⟩
  · show (s.gens.push (.fresh c))[i]? = _
    rw [Array.getElem?_push, if_neg fun z => by rw [z, L.size] at q; cases q]
    exact (L.at_ i r q).2
  · have hx : (s.gens.push (.fresh c))[i]? = some x := hx
    rw [Array.getElem?_push] at hx
    split at hx
    · cases hx; rfl
    · exact L.oth i x q hx
end
end MR
set_option autoImplicit false
namespace MR
open PySem PySem.Spec PyProof.Rows L2 GenW
end MR
set_option autoImplicit false
namespace MR
open PySem PySem.Spec PyProof.Rows L2 GenW
section
variable {P : Program} {w : World} {K : PySem.W.Frag} {mg : Str → Option Value} {base : Heap}
/-- the walker's context -/
noncomputable abbrev gcw (P : Program) (w : World) (K : PySem.W.Frag) (mg : Str → Option Value) (base : Heap) (N : List Str) (qual : Str) (sc : Scope) (f : Addr) (cd : Value) (A : Around) (outer : List Env) (s : Shared) (H : Hp) (pn : List (Addr × Obj)) : Cx :=
  (gcxOf P w K mg base N qual sc f cd A outer s H (fun _ _ _ => True) pn).nox
theorem inv_nox {X : Cx} {pins : List (Addr × Obj)} {σ : L2.St} {H : Hp} {s : Shared} (I : Inv X pins σ H s) : Inv X.nox pins σ H s := by
  obtain ⟨o, a, b, c, d, e, f, g, h, i, j⟩ := I
  exact ⟨⟨o.mod, o.kind, o.glob, o.blt, o.above, o.inj, o.has, o.cab, o.hd, o.frames, o.stk, o.exf, o.bs, o.bsz, o.noex, o.exfs, o.funs, o.frf⟩, a, b, c, d, e, f, g, h, i, j⟩
end
end MR
set_option autoImplicit false
namespace MR
open PySem PySem.Spec PyProof.Rows L2 GenW
end MR
set_option autoImplicit false
namespace MR
open PySem PySem.Spec PyProof.Rows L2 GenW
end MR
set_option autoImplicit false
namespace MR
open PySem PySem.Spec PyProof.Rows L2
end MR
set_option autoImplicit false
namespace MR
open PySem PySem.Spec PyProof.Rows L2
end MR
set_option autoImplicit false
namespace MR
open PySem PySem.Spec PyProof.Rows L2
end MR
set_option autoImplicit false
namespace MR
open PySem PySem.Spec PyProof.Rows L2
end MR
set_option autoImplicit false
namespace MR
open PySem PySem.Spec PyProof.Rows L2
noncomputable def notG (g : Nat) : Val → Bool
  | .at i => i != g
  | _ => true
noncomputable def unG (g : Nat) : R Val → R Val
  | .st => .st
  | .ok a e => if notG g a = true ∧ canSet e[g]? = true then .ok a (e.set g .un) else .st
  | .er x e => if canSet e[g]? = true then .er x (e.set g .un) else .st
noncomputable def mCallG (g : Nat) (io : Option Nat) (len nr : Bool) (k n : Nat) (m : En → O) (ms : En → R (List Val)) (e : En) : R Val := (ms e).bind fun as e1 => unG g (callK io len nr k n m as e1)
section
variable {c : Ctx} {E : Option (L2.St → XK)} {σ : L2.St} {w w0 w1 : Wd} {Q : VK} {v u : V} {g : Nat} {tt : TA} {ms : En → R (List Val)} {ta : TE} {ma : En → R Val}
noncomputable def SimAg (c : Ctx) (E : Option (L2.St → XK)) (g : Nat) (t : TA) (m : En → R (List Val)) : Prop := ∀ (σ : L2.St) (w : Wd) (Q : List V → Hp → Prop), RelE c σ w →
  Cn c E σ w (m w.env) (fun as e => ∀ vs F' H' u, RelE c (σ.set g (some u)) ⟨F', H', e⟩ → LeS σ w (σ.set g (some u)) ⟨F', H', e⟩ → VPs c (σ.set g (some u)) ⟨F', H', e⟩ vs as → Q vs H') → t σ w.H Q
theorem un_ghost {u0 : V} (hl : g < σ.length) (cs : canSet w.env[g]? = true) (r : RelE c (σ.set g (some u0)) w) : RelE c σ ⟨w.F, w.H, w.env.set g .un⟩ ∧ LeS (σ.set g (some u0)) w σ ⟨w.F, w.H, w.env.set g .un⟩ := by
  obtain ⟨r2, l2⟩ := r.unS [g] (fun i hi => by rw [List.mem_singleton.mp hi]; exact (canSet_ok cs).2)
  obtain ⟨r3, l3⟩ := r2.swap (τ := σ) (vs := [g]) (unS_all _ _ fun i hi => by rw [List.mem_singleton.mp hi]; exact (canSet_ok cs).1) (by rw [List.length_set]) fun i hi => (List.getElem?_set_ne fun z => hi (by rw [z]; exact List.mem_cons_self)).symm
  exact ⟨r3, l2.trans l3⟩
theorem s_callG {io : Option Nat} {len nr b : Bool} {k : Nat} {N : List Str} {m : En → O} {Ex : XK} (hE : (b = true ∧ E = some fun _ => Ex) ∨ (b = false ∧ (nr = true ∨ E = none))) (hs : SimAg c E g tt ms) : SimE c E (tCall (spM c.b b k N m) [] Ex tt) (mCallG g io len nr k N.length m ms) := by
  intro σ w Q rel q
  refine hs σ w _ rel ?_
  unfold mCallG at q
  cases hm : ms w.env with
  | st => rw [hm] at q; exact q
  | er y e => rw [hm] at q; exact q
  | ok as e =>
    rw [hm] at q
    have q : Cn c E σ w (unG g (callK io len nr k N.length m as e)) (KV c σ w Q) := q
    intro vs F' H' u r1 l1 vp
    show spM c.b b k N m (vs ++ []) H' Q Ex
    rw [List.append_nil]
    refine call_run (io := io) (len := len) (nr := nr) (σ := σ.set g (some u)) (w := ⟨F', H', e⟩) (w1 := ⟨F', H', e⟩) (E := E) (hE.imp (fun h => ⟨h.1, _, h.2, rfl⟩) id) r1 (LeS.refl _ _) vp ?_
    show Cn c E _ _ (callK io len nr k N.length m as e) _
    cases hc : callK io len nr k N.length m as e with
    | st => rw [hc] at q; exact q
    | ok a e2 =>
      rw [hc] at q
      have q : Cn c E σ w (if notG g a = true ∧ canSet e2[g]? = true then R.ok a (e2.set g .un) else .st) (KV c σ w Q) := q
      split at q
      case isFalse => exact q.elim
      case isTrue hh =>
      obtain ⟨hg, cs⟩ := hh
      intro v F2 H2 r2 l2 v2
      have hl : g < σ.length := by
        have := r2.len
        rw [List.length_set] at this
        rw [this]
        exact (canSet_ok cs).1
      obtain ⟨r3, l3⟩ := un_ghost (w := ⟨F2, H2, e2⟩) hl cs r2
      refine q v F2 H2 r3 ((l1.trans l2).trans l3) ?_
      cases a with
      | fz d => exact v2
      | new d =>
        obtain ⟨p, rfl, n0, nf, own, ns⟩ := v2
        refine ⟨p, rfl, l1.free n0, nf, own, fun i a b d' hi e => ?_⟩
        rcases get_set hi with ⟨_, z⟩ | ⟨ne, z⟩
        · cases z
        · exact ns i a b d' z ((List.getElem?_set_ne (Ne.symm ne)).trans e)
      | «at» i =>
        have ne : i ≠ g := by simpa [notG] using hg
        exact (List.getElem?_set_ne (Ne.symm ne)).symm.trans v2
    | er y e2 =>
      rw [hc] at q
      have q : Cn c E σ w (if canSet e2[g]? = true then R.er y (e2.set g .un) else .st) (KV c σ w Q) := q
      split at q
      case isFalse => exact q.elim
      case isTrue cs =>
      rcases hE with ⟨_, rfl⟩ | ⟨_, rfl | rfl⟩
      · intro cls d F2 H2 r2 l2 x2
        have hl : g < σ.length := by
          have := r2.len
          rw [List.length_set] at this
          rw [this]
          exact (canSet_ok cs).1
        obtain ⟨r3, l3⟩ := un_ghost (w := ⟨F2, H2, e2⟩) hl cs r2
        exact q cls d F2 H2 r3 ((l1.trans l2).trans l3) (XR.step (w := ⟨F2, H2, e2.set g .un⟩) x2 l1)
      · exact (callK_nr hc).elim
      · exact q.elim
end
end MR
set_option autoImplicit false
namespace MR
open PySem PySem.Spec PyProof.Rows L2
end MR
set_option autoImplicit false
namespace MR
open PySem PySem.Spec PyProof.Rows L2
noncomputable def isFz : Val → Bool
  | .fz _ => true
  | _ => false
noncomputable def mGhostF (g : Nat) (m : En → R Val) (ms : En → R (List Val)) (e : En) : R (List Val) := (m e).bind fun a e1 => (ms e1).bind fun as e2 => match a with
  | .new d => if canSet e2[g]? = true ∧ as.all isFz = true then .ok (.at g :: as) (e2.set g (.ow false false d)) else .st
  | _ => .st
section
variable {c : Ctx} {E : Option (L2.St → XK)} {σ : L2.St} {w w0 w1 : Wd} {Q : VK} {v u : V} {g : Nat} {tt : TA} {ms : En → R (List Val)} {ta : TE} {ma : En → R Val}
theorem vps_fz {σ' : L2.St} {e : En} : ∀ {vs : List V} {as : List Val}, VPs c σ w vs as → as.all isFz = true → VPs c σ' ⟨w.F, w.H, e⟩ vs as
  | _, _, .nil, _ => .nil
  | _, _, .cons (a := a) na h t, hf => by
    rw [List.all_cons, Bool.and_eq_true] at hf
    cases a with
    | fz d => exact .cons na h (vps_fz t hf.2)
    | new d => exact absurd rfl (na d)
    | «at» i => cases hf.1
theorem sg_first (h : SimE c E ta ma) (hs : SimA c E tt ms) : SimAg c E g (tCons ta tt) (mGhostF g ma ms) := by
  intro σ w Q rel q
  refine h.to rel (LeS.refl σ w) q fun a w1 x r1 l1 v1 q1 => ?_
  refine hs.to (w := w) r1 l1 q1 fun as w2 vs r2 l2 vp q2 => ?_
  cases a with
  | new d =>
    have q2 : Cn c E σ w (if canSet w2.env[g]? = true ∧ as.all isFz = true then R.ok (Val.at g :: as) (w2.env.set g (.ow false false d)) else .st) _ := q2
    split at q2
    · next cs =>
      obtain ⟨p, rfl, n0, nf, own, ns⟩ := v1
      have fr : Free σ w1 p := ns
      obtain ⟨o, ho⟩ := own.some
      have hne : w1.H p ≠ none := by rw [ho]; exact fun z => nomatch z
      have own2 : Own c w2.F w2.H p d := own.step l2.ff fun o h => l2.hh p o fr.bm h
      have nf2 : w2.F p = none := (l2.fn p fr.bm hne).trans nf
      obtain ⟨r3, l3⟩ := set_new r2 (l1.trans l2) cs.1 n0 nf2 own2 (fr.next r2 l2 hne)
      refine q2 (.ref p :: vs) w2.F w2.H (.ref p) r3 l3 (.cons (fun d z => nomatch z) ?_ (vps_fz vp cs.2))
      show (σ.set g (some (V.ref p)))[g]? = _
      rw [List.getElem?_set_self (by rw [r2.len]; exact (canSet_ok cs.1).1)]
    · exact q2.elim
  | _ => exact q2.elim
end
end MR
set_option autoImplicit false
namespace MR
open PySem PySem.Spec PyProof.Rows L2
noncomputable def r_comb : List V → Hp → VK → Prop := fun xs H Q => ∃ n k : Int, xs = [.int n, .int k] ∧ 0 ≤ n ∧ 0 ≤ k ∧ n ≤ 18000 ∧ Q (.int (PySem.W.mcComb n k)) H
theorem k_comb {X : Cx} : CallR X (.builtin "math.comb") r_comb := by
  intro pins s σ H xs us Q I r h
  obtain ⟨n, k, rfl, hn, hk, hle, q⟩ := h
  obtain ⟨u, w', rfl, ⟨t, rfl⟩, ⟨t', rfl⟩⟩ := vals2 r
  exact PySem.W.mc_comb hn hk (by omega) (.inr hle) fun _ => ⟨.int (PySem.W.mcComb n k), H, I.tok _, ⟨_, rfl⟩, q⟩
section
variable {c : MR.Ctx}
noncomputable def f_comb : List D → Option Val
  | [.int n, .int k] => if 0 ≤ n ∧ 0 ≤ k ∧ n ≤ 18000 then some (vI (PySem.W.mcComb n k)) else none
  | _ => none
theorem cb_comb : CbS c r_comb f_comb := by
  intro σ w vs ds res Q rel ax e o
  unfold f_comb at e
  split at e
  · next n k =>
    split at e
    · next h =>
      cases e
      obtain ⟨v1, v2, rfl, a1, a2⟩ := acs2 ax
      exact ⟨n, k, by rw [ac_int a1, ac_int a2], h.1, h.2.1, h.2.2, o.fz rel (.int _)⟩
    · cases e
  · cases e
end
end MR
set_option autoImplicit false
namespace MR
open PySem PySem.Spec PyProof.Rows L2
noncomputable def rRgL1 : V → Hp → VK → Prop := fun x H Q => ∃ n, x = .int n ∧ RgOk 0 n ∧ ∀ q, H q = none → Q (.ref q) (upd H q (.lst (rgV 0 n)))
section
variable {X : Cx} {a b : Expr} {ta tb : TE} {p p2 pos pos2 : Pos}
theorem k_rgL1 (hc : X.calm = true) (hg : Gl X "list") (hm : X.mg "list" = none) (hg2 : Gl X "range") (hm2 : X.mg "range" = none) (ha : PE X a ta) (na : starEach [a] X.env = (false, eval a X.env) :: starEach [] X.env := by rfl)
    (nb : starEach [.Call (.Name "range" p2) [a] [] pos2] X.env = (false, eval (.Call (.Name "range" p2) [a] [] pos2) X.env) :: starEach [] X.env := by rfl) : PE X (.Call (.Name "list" p) [.Call (.Name "range" p2) [a] [] pos2] [] pos) (tUn rRgL1 ta) :=
  pe_listRg hc hg hm (prg_1 hg2 hm2 ha na) nb
end
section
variable {c : Ctx}
noncomputable def okRg (i j : Int) : Prop := -(2 ^ 62) ≤ i ∧ i < 2 ^ 62 ∧ -(2 ^ 62) ≤ j ∧ j < 2 ^ 62 ∧ (j - i).toNat ≤ 2 ^ 24
instance {i j : Int} : Decidable (okRg i j) := by unfold okRg; infer_instance
noncomputable def fRgL1 (d : D) : Option Val := match d with
  | .int n => gdO (okRg 0 n) (.new (.lst (rangeD 0 (n - 0).toNat)))
  | _ => none
theorem reps_ixI {F : Hp} (f : Nat → Int) : ∀ l : List Nat, Reps c.b F (l.map fun k => V.int (f k)) (l.map fun k => D.int (f k))
  | [] => .nil
  | n :: l => .cons (.int _) (reps_ixI f l)
theorem reps_rg {F : Hp} (i j : Int) : Reps c.b F (rgV i j) (rangeD i (j - i).toNat) := reps_ixI (fun k => i + (k : Int)) _
theorem u_rgL1 : UnS c rRgL1 fRgL1 := by
  intro σ w x d res Q rel ax e o
  unfold fRgL1 at e
  split at e
  · next n =>
    obtain ⟨hp, rfl⟩ := gdO_ok e
    exact ⟨n, ac_int ax, hp, fun q nq => o.newL rel (reps_rg 0 n) nq⟩
  · cases e
end
end MR
set_option autoImplicit false
namespace MR
open PySem PySem.Spec PyProof.Rows L2 PySem.SeqAt
noncomputable def eqI (N M : List Int) (j : Nat) : Bool := decide (N[j]? = M[j]?)
noncomputable def ltI (N M : List Int) (j : Nat) : Bool := decide (N.getD j 0 < M.getD j 0)
theorem firstLt_lex (N M : List Int) : ∀ (ns ms : List Int) (k : Nat), N.drop k = ns → M.drop k = ms → k ≤ N.length → k ≤ M.length →
    firstLt (eqI N M) (ltI N M) (decide (N.length < M.length)) ((List.range (min N.length M.length)).drop k) = HT.lexLt ns ms
  | [], ms, k, h1, h2, k1, k2 => by
    have l1 := congrArg List.length h1
    have l2 := congrArg List.length h2
    rw [List.length_drop] at l1 l2
    have l1 : N.length - k = 0 := l1
    rw [List.drop_eq_nil_of_le (by rw [List.length_range]; omega)]
    cases ms with
    | nil =>
      have l2 : M.length - k = 0 := l2
      exact decide_eq_false (by omega)
    | cons y t =>
      have l2 : M.length - k = t.length + 1 := l2
      exact decide_eq_true (by omega)
  | x :: ns, [], k, h1, h2, k1, k2 => by
    have l1 := congrArg List.length h1
    have l2 := congrArg List.length h2
    rw [List.length_drop] at l1 l2
    have l1 : N.length - k = ns.length + 1 := l1
    have l2 : M.length - k = 0 := l2
    rw [List.drop_eq_nil_of_le (by rw [List.length_range]; omega)]
    exact decide_eq_false (by omega)
  | x :: ns, y :: ms, k, h1, h2, k1, k2 => by
    have l1 := congrArg List.length h1
    have l2 := congrArg List.length h2
    rw [List.length_drop] at l1 l2
    have l1 : N.length - k = ns.length + 1 := l1
    have l2 : M.length - k = ms.length + 1 := l2
    have hm : k < min N.length M.length := by omega
    have hN : N[k]? = some x := by
      have := congrArg (fun l => l[0]?) h1
      simpa using this
    have hM : M[k]? = some y := by
      have := congrArg (fun l => l[0]?) h2
      simpa using this
    have hd : (List.range (min N.length M.length)).drop k = k :: (List.range (min N.length M.length)).drop (k + 1) := by
      rw [List.drop_eq_getElem_cons (by rw [List.length_range]; exact hm), List.getElem_range]
    have ih := firstLt_lex N M ns ms (k + 1) (by have := congrArg List.tail h1; simpa using this) (by have := congrArg List.tail h2; simpa using this) (by omega) (by omega)
    rw [hd, HT.lexLt_cons]
    by_cases e : x = y
    · rw [if_pos e, firstLt_yes (by show decide (N[k]? = M[k]?) = true; rw [hN, hM, e]; exact decide_eq_true rfl)]
      exact ih
    · rw [if_neg e, firstLt_no (by show decide (N[k]? = M[k]?) = false; rw [hN, hM]; exact decide_eq_false fun q => e (Option.some.inj q))]
      show decide (N.getD k 0 < M.getD k 0) = _
      rw [List.getD_eq_getElem?_getD, List.getD_eq_getElem?_getD, hN, hM]
      rfl
noncomputable def rLtL (K : PySem.W.Frag) : R2 := fun x y H Q => ∃ a b ns ms, x = .ref a ∧ y = .ref b ∧ SqL K H a (ns.map V.int) ∧ SqL K H b (ms.map V.int) ∧ Q (.bl (HT.lexLt ns ms)) H
theorem op_ltL {X : Cx} (hu : X.A.units < cLine) : OpR X (compareOp .Lt) (rLtL X.K) := by
  intro pins s σ H x y v u Q I rx ry h
  obtain ⟨a, b, ns, ms, rfl, rfl, ha, hb, q⟩ := h
  cases rx
  cases ry
  obtain ⟨its, r1, p1, _⟩ := I.list ha
  obtain ⟨its2, r2, p2, _⟩ := I.list hb
  have z1 : its.length = ns.length := by rw [← r1.length, List.length_map]
  have z2 : its2.length = ms.length := by rw [← r2.length, List.length_map]
  have at1 : ∀ j (hj : j < its.toArray.size), ∃ t, its.toArray[j] = .int (ns.getD j 0) t ∧ ns[j]? = some (ns.getD j 0) := fun j hj => by
    have hj1 : j < its.length := by simpa using hj
    have hj2 : j < ns.length := by omega
    have hn : ns[j]? = some (ns.getD j 0) := by rw [List.getD_eq_getElem?_getD, List.getElem?_eq_getElem hj2]; rfl
    obtain ⟨v, hv, rv⟩ := r1.get (show (ns.map V.int)[j]? = some (.int (ns.getD j 0)) by rw [List.getElem?_map, hn]; rfl)
    obtain ⟨t, rfl⟩ := rv
    rw [List.getElem?_eq_getElem hj1] at hv
    exact ⟨t, by rw [List.getElem_toArray]; exact Option.some.inj hv, hn⟩
  have at2 : ∀ j (hj : j < its2.toArray.size), ∃ t, its2.toArray[j] = .int (ms.getD j 0) t ∧ ms[j]? = some (ms.getD j 0) := fun j hj => by
    have hj1 : j < its2.length := by simpa using hj
    have hj2 : j < ms.length := by omega
    have hn : ms[j]? = some (ms.getD j 0) := by rw [List.getD_eq_getElem?_getD, List.getElem?_eq_getElem hj2]; rfl
    obtain ⟨v, hv, rv⟩ := r2.get (show (ms.map V.int)[j]? = some (.int (ms.getD j 0)) by rw [List.getElem?_map, hn]; rfl)
    obtain ⟨t, rfl⟩ := rv
    rw [List.getElem?_eq_getElem hj1] at hv
    exact ⟨t, by rw [List.getElem_toArray]; exact Option.some.inj hv, hn⟩
  refine RcLt.lists (e := eqI ns ms) (r := ltI ns ms) p1.isList p2.isList hu (fun j h1 h2 => ?_) (fun j h1 h2 _ => ?_) X.prog X.w X.xe _ ?_
  · obtain ⟨t, e1, n1⟩ := at1 j h1
    obtain ⟨t2, e2, n2⟩ := at2 j h2
    rw [e1, e2]
    have : eqI ns ms j = (ns.getD j 0 == ms.getD j 0) := by
      unfold eqI
      rw [n1, n2]
      by_cases q : ns.getD j 0 = ms.getD j 0
      · rw [q]; simp
      · rw [decide_eq_false fun z => q (Option.some.inj z)]
        exact (beq_eq_false_iff_ne.mpr q).symm
    rw [this]
    exact EqAt.int_int _ _ _ _
  · obtain ⟨t, e1, n1⟩ := at1 j h1
    obtain ⟨t2, e2, n2⟩ := at2 j h2
    rw [e1, e2]
    intro prog w E Q hq
    exact PyProof.Rows.lt_int hq
  · have := firstLt_lex ns ms ns ms 0 rfl rfl (Nat.zero_le _) (Nat.zero_le _)
    rw [List.drop_zero] at this
    rw [List.size_toArray, List.size_toArray, z1, z2, this]
    exact ⟨.bl (HT.lexLt ns ms), H, I, rfl, q⟩
section
variable {c : Ctx} {X : Cx} {K : PySem.W.Frag}
noncomputable def fLtL (a b : D) : Option Val := match nums a, nums b with
  | some ns, some ms => some (.fz (.bl (HT.lexLt ns ms)))
  | _, _ => none
theorem o_ltL : OpS c (rLtL c.K) fLtL := by
  intro σ w x y a b res Q rel ax ay e o
  unfold fLtL at e
  split at e
  · next ns ms h1 h2 =>
    cases e
    obtain ⟨p, rfl, s1⟩ := nums_ok rel ax h1
    obtain ⟨p2, rfl, s2⟩ := nums_ok rel ay h2
    exact ⟨p, p2, ns, ms, rfl, rfl, s1, s2, o.fz rel (.bl _)⟩
  · cases e
noncomputable def rLtB (K : PySem.W.Frag) : R2 := fun x y H Q => rLtA x y H Q ∨ rLtL K x y H Q
theorem k_ltB (h : X.K = K) (hu : X.A.units < cLine) : OpR X (compareOp .Lt) (rLtB K) := op_or k_lt (h ▸ op_ltL hu)
noncomputable def fLtB (a b : D) : Option Val := orO (fLtA a b) (fLtL a b)
theorem o_ltB : OpS c (rLtB c.K) fLtB := o_ltA.or o_ltL
end
end MR
set_option autoImplicit false
namespace MR
open PySem PySem.Spec PyProof.Rows L2 GenW
/-- the consumer's own objects (at L) have changed, nothing else has -/
structure Wkn (L : List Addr) (B : List V → Heap → Prop) (ys : List V) (s s' : Shared) : Prop where
  os : s'.os = s.os
  bare : AllBare s'.gens
  keep : ∀ b o, b ∉ L → s.heap.get? b = some o → s'.heap.get? b = some o
  obj : ∀ b ∈ L, ∃ o, s'.heap.get? b = some o ∧ ∀ v, o.data ≠ .cell v
  held : B ys s'.heap
/-- what is said of the consumer's objects hangs on them alone -/
noncomputable def Stab (L : List Addr) (B : List V → Heap → Prop) : Prop := ∀ ys h h', (∀ b ∈ L, ∀ o, h.get? b = some o → h'.get? b = some o) → B ys h → B ys h'
/-- the pinned objects are free in the abstract heap, the class ends no iterator -/
noncomputable def Ep (K : PySem.W.Frag) (E : XK) (pn : List (Addr × Obj)) : XK := fun cls d H => (E cls d H ∧ PySem.W.subIn K cls (.type "StopIteration") = some false) ∧ ∀ p ∈ pn, H p.1 = none
noncomputable def ZEnd (P : Program) (w : World) (K : PySem.W.Frag) (outer : List Env) (H : Hp) (s : Shared) (a : Addr) (g : Nat) (L : List Addr) (B : List V → Heap → Prop) (Q : VK) (E : XK) : GenEnd := fun n _ r s1 =>
  ((r = .ok (.ret .none) ∨ r = .ok .next) ∧ ∃ H' ys, s1.os = s.os ∧ AllBare s1.gens ∧ Un (frs outer) [] H H' s.heap s1.heap ∧ HOk P w H' s1.heap ∧ (∀ b ∈ L, H' b = none) ∧ B ys s1.heap ∧ ys.length ≤ sizeLine ∧ ∀ S, H' S = none → Q (.ref S) (upd H' S (.lst ys))) ∨
  ∃ e, r = .error e ∧ ∃ pn ys, L2.CX P w outer H s (Ep K E pn) e s1 ∧ s1.heap.IsGen a g ∧ B ys s1.heap ∧ ∀ b ∈ L, ∃ o, (b, o) ∈ pn
noncomputable def ZItem (s : Shared) (a : Addr) (g : Nat) (L : List Addr) (B : List V → Heap → Prop) : Protocol := fun n _ v s1 kap =>
  ∃ ys x, n + 1 + ys.length = sizeLine ∧ RelV x v ∧ s1.os = s.os ∧ AllBare s1.gens ∧ s1.heap.NoLimit ∧ s1.heap.IsGen a g ∧ B ys s1.heap ∧ ∀ s', Wkn L B (ys ++ [x]) s1 s' → kap (.send .none) s'
/-- what a call gives: a generator that has not begun -/
noncomputable def ZMade (P : Program) (w : World) (K : PySem.W.Frag) (k : Nat) (outer : List Env) (H : Hp) (s : Shared) (Q : VK) (E : XK) (u : Value) (s' : Shared) : Prop :=
  ∃ (a : Addr) (g : Nat) (c : Code), u = .ref a ∧ s.heap.objs.size ≤ a ∧ s'.heap.IsGen a g ∧ s'.gens[g]? = some (.fresh c) ∧ s'.os = s.os ∧ AllBare s'.gens ∧ (∀ b o, s.heap.get? b = some o → s'.heap.get? b = some o) ∧
    ∀ (A : Around) (L : List Addr) (B : List V → Heap → Prop) (s2 : Shared), Room k A → A.frames = some outer → (∀ b ∈ L, s'.heap.objs.size ≤ b) → Stab L B → (∀ b o, s'.heap.get? b = some o → s2.heap.get? b = some o) → Wkn L B [] s2 s2 → s2.os = s.os →
      Seg (model P w) A (ZEnd P w K outer H s a g L B Q E) (ZItem s a g L B) sizeLine s2 c ((model P w).den c) [] s2
structure ZFn (P : Program) (w : World) (K : PySem.W.Frag) (mg : Str → Option Value) (base : Heap) (k : Nat) (f : Addr) (fd : FuncData) (ps : List Str) (sp : Sp) : Prop where
  len : ∀ vs H Q E, sp vs H Q E → vs.length = ps.length
  run : ∀ (A : Around) (outer : List Env) (s : Shared) (H : Hp) (args : Args) (us : List Value) (vs : List V) (Q : VK) (E : XK), Room k A → Env0 P w K mg base A outer s H → BindsTo s fd args (ps.zip us) → Vals vs us → sp vs H Q E →
    codeAny (model P w) A (.call (.ref f) args) (fun r s' => match r with | .ok (.ret u) => ZMade P w K k outer H s Q E u s' | _ => False) s
noncomputable def genLoop (mc : En → R Bool) (me : En → R Val) (mp : En → O) : Nat → List D → En → O
  | 0, _, _ => .st
  | k + 1, ds, e => match mc e with
    | .ok b e1 => if b = true then (match mD me e1 with
      | .ok d e2 => if ds.length < sizeLine then (match mp e2 with
        | .nx e3 => genLoop mc me mp k (ds ++ [d]) e3
        | _ => .st) else .st
      | _ => .st) else .rt (.new (.lst ds)) e1
    | _ => .st
noncomputable def mGen (ok : List Str) (m1 : En → O) (mc : En → R Bool) (me : En → R Val) (mp : En → O) (k : Nat) (e : En) : O := match m1 e with
  | .nx e1 => genLoop mc me mp k [] e1
  | .rt (.fz .non) e1 => .rt (.new (.lst [])) e1
  | .er x e1 => if ok.contains x.n = true then .er x e1 else .st
  | _ => .st
section
variable {c : Ctx} {σ σ0 : L2.St} {w w0 : Wd} {Eo : Option (L2.St → XK)} {Q : VK}
/-- a list laid at a free place -/
theorem rel_upd {F H : Hp} {e : En} {S : Addr} {o : HO} (rel : RelE c σ ⟨F, H, e⟩) (n : H S = none) : RelE c σ ⟨F, upd H S o, e⟩ := by
  have nf : F S = none := by
    cases q : F S with
    | none => rfl
    | some u => exact (ne_of_none (rel.sm _ _ q : H S = some u) n rfl).elim
  refine ⟨rel.len, fun i s hs => ?_, rel.ne, fun q u h => ?_, rel.pl⟩
  · obtain ⟨ov, h1, h2⟩ := rel.at_ i s hs
    refine ⟨ov, h1, ?_⟩
    cases s with
    | un => exact True.intro
    | ex => exact h2
    | fz d => exact h2
    | ow a b d =>
      obtain ⟨p, h3, h4, h5⟩ := h2
      exact ⟨p, h3, h4, h5.step (Same.refl _) fun u hu => (upd_ne (ne_of_none hu n)).trans hu⟩
  · exact (upd_ne (ne_of_none h nf)).trans (rel.sm _ _ h)
theorem les_upd {F H : Hp} {e : En} {S : Addr} {o : HO} (l : LeS σ0 w0 σ ⟨F, H, e⟩) (n : H S = none) : LeS σ0 w0 σ ⟨F, upd H S o, e⟩ := by
  refine ⟨l.ff, fun p u nb h => ?_, l.fn, fun p h z => ?_, l.bb, l.bu, l.pn⟩
  · have := l.hh p u nb h
    exact (upd_ne (ne_of_none this n)).trans this
  · by_cases y : p = S
    · subst y; exact l.dom p h n
    · have z : upd H S o p = none := z
      rw [upd_ne y] at z
      exact l.dom p h z
/-- all is out: the list may be laid anywhere -/
theorem done_list {ds : List D} {ys : List V} {F H : Hp} {e : En} {D : Ends} (q : Co c Eo σ0 w0 (.rt (.new (.lst ds)) e) D) (rel : RelE c σ ⟨F, H, e⟩) (l : LeS σ0 w0 σ ⟨F, H, e⟩) (r : Reps c.b F ys ds) : ∀ S, H S = none → D.rt (.ref S) (upd H S (.lst ys)) := by
  intro S n
  have nf : F S = none := by
    cases q : F S with
    | none => rfl
    | some u => exact (ne_of_none (rel.sm _ _ q : H S = some u) n rfl).elim
  refine q (.ref S) σ F (upd H S (.lst ys)) (rel_upd rel n) (les_upd l n) ⟨S, rfl, .inr (l.free n), nf, ⟨ys, upd_same, r⟩, fun i a b d hi hs => ?_⟩
  obtain ⟨p, h1, h2, h3⟩ := own_some rel hi
  rw [hs] at h1
  cases h1
  obtain ⟨u, hu⟩ := h3.some
  exact ne_of_none hu n rfl
end
theorem execs_app {env : Env} (rest : List Stmt) : ∀ (pre : List Stmt) {K : Flow → Sem PySem.Fin} {J : Value → Sem PySem.Fin} {gd : Bool → Bool} {lv : List Value → List Value},
    (execs (pre ++ rest) env).wrap K J gd lv = (execs pre env).wrap (fun f => match f with | .next => (execs rest env).wrap K J gd lv | f => K f) J gd lv
  | [], _, _, _, _ => rfl
  | st :: pre, K, J, gd, lv => by
    show (execs (st :: (pre ++ rest)) env).wrap K J gd lv = _
    rw [execs_cons_wrap, execs_cons_wrap]
    refine Sem.wrap_congr _ _ _ (fun f => ?_) fun _ => rfl
    cases f with
    | next => exact execs_app rest pre
    | _ => rfl
section
variable {P : Program} {w : World} {K : PySem.W.Frag} {mg : Str → Option Value} {base : Heap}
theorem takes_ep {N : List Str} {qual : Str} {sc : Scope} {f : Addr} {cd : Value} {A : Around} {outer : List Env} {s : Shared} {H : Hp} {E : XK} {pn : List (Addr × Obj)} :
    Takes (gcxOf P w K mg base N qual sc f cd A outer s H (Ep K E pn) pn) (fun cls d _ H' => E cls d H' ∧ PySem.W.subIn K cls (.type "StopIteration") = some false) := fun u s' x => by
  obtain ⟨a, G, sI, pins, σ, H1, cls, d, z1, I, z2, z3, z4, z5, z6, z7, z8⟩ := x
  exact takes_gcx u s' ⟨a, G, sI, pins, σ, H1, cls, d, z1, I, z2, z3, z4, z5, z6, z7, z8, fun p hp => (I.pin p (List.mem_append_left _ hp)).2.1⟩
/-- awake again: pinned anew -/
theorem re_pin {N : List Str} {qual : Str} {sc : Scope} {f : Addr} {cd : Value} {A : Around} {outer : List Env} {s t t' : Shared} {H H1 : Hp} {σ : L2.St} {L : List Addr} {B : List V → Heap → Prop} {ys : List V} {a : Addr} {go : Obj} {pn : List (Addr × Obj)}
    (hgd : ∀ v, go.data ≠ .cell v) (haL : a ∉ L) (hpn : ∀ p ∈ pn, p = (a, go) ∨ p.1 ∈ L) (hag : (a, go) ∈ pn)
    (hL : ∀ b ∈ L, s.heap.objs.size ≤ b ∧ b ≠ s.heap.objs.size ∧ b ∉ frs outer ∧ ∀ y q, (cellsFrom (s.heap.objs.size + 1) sc.names []).lookup y = some q → q ≠ b) (hpL : ∀ b ∈ L, ∃ o, (b, o) ∈ pn)
    (I : Inv (gcw P w K mg base N qual sc f cd A outer s H pn) [] σ H1 t) (z : Wkn L B ys t t') :
    Inv (gcw P w K mg base N qual sc f cd A outer s H ((a, go) :: pinsAt L t'.heap)) [] σ H1 t' := by
  have pin := fun p (hp : p ∈ pn) => I.pin p (List.mem_append_left _ hp)
  have HL : ∀ b ∈ L, H1 b = none := fun b hb => by
    obtain ⟨o, ho⟩ := hpL b hb
    exact (pin _ ho).2.1
  have I0 : Inv (gcw P w K mg base N qual sc f cd A outer s H []) [] σ H1 t := by
    obtain ⟨o, y1, y2, y3, y4, y5, y6, y7, y8, y9, y0⟩ := I
    exact ⟨⟨o.mod, o.kind, o.glob, o.blt, o.above, o.inj, o.has, o.cab, o.hd, o.frames, o.stk, o.exf, o.bs, o.bsz, o.noex, o.exfs, o.funs, o.frf⟩, y1, y2, y3, y4, y5, y6, y7, fun p hp => absurd (show p ∈ ([] : List (Addr × Obj)) ++ [] from hp) (by simp), y9, y0⟩
  have I1 : Inv (gcw P w K mg base N qual sc f cd A outer s H []) [] σ H1 t' := by
    refine I0.call' (ch := L) z.os ⟨fun b o e n hb hx => z.keep b o hx e, fun b o e n hb hx => ⟨o.slots, z.keep b o hx e⟩, fun b o e n hx => n, fun b o e hx => ⟨o, z.keep b o hx e⟩, fun b xs e => e, fun b o u e => e, fun b ps e => ⟨#[], by rw [e]; simp⟩⟩
      (fun b u q => (I0.hok b u q).stay (fun c v hc y => z.keep c v (fun hm => ?_) y) (fun _ y => y) fun _ _ y => y) z.bare fun b hb => ?_
    · rcases hc with y | y
      · rw [← y, HL c hm] at q; cases q
      · rw [HL c hm] at y; cases y
    · obtain ⟨h1, h2, h3, h4⟩ := hL b hb
      exact ⟨.inr h1, h2, h4, fun p hp => absurd (show p ∈ ([] : List (Addr × Obj)) ++ [] from hp) (by simp)⟩
  obtain ⟨o, y1, y2, y3, y4, y5, y6, y7, y8, y9, y0⟩ := I1
  refine ⟨⟨o.mod, o.kind, o.glob, o.blt, o.above, o.inj, o.has, o.cab, o.hd, o.frames, o.stk, o.exf, o.bs, o.bsz, o.noex, o.exfs, o.funs, o.frf⟩, y1, y2, y3, y4, y5, y6, y7, fun p hp => ?_, y9, y0⟩
  have hp : p ∈ ((a, go) :: pinsAt L t'.heap) ++ [] := hp
  rw [List.append_nil] at hp
  rcases List.mem_cons.mp hp with rfl | hp
  · obtain ⟨h1, h2, h3, h4, h5⟩ := pin _ hag
    exact ⟨z.keep _ _ haL h1, h2, h3, h4, h5⟩
  · obtain ⟨h1, h2⟩ := of_pinsAt hp
    obtain ⟨h3, h4, h5, h6⟩ := hL _ h1
    obtain ⟨o2, h7, h8⟩ := z.obj _ h1
    rw [h2] at h7
    cases h7
    exact ⟨h2, HL _ h1, h4, h5, h8⟩
end
end MR
set_option autoImplicit false
namespace MR
open PySem PySem.Spec PyProof.Rows L2 GenW
section
variable {P : Program} {w : World} {K : PySem.W.Frag} {mg : Str → Option Value} {base : Heap}
/-- the loop's code, over the generator's own -/
noncomputable abbrev gzF (env : Env) (R2 : Result → Sem PySem.Fin) (body : List Stmt) (p : Pos) : List Frame := [.ret R2 none false [] (.func body env) p []]
/-- THE LOOP -/
theorem gz_loop {c : Ctx0} {N : List Str} {qual : Str} {sc : Scope} {f : Addr} {cd : Value} {A : Around} {outer : List Env} {s : Shared} {H : Hp} {L : List Addr} {B : List V → Heap → Prop} {a : Addr} {g : Nat} {go : Obj} {Q : VK} {E : XK} {Eo : Option (L2.St → XK)}
    {test elt : Expr} {post body : List Stmt} {yp p1 p : Pos} {mc : En → R Bool} {me : En → R Val} {mp : En → O} {σ0 : L2.St} {w0 : Wd} {R2 : Result → Sem PySem.Fin} {DD : Ends}
    (hgen : ∀ h : Heap, h.get? a = some go → h.IsGen a g) (hgd : ∀ v, go.data ≠ .cell v) (haL : a ∉ L) (hst : Stab L B)
    (hL : ∀ b ∈ L, s.heap.objs.size ≤ b ∧ b ≠ s.heap.objs.size ∧ b ∉ frs outer ∧ ∀ y q, (cellsFrom (s.heap.objs.size + 1) sc.names []).lookup y = some q → q ≠ b)
    (hco : sc.isCoroutine = false) (hin : interactive (envOfC qual sc s.heap.objs.size f cd) = false)
    (hp : ∀ pn, ∃ tc te tp, PT (gcw P w K mg base N qual sc f cd A outer s H pn) test tc ∧ PE (gcw P w K mg base N qual sc f cd A outer s H pn) elt te ∧ PSs (gcw P w K mg base N qual sc f cd A outer s H pn) post tp ∧ SimT c.top none tc mc ∧ SimE c.top none te me ∧ SimS c.top none tp mp)
    (hD : DD.rt = Q)
    (hend : ∀ (n : Nat) (s₀ s1 : Shared), ZEnd P w K outer H s a g L B Q E n s₀ (.ok (.ret .none)) s1 → Seg (model P w) A (ZEnd P w K outer H s a g L B Q E) (ZItem s a g L B) n s₀ (.func body (envOfC qual sc s.heap.objs.size f cd)) (R2 (.ok .next)) [] s1) :
    ∀ (k n : Nat) (ys : List V) (ds : List D) (s₀ t : Shared) (σ : L2.St) (H1 F1 : Hp) (e : En) (pn : List (Addr × Obj)), n + ys.length = sizeLine → (∀ q ∈ pn, q = (a, go) ∨ q.1 ∈ L) → (a, go) ∈ pn → (∀ b ∈ L, ∃ o, (b, o) ∈ pn) → B ys t.heap →
      Inv (gcw P w K mg base N qual sc f cd A outer s H pn) [] σ H1 t → RelE c.top σ ⟨F1, H1, e⟩ → LeS σ0 w0 σ ⟨F1, H1, e⟩ → Reps c F1 ys ds → Co c.top Eo σ0 w0 (genLoop mc me mp k ds e) DD →
      Seg (model P w) A (ZEnd P w K outer H s a g L B Q E) (ZItem s a g L B) n s₀ (.whileLoop test (.Expr (.Yield (some elt) yp) p1 :: post) [] (envOfC qual sc s.heap.objs.size f cd))
        ((model P w).den (.whileLoop test (.Expr (.Yield (some elt) yp) p1 :: post) [] (envOfC qual sc s.heap.objs.size f cd))) (gzF (envOfC qual sc s.heap.objs.size f cd) R2 body p) t := by
  have ov : A.over (.whileLoop test (.Expr (.Yield (some elt) yp) p1 :: post) [] (envOfC qual sc s.heap.objs.size f cd)) (gzF (envOfC qual sc s.heap.objs.size f cd) R2 body p) = A.deeper (envOfC qual sc s.heap.objs.size f cd) := (over_loop rfl rfl).trans over_func
  intro k
  induction k with
  | zero => intro n ys ds s₀ t σ H1 F1 e pn _ _ _ _ _ _ _ _ _ q; exact q.elim
  | succ k ih =>
    intro n ys ds s₀ t σ H1 F1 e pn hn hpn hag hpL hB I rel le rd q
    obtain ⟨tc, te, tp, htc, hte, htp, sc1, sc2, sc3⟩ := hp pn
    refine seg_whileLoop ?_
    rw [ov]
    have q : Co c.top Eo σ0 w0 (match mc e with
      | .ok b e1 => if b = true then (match mD me e1 with
        | .ok d e2 => if ds.length < sizeLine then (match mp e2 with
          | .nx e3 => genLoop mc me mp k (ds ++ [d]) e3
          | _ => .st) else .st
        | _ => .st) else .rt (.new (.lst ds)) e1
      | _ => .st) DD := q
    have kb : ∀ {t' : Shared} {σ' : L2.St} {H' : Hp}, Inv (gcw P w K mg base N qual sc f cd A outer s H pn) [] σ' H' t' → B ys t'.heap := fun {t' σ' H'} I' => hst ys t.heap t'.heap (fun b hb o ho => by
      obtain ⟨o2, h2⟩ := hpL b hb
      have e1 := (I.pin _ (List.mem_append_left _ h2)).1
      have e2 := (I'.pin _ (List.mem_append_left _ h2)).1
      rw [ho] at e1
      cases e1
      exact e2) hB
    have hHL : ∀ {t' : Shared} {σ' : L2.St} {H' : Hp}, Inv (gcw P w K mg base N qual sc f cd A outer s H pn) [] σ' H' t' → ∀ b ∈ L, H' b = none := fun {t' σ' H'} I' b hb => by
      obtain ⟨o2, h2⟩ := hpL b hb
      exact (I'.pin _ (List.mem_append_left _ h2)).2.1
    refine wpAny_mono (htc.run [] t σ H1 (fun b H2 => ∃ F2 e2, RelE c.top σ ⟨F2, H2, e2⟩ ∧ LeS σ ⟨F1, H1, e⟩ σ ⟨F2, H2, e2⟩ ∧ Co c.top Eo σ0 w0 (if b = true then (match mD me e2 with
        | .ok d e2 => if ds.length < sizeLine then (match mp e2 with
          | .nx e3 => genLoop mc me mp k (ds ++ [d]) e3
          | _ => .st) else .st
        | _ => .st) else .rt (.new (.lst ds)) e2) DD) I (sc1 σ ⟨F1, H1, e⟩ _ rel ?_)) (fun b t2 hb => ?_) fun _ _ hx => hx.elim
    · cases hm : mc e with
      | st => rw [hm] at q; exact q.elim
      | er x e1 => rw [hm] at q; exact q.elim
      | ok b e1 =>
        rw [hm] at q
        exact fun F' H' r l => ⟨F', e1, r, l, q⟩
    obtain ⟨H2, I2, F2, e2, rel2, le2, q2⟩ := hb
    have le02 := le.trans le2
    have rd2 := rd.mono le2.ff
    cases b with
    | false =>
      rw [if_neg Bool.false_ne_true] at q2 ⊢
      refine seg_execs_nil ?_
      refine seg_leaf (.ok .next) (hend n s₀ t2 (.inl ⟨.inl rfl, H2, ys, I2.os, I2.bare, I2.base, I2.hok, hHL I2, kb I2, by omega, ?_⟩))
      have := done_list q2 rel2 le02 rd2
      rw [hD] at this
      exact this
    | true =>
      rw [if_pos rfl] at q2 ⊢
      refine seg_execs_cons ?_
      cases hd : mD me e2 with
      | st => rw [hd] at q2; exact q2.elim
      | er x e3 => rw [hd] at q2; exact q2.elim
      | ok d e3 =>
      rw [hd] at q2
      have q2 : Co c.top Eo σ0 w0 (if ds.length < sizeLine then (match mp e3 with
          | .nx e3 => genLoop mc me mp k (ds ++ [d]) e3
          | _ => .st) else .st) DD := q2
      by_cases hlt : ds.length < sizeLine
      case neg => rw [if_neg hlt] at q2; exact q2.elim
      rw [if_pos hlt] at q2
      have hyl : ys.length = ds.length := rd.len
      obtain ⟨n, rfl⟩ : ∃ m, n = m + 1 := ⟨n - 1, by omega⟩
      refine seg_Expr_Yield rfl rfl rfl ?_ hco hin
      rw [ov]
      refine wpAny_mono (hte.run [] t2 σ H2 (fun v H3 => ∃ F3, RelE c.top σ ⟨F3, H3, e3⟩ ∧ LeS σ ⟨F2, H2, e2⟩ σ ⟨F3, H3, e3⟩ ∧ Rep c F3 v d) I2 (sc2.d σ ⟨F2, H2, e2⟩ _ rel2 ?_)) (fun v t3 hv => ?_) fun _ _ hx => hx.elim
      · show Cn c.top none σ ⟨F2, H2, e2⟩ (mD me e2) _
        rw [hd]
        exact fun v F' H' r l rp => ⟨F', r, l, rp⟩
      obtain ⟨x, H3, I3, rv, F3, rel3, le3, rp⟩ := hv
      intro kap hk
      refine ⟨ys, x, hn, rv, I3.os, I3.bare, I3.nolimit, hgen _ (I3.pin _ (List.mem_append_left _ hag)).1, kb I3, fun t4 z => hk .none t4 ?_⟩
      have I4 := re_pin hgd haL hpn hag hL hpL I3 z
      have hpn4 : ∀ q ∈ ((a, go) :: pinsAt L t4.heap), q = (a, go) ∨ q.1 ∈ L := fun q hq => by
        rcases List.mem_cons.mp hq with h | h
        · exact .inl h
        · exact .inr (of_pinsAt h).1
      have hpL4 : ∀ b ∈ L, ∃ o, (b, o) ∈ ((a, go) :: pinsAt L t4.heap) := fun b hb => by
        obtain ⟨o, ho, _⟩ := z.obj b hb
        exact ⟨o, List.mem_cons_of_mem _ (mem_pinsAt hb ho)⟩
      obtain ⟨_, _, tp4, _, _, htp4, _, _, sc4⟩ := hp ((a, go) :: pinsAt L t4.heap)
      refine seg_wrap ?_
      rw [ov]
      refine wpAny_mono (htp4.run [] t4 σ H3 { nx := fun σ5 H5 => ∃ F5 e5, RelE c.top σ5 ⟨F5, H5, e5⟩ ∧ LeS σ ⟨F3, H3, e3⟩ σ5 ⟨F5, H5, e5⟩ ∧ Co c.top Eo σ0 w0 (genLoop mc me mp k (ds ++ [d]) e5) DD, rt := fun _ _ => False } I4 (sc4 σ ⟨F3, H3, e3⟩ _ rel3 ?_)) (fun fl t5 h5 => ?_) fun _ _ hx => hx.elim
      · show Co c.top none σ ⟨F3, H3, e3⟩ (mp e3) _
        cases hm : mp e3 with
        | nx e5 =>
          rw [hm] at q2
          exact ⟨fun σ' F' H' r l => ⟨F', e5, r, l, q2⟩⟩
        | _ => rw [hm] at q2; exact q2.elim
      cases fl with
      | next =>
        obtain ⟨σ5, H5, I5, F5, e5, rel5, le5, q5⟩ := h5
        have rp3 : Reps c F3 (ys ++ [x]) (ds ++ [d]) := (rd2.mono le3.ff).app (.cons rp .nil)
        have hB5 : B (ys ++ [x]) t5.heap := hst (ys ++ [x]) t4.heap t5.heap (fun b hb o ho => (I5.pin (b, o) (List.mem_append_left _ (List.mem_cons_of_mem _ (mem_pinsAt hb ho)))).1) z.held
        refine seg_again rfl (ih n (ys ++ [x]) (ds ++ [d]) t4 t5 σ5 H5 F5 e5 _ ?_ hpn4 List.mem_cons_self hpL4 hB5 I5 rel5 ((le02.trans le3).trans le5) (rp3.mono le5.ff) q5)
        rw [List.length_append, List.length_singleton]
        omega
      | brk => obtain ⟨_, _, _, h⟩ := h5; exact h.elim
      | cont => obtain ⟨_, _, _, h⟩ := h5; exact h.elim
      | ret u => obtain ⟨_, _, _, _, _, h⟩ := h5; exact h.elim
end
end MR
set_option autoImplicit false
namespace MR
open PySem PySem.Spec PyProof.Rows L2 GenW
section
variable {P : Program} {w : World} {K : PySem.W.Frag} {mg : Str → Option Value} {base : Heap}
noncomputable abbrev endsQ (Q : VK) : Ends := { nx := fun _ H => Q .non H, rt := Q }
/-- THE RULE: a generator def: plain statements, then a while whose body begins with its one yield -/
theorem gen_fn {c : Ctx0} {x qual : Str} {st : Stmt} {f : Addr} {fd : FuncData} {N ps : List Str} {k kk : Nat} {pre post : List Stmt} {test elt : Expr} {yp p1 p2 : Pos} {ok : List Str} {m1 : En → O} {mc : En → R Bool} {me : En → R Val} {mp : En → O}
    (Fn : Fun K x qual st f fd) (S : GScope N ps (defScope st)) (hb : defBody st = pre ++ [.While test (.Expr (.Yield (some elt) yp) p1 :: post) [] p2])
    (hok : ∀ n ∈ ok, PySem.W.subIn K (.ref (c.cls n)) (.type "StopIteration") = some false)
    (h1 : ∀ (cdv : Value) (A : Around) (outer : List Env) (s : Shared) (H : Hp) (E : XK) (pn : List (Addr × Obj)), Room k (A.deeper (envOfC qual (defScope st) s.heap.objs.size f cdv)) →
      Takes (gcxOf P w K mg base N qual (defScope st) f cdv A outer s H (Ep K E pn) pn) (fun cls d _ H' => E cls d H' ∧ PySem.W.subIn K cls (.type "StopIteration") = some false) →
      ∃ t, PSs (gcxOf P w K mg base N qual (defScope st) f cdv A outer s H (Ep K E pn) pn) pre t ∧ SimS c.top (some fun _ cls d H' => E cls d H' ∧ PySem.W.subIn K cls (.type "StopIteration") = some false) t m1)
    (h2 : ∀ (cdv : Value) (A : Around) (outer : List Env) (s : Shared) (H : Hp), Room k (A.deeper (envOfC qual (defScope st) s.heap.objs.size f cdv)) → interactive (envOfC qual (defScope st) s.heap.objs.size f cdv) = false ∧
      ∀ pn, ∃ tc te tp, PT (gcw P w K mg base N qual (defScope st) f cdv A outer s H pn) test tc ∧ PE (gcw P w K mg base N qual (defScope st) f cdv A outer s H pn) elt te ∧ PSs (gcw P w K mg base N qual (defScope st) f cdv A outer s H pn) post tp ∧ SimT c.top none tc mc ∧ SimE c.top none te me ∧ SimS c.top none tp mp) :
    ZFn P w K mg base (k + 1) f fd ps (spM c true ps.length N (mGen ok m1 mc me mp kk)) := by
  obtain ⟨oc, od, kV, doc, pm, an, cdv, ct, osl, rfl, lk, hcd⟩ := Fn.ex
  refine ⟨fun vs H Q E h => h.1, fun A outer s H args us vs Q E hr e0 hbt r hsp => ?_⟩
  obtain ⟨hl, F0, env0, rel0, _, q0⟩ := hsp
  have KX : K.In s.heap := e0.mod.kin.keeps fun b o e => (e0.bs b o e).1
  have lim : s.heap.NoLimit := e0.mod.nolimit.keeps fun b o e => (e0.bs b o e).1
  have hkind : ∀ y ∈ ps.zip us, (defScope st).names.lookup y.1 = some .local ∨ ((defScope st).names.lookup y.1 = some .cell ∧ ((cellsFrom (s.heap.objs.size + 1) (defScope st).names []).lookup y.1).isSome = true) := by
    rintro ⟨n, v⟩ hy
    exact (S.par n (List.of_mem_zip hy).1).imp id fun q => ⟨q, PySem.W.cellsFrom_some _ _ _ (.inl q)⟩
  refine codeAny_call_generator hr.depth (KX _ _ lk) rfl S.co S.gen rfl (PySem.W.codeRec_of KX hcd) (hbt _ _ _ _ ?_)
  refine wpAny_newFunctionEnv_cells S.kind hkind fun env he s1 x => ?_
  subst he
  refine ⟨lim.keeps x.toInCall.keep, ?_⟩
  obtain ⟨hh1, tk, es1, hk1⟩ := x.done
  have os1 : s1.os = s.os := by rw [es1]
  have gen1 : s1.gens = s.gens := by rw [es1]
  have lt1 : s.heap.objs.size < s1.heap.objs.size := x.toInCall.ns.lt
  have kp1 : ∀ b o, s.heap.get? b = some o → s1.heap.get? b = some o := x.toInCall.keep
  have main : ∀ (go : Obj) (nm qn : Value) (tk2 : Nat), go.cls = .type "generator" → go.data = .fields #[.int s1.gens.size 0, nm, qn] → go.slots = #[] → (∀ h : Heap, (h.push go).get? h.objs.size = some go) →
      ZMade P w K (k + 1) outer H s Q E (.ref s1.heap.objs.size) { s1 with gens := s1.gens.push (.fresh (.func (defBody st) (envOfC qual (defScope st) s.heap.objs.size f cdv))), toks := tk2, heap := s1.heap.push go } := by
    intro go nm qn tk2 hgc hgd0 hgs hgp
    have hgen : ∀ h : Heap, h.get? s1.heap.objs.size = some go → h.IsGen s1.heap.objs.size s1.gens.size := fun h e => ⟨go, nm, qn, e, hgc, hgd0, hgs⟩
    refine ⟨s1.heap.objs.size, s1.gens.size, _, rfl, Nat.le_of_lt lt1, hgen _ (hgp _), Array.getElem?_push_size .., os1, AllBare.push (by rw [gen1]; exact e0.bare) rfl, fun b o e => Heap.get?_push_of_some _ (kp1 b o e), ?_⟩
    intro Aw L B s2 hrw hfr hLs hst hk2 hwk hos
    have e0w : Env0 P w K mg base Aw outer s H := ⟨hfr, e0.mod, e0.bs, e0.bsz, e0.funs, e0.frf, e0.hok, e0.bare⟩
    have hLs : ∀ b ∈ L, s1.heap.objs.size < b := fun b hb => by
      have z : (s1.heap.push go).objs.size ≤ b := hLs b hb
      rw [Heap.size_push] at z
      exact z
    have haL : s1.heap.objs.size ∉ L := fun h => Nat.lt_irrefl _ (hLs _ h)
    have hgd : ∀ v, go.data ≠ .cell v := fun v q => by rw [hgd0] at q; cases q
    have hpn : ∀ q ∈ ((s1.heap.objs.size, go) :: pinsAt L s2.heap), q = (s1.heap.objs.size, go) ∨ q.1 ∈ L := fun q hq => (List.mem_cons.mp hq).imp id fun h => (of_pinsAt h).1
    have hpL : ∀ b ∈ L, ∃ o, (b, o) ∈ ((s1.heap.objs.size, go) :: pinsAt L s2.heap) := fun b hb => by
      obtain ⟨o, ho, _⟩ := hwk.obj b hb
      exact ⟨o, List.mem_cons_of_mem _ (mem_pinsAt hb ho)⟩
    have I1 : Inv (gcxOf P w K mg base N qual (defScope st) f cdv Aw outer s H (Ep K E ((s1.heap.objs.size, go) :: pinsAt L s2.heap)) []) [] (start N vs) H s1 := inv_startG S hrw.hd e0w hl r x
    have kp2 : ∀ b o, s1.heap.get? b = some o → s2.heap.get? b = some o := fun b o e => hk2 b o (Heap.get?_push_of_some _ e)
    have I2 : Inv (gcxOf P w K mg base N qual (defScope st) f cdv Aw outer s H (Ep K E ((s1.heap.objs.size, go) :: pinsAt L s2.heap)) []) [] (start N vs) H s2 := I1.call' (ch := []) (hos.trans os1.symm) (Un.kept kp2) (I1.hok.kept kp2) hwk.bare fun b z => nomatch z
    have young : ∀ b, s1.heap.objs.size ≤ b → H b = none ∧ b ≠ s.heap.objs.size ∧ b ∉ frs outer ∧ s.heap.objs.size ≤ b ∧ ∀ y q, (cellsFrom (s.heap.objs.size + 1) (defScope st).names []).lookup y = some q → q ≠ b := fun b hbs => by
      refine ⟨I1.hok.fresh hbs, Nat.ne_of_gt (Nat.lt_of_lt_of_le lt1 hbs), I1.nofs hbs, Nat.le_trans (Nat.le_of_lt lt1) hbs, fun y q e z => ?_⟩
      obtain ⟨v, ob, ho, _⟩ := I1.cell y q e
      have h9 := Heap.lt_size ho
      rw [z] at h9
      exact absurd (Nat.lt_of_lt_of_le h9 hbs) (Nat.lt_irrefl _)
    have hL : ∀ b ∈ L, s.heap.objs.size ≤ b ∧ b ≠ s.heap.objs.size ∧ b ∉ frs outer ∧ ∀ y q, (cellsFrom (s.heap.objs.size + 1) (defScope st).names []).lookup y = some q → q ≠ b := fun b hb => by
      obtain ⟨_, y2, y3, y4, y5⟩ := young b (Nat.le_of_lt (hLs b hb))
      exact ⟨y4, y2, y3, y5⟩
    have I3 : Inv (gcxOf P w K mg base N qual (defScope st) f cdv Aw outer s H (Ep K E ((s1.heap.objs.size, go) :: pinsAt L s2.heap)) ((s1.heap.objs.size, go) :: pinsAt L s2.heap)) [] (start N vs) H s2 := by
      refine Inv.pinnedG I2 fun p hp => ?_
      rw [List.append_nil] at hp
      rcases List.mem_cons.mp hp with rfl | hp
      · obtain ⟨y1, y2, y3, _, _⟩ := young s1.heap.objs.size (Nat.le_refl _)
        exact ⟨hk2 _ go (hgp _), y1, y2, y3, hgd⟩
      · obtain ⟨g1, g2⟩ := of_pinsAt hp
        obtain ⟨y1, y2, y3, _, _⟩ := young p.1 (Nat.le_of_lt (hLs _ g1))
        obtain ⟨o2, h7, h8⟩ := hwk.obj _ g1
        rw [g2] at h7
        cases h7
        exact ⟨g2, y1, y2, y3, h8⟩
    generalize hpne : ((s1.heap.objs.size, go) :: pinsAt L s2.heap) = pn at I3 hpn hpL
    have hag : (s1.heap.objs.size, go) ∈ pn := by rw [← hpne]; exact List.mem_cons_self
    obtain ⟨t1, ht1, st1⟩ := h1 cdv Aw outer s H E pn (hrw.deeper _) takes_ep
    obtain ⟨hint, hlp⟩ := h2 cdv Aw outer s H (hrw.deeper _)
    have kb : ∀ {t' : Shared} {σ' : L2.St} {H' : Hp} {E' : XK}, Inv (gcxOf P w K mg base N qual (defScope st) f cdv Aw outer s H E' pn) [] σ' H' t' → B [] t'.heap ∧ ∀ b ∈ L, H' b = none := fun {t' σ' H' E'} I' => ⟨hst [] s2.heap t'.heap (fun b hb o ho => by
      obtain ⟨o2, h2⟩ := hpL b hb
      have e1 := (I3.pin _ (List.mem_append_left _ h2)).1
      have e2 := (I'.pin _ (List.mem_append_left _ h2)).1
      rw [ho] at e1
      cases e1
      exact e2) hwk.held, fun b hb => by
      obtain ⟨o2, h2⟩ := hpL b hb
      exact (I'.pin _ (List.mem_append_left _ h2)).2.1⟩
    have q0 : Co c.top (some fun _ => E) (start N vs) ⟨F0, H, env0⟩ (match m1 env0 with
      | .nx e1 => genLoop mc me mp kk [] e1
      | .rt (.fz .non) e1 => .rt (.new (.lst [])) e1
      | .er x e1 => if ok.contains x.n = true then .er x e1 else .st
      | _ => .st) (endsQ Q) := q0
    refine seg_func ?_
    rw [hb, execs_app]
    refine seg_wrap ?_
    rw [over_func]
    refine wpAny_mono (ht1.run [] s2 (start N vs) H { nx := fun σ1 H1 => ∃ F1 e1, RelE c.top σ1 ⟨F1, H1, e1⟩ ∧ LeS (start N vs) ⟨F0, H, env0⟩ σ1 ⟨F1, H1, e1⟩ ∧ Co c.top (some fun _ => E) (start N vs) ⟨F0, H, env0⟩ (genLoop mc me mp kk [] e1) (endsQ Q), rt := fun v H1 => v = .non ∧ ∀ S, H1 S = none → Q (.ref S) (upd H1 S (.lst [])) } I3 (st1 (start N vs) ⟨F0, H, env0⟩ _ rel0 ?_)) (fun fl t3 h3 => ?_) fun e t3 hx => ?_
    · cases hm : m1 env0 with
      | st => rw [hm] at q0; exact q0.elim
      | bk _ => rw [hm] at q0; exact q0.elim
      | ct _ => rw [hm] at q0; exact q0.elim
      | nx e1 =>
        rw [hm] at q0
        exact ⟨fun σ' F' H' r l => ⟨F', e1, r, l, q0⟩⟩
      | rt v e1 =>
        rw [hm] at q0
        cases v with
        | fz d =>
          cases d with
          | non =>
            intro v σ' F' H' r l vt
            refine ⟨by cases vt; rfl, ?_⟩
            exact done_list (ds := []) (ys := []) q0 r l .nil
          | _ => exact q0.elim
        | _ => exact q0.elim
      | er y e1 =>
        rw [hm] at q0
        have q0 : Co c.top (some fun _ => E) (start N vs) ⟨F0, H, env0⟩ (if ok.contains y.n = true then .er y e1 else .st) (endsQ Q) := q0
        by_cases hc : ok.contains y.n = true
        case neg => rw [if_neg hc] at q0; exact q0.elim
        rw [if_pos hc] at q0
        intro σ' cls d F' H' r l xr
        refine ⟨q0 σ' cls d F' H' r l xr, ?_⟩
        rw [show cls = _ from xr.1]
        exact hok _ (List.contains_iff_mem.mp hc)
    · cases fl with
      | next =>
        obtain ⟨σ1, H1, J1, F1, e1, rel1, le1, q1⟩ := h3
        have J2 : Inv (gcw P w K mg base N qual (defScope st) f cdv Aw outer s H pn) [] σ1 H1 t3 := by
          have j := inv_nox J1
          exact j
        refine seg_execs_cons ?_
        refine seg_While fun p => ?_
        refine gz_loop (R2 := _) (DD := _) (E := E) hgen hgd haL hst hL S.co hint hlp rfl (fun n s₀ t hz => ?_) kk sizeLine [] [] s2 t3 σ1 H1 F1 e1 pn (by rfl) hpn hag hpL (kb J1).1 J2 rel1 le1 .nil q1
        exact seg_end (.ok (.ret .none)) hz
      | brk => obtain ⟨_, _, _, h⟩ := h3; exact h.elim
      | cont => obtain ⟨_, _, _, h⟩ := h3; exact h.elim
      | ret u =>
        obtain ⟨v, σ1, H1, J1, rv, rfl, hq⟩ := h3
        obtain rfl : u = Value.none := rv
        obtain ⟨b1, b2⟩ := kb J1
        exact seg_end (.ok (.ret .none)) (.inl ⟨.inl rfl, H1, [], J1.os, J1.bare, J1.base, J1.hok, b2, b1, Nat.zero_le _, hq⟩)
    · refine seg_wrap ?_
      rw [over_func]
      refine wpAny_mono (show wpAny (model P w) (Aw.deeper (envOfC qual (defScope st) s.heap.objs.size f cdv)) (leaving (envOfC qual (defScope st) s.heap.objs.size f cdv) e) (fun _ s'' => L2.CX P w outer H s (Ep K E pn) e s'' ∧ ∀ p ∈ pn, s''.heap.get? p.1 = some p.2) (fun _ _ => False) t3 from hx) (fun _ s'' q => ?_) fun _ s'' q => q.elim
      refine seg_end (.error e) (.inr ⟨e, rfl, pn, [], q.1, hgen _ (q.2 _ hag), hst [] s2.heap s''.heap (fun b hb o ho => ?_) hwk.held, hpL⟩)
      obtain ⟨o2, h2⟩ := hpL b hb
      have e1 := (I3.pin _ (List.mem_append_left _ h2)).1
      rw [ho] at e1
      cases e1
      exact q.2 _ h2
  exact main _ _ _ _ rfl rfl rfl fun h => Heap.get?_push_size _ rfl
end
end MR
set_option autoImplicit false
namespace MR
open PySem PySem.Spec PyProof.Rows L2 GenW
section
variable {X : Cx} {W : WX} {E : XK} {pins : List (Addr × Obj)} {σ : L2.St} {H : Hp} {sc s' : Shared}
/-- an exception that this frame has noted is in our air -/
theorem xe_held (I : Inv X pins σ H sc) {a : Addr} {B : Heap} {H' : Hp} {cls : Value} {d : Option Addr} (hh : HandSPX.HeldZ B X.stack a (Zc cls d) X.env.locals s'.heap) (hok : HOk X.prog X.w H' B) (ub : UB (frs X.stack) H H' sc.heap B s'.heap)
    (na : H' a = none) (os : s'.os = sc.os) (ag : AllBare s'.gens) (hw : W cls d σ H') : XE X W (.ref a) s' := by
  obtain ⟨G, g1, g2⟩ := restrict s'.heap fun b => (B.get? b).isSome || decide (b ∈ frs X.stack)
  have up : ∀ b o, B.get? b = some o → G.get? b = some o := fun b o e => (g1 b (by simp [e])).trans (hh.1 b o e)
  have fr : ∀ b, b ∈ frs X.stack → G.get? b = s'.heap.get? b := fun b hb => g1 b (by simp [hb])
  have dn : ∀ b o, G.get? b = some o → s'.heap.get? b = some o ∧ (B.get? b = some o ∨ b ∈ frs X.stack) := fun b o e => by
    by_cases hb : b ∈ frs X.stack
    · exact ⟨(fr b hb).symm.trans e, .inr hb⟩
    · cases q : B.get? b with
      | none => rw [g2 b (by simp [q, hb])] at e; cases e
      | some o' =>
        have e2 := up b o' q
        rw [e] at e2
        cases e2
        exact ⟨hh.1 b o q, .inl rfl⟩
  refine ⟨a, B, { sc with heap := G, gens := s'.gens, drawn := s'.drawn, toks := s'.toks }, pins, σ, H', cls, d, rfl, ?_, fun b o e hb => (dn b o e).2.resolve_right hb, Heap.UpToSlots.of_keeps fun b o e => (dn b o e).1, .inr (.inr hh), na, os, ag, hw⟩
  refine I.call (ch := []) ⟨fun b o e n hb _ => up b o (ub.keep b o e n hb), fun b o e n hb _ => ?_, fun b o e n _ => ub.free b o e n, fun b o e _ => ?_, ub.tups, ub.frzs, ub.tbls⟩ (hok.kept up) ag (fun _ z => nomatch z)
  · obtain ⟨sl, q⟩ := ub.slot b o e hb
    exact ⟨sl, (fr b hb).trans q⟩
  · by_cases hb : b ∈ frs X.stack
    · obtain ⟨sl, q⟩ := ub.slot b o e hb
      exact ⟨_, (fr b hb).trans q⟩
    · obtain ⟨o', q⟩ := ub.there b o e hb
      exact ⟨o', up b o' q⟩
/-- what a comprehension over a generator lets out -/
noncomputable def CompPass (X : Cx) (E : XK) : Prop := ∀ (pins pn : List (Addr × Obj)) (σ : L2.St) (H : Hp) (sc s' : Shared) (e : Value) (cenv : Env) (m : Str → Option Value), Inv X pins σ H sc → L2.CX X.prog X.w X.stack H sc (Ep X.K E pn) e s' → sc.heap.objs.size ≤ cenv.locals →
  (∃ o, (cenv.locals, o) ∈ pn) → cenv.frame = X.env.frame → s'.heap.Ns cenv.locals m → notedBy (model X.prog X.w) X.A cenv (CompFails (model X.prog X.w) X.A X.xe cenv) e s'
theorem comp_pass0 : CompPass X (fun _ _ _ => False) := by
  intro pins pn σ H sc s' e cenv m I cx
  obtain ⟨a, B, H', cls, d, _, _, _, _, _, _, _, ⟨⟨h, _⟩, _⟩⟩ := cx
  exact h.elim
theorem comp_pass (tk : Takes X W) (hs : X.stack = X.env :: X.outer) (hf : X.env.frame = some X.env.locals) (hW : ∀ cls d σ H, E cls d H → W cls d σ H) : CompPass X E := by
  intro pins pn σ H sc s' e cenv m I cx hC hCp hcf hn
  obtain ⟨a, B, H', cls, d, rfl, fl, hok, ub, na, os, ag, ⟨⟨hE, _⟩, hp⟩⟩ := cx
  obtain ⟨oc, hoc⟩ := hCp
  have hHC : H' cenv.locals = none := hp _ hoc
  obtain ⟨G, g1, g2⟩ := restrict B fun b => !(b == cenv.locals)
  have gB : ∀ b o, G.get? b = some o → B.get? b = some o ∧ b ≠ cenv.locals := fun b o e => by
    by_cases hb : b = cenv.locals
    · rw [g2 b (by simp [hb])] at e; cases e
    · exact ⟨(g1 b (by simp [hb])).symm.trans e, hb⟩
  have Bg : ∀ b o, B.get? b = some o → b ≠ cenv.locals → G.get? b = some o := fun b o e hb => (g1 b (by simp [hb])).trans e
  have gn : ∀ b, B.get? b = none → G.get? b = none := fun b e => by
    cases q : G.get? b with
    | none => rfl
    | some o => rw [(gB b o q).1] at e; cases e
  have lt : ∀ b o, sc.heap.get? b = some o → b ≠ cenv.locals := fun b o e => Nat.ne_of_lt (Nat.lt_of_lt_of_le (Heap.lt_size e) hC)
  have hfr : X.A.frames = some (X.env :: X.outer) := by rw [I.ok.frames, hs]
  obtain ⟨f1, f2, f3, oe, vs, T, oT, ts, he, hz, hd, h1, hnT, hTe, hT, hdT, h3⟩ := fl
  rw [hs] at f3
  have flG : HandSPX.FlyingZ G (X.env :: X.outer) a (Zc cls d) s'.heap := ⟨fun b o e => f1 b o (gB b o e).1, gn a f2, funFrames_none f3 fun L hL => gn L (f3.mem hL).1, oe, vs, T, oT, ts, he, hz, hd, h1, gn T hnT, hTe, hT, hdT, h3⟩
  show wpAny (model X.prog X.w) X.A (noteFrame (.ref a) cenv) _ _ s'
  rw [noteFrame_env _ hcf]
  refine HandSPX.looks_onZ Zc.steady hfr hf flG fun h1' held up1 => ?_
  have hn1 : h1'.Ns cenv.locals m := hn.upToSlots up1
  refine ⟨m, hn1, fun h2 m2 hn2 sb => ?_⟩
  obtain ⟨k1, k2, k3, oe', vs', T', oT', ts', he', hz', hd', h1'', hnT', hTe', hT', hdT', h3'⟩ := held
  obtain ⟨oC, es, ep, hoC, hdC, _⟩ := id hn1
  have aC : a ≠ cenv.locals := fun z => by
    rw [z] at he'
    rw [hoC] at he'
    cases he'
    rw [hdC] at hd'
    cases hd'
  have TC : T' ≠ cenv.locals := fun z => by
    rw [z] at hT'
    rw [hoC] at hT'
    cases hT'
    rw [hdC] at hdT'
    cases hdT'
  have held2 : HandSPX.HeldZ G (X.env :: X.outer) a (Zc cls d) X.env.locals h2 := ⟨fun b o e => (sb.2 b (gB b o e).2).trans (k1 b o e), k2, Heap.FunFrames.sameBut sb hn2 k3, oe', vs', T', oT', ts', (sb.2 a aC).trans he', hz', hd', h1'', hnT', hTe', (sb.2 T' TC).trans hT', hdT', h3'⟩
  unfold PySem.passOn
  refine wpAny_bind (wpAny_field (s := { s' with heap := h2 }) ((sb.2 a aC).trans he') hd' h1'' ?_)
  rw [if_neg (show ¬ ((Value.ref T' == Value.none) = true) from by simp), hcf, hf]
  refine wpAny_bind (HandSPX.setFlight_onZ (s := { s' with heap := h2 }) held2 fun h3 held3 up3 => wpAny_throw (tk _ _ ?_))
  have up : ∀ b o, s'.heap.get? b = some o → b ≠ cenv.locals → (∀ vs, o.data ≠ .fields vs) → ∃ sl, h3.get? b = some { o with slots := sl } := fun b o e hb hnf => by
    obtain ⟨sl, e1⟩ := up1 b o e hnf
    have e2 := (sb.2 b hb).trans e1
    obtain ⟨sl2, e3⟩ := up3 b _ e2 hnf
    exact ⟨sl2, e3⟩
  refine xe_held (s' := { s' with heap := h3 }) I (B := G) (H' := H') (by rw [hs]; exact held3) ?_ ⟨fun b o e n hb => Bg b o (ub.keep b o e n hb) (lt b o e), fun b o e hb => ?_, ub.free, fun b o e hb => ?_, ub.tups, ub.frzs, ub.tbls⟩ na os ag (hW _ _ _ _ hE)
  · exact fun b u q => (hok b u q).stay (fun c v hc y => Bg c v y fun z => by
      rcases hc with y2 | y2
      · rw [← y2, z, hHC] at q; cases q
      · rw [z, hHC] at y2; cases y2) (fun _ y => y) fun _ _ y => y
  · obtain ⟨_, o₀, e₀, hnf⟩ := I.stack.mem hb
    rw [e] at e₀
    cases e₀
    obtain ⟨sl, e1⟩ := ub.slot b o e hb
    obtain ⟨sl2, e2⟩ := up b _ e1 (lt b o e) hnf
    exact ⟨sl2, e2⟩
  · obtain ⟨o', e1⟩ := ub.there b o e hb
    exact ⟨o', Bg b o' e1 (lt b o e)⟩
end
end MR
set_option autoImplicit false
namespace MR
open PySem PySem.Spec PyProof.Rows L2 GenW
/-- an expression that makes a generator; its items' list is what is told -/
structure PZ (X : Cx) (k : Nat) (e : Expr) (t : TE) (E : XK) : Prop where
  run : ∀ (pins : List (Addr × Obj)) (s : Shared) (σ : L2.St) (H : Hp) (Q : VK), Inv X pins σ H s → t σ H Q →
    wpAny (model X.prog X.w) X.A (eval e X.env) (fun u s' => ∃ H1 sc, Inv X pins σ H1 sc ∧ ZMade X.prog X.w X.K k X.stack H1 sc Q E u s') X.xe s
theorem zfn_false {P : Program} {w : World} {K : PySem.W.Frag} {mg : Str → Option Value} {base : Heap} {k : Nat} {f : Addr} {fd : FuncData} {ps : List Str} {c : Ctx0} {j : Nat} {N : List Str} {m : En → O} (F : ZFn P w K mg base k f fd ps (spM c true j N m)) : ZFn P w K mg base k f fd ps (spM c false j N m) := by
  have im : ∀ {vs H Q E}, spM c false j N m vs H Q E → spM c true j N m vs H Q E := fun {vs H Q E} h => by
    obtain ⟨h1, G, env, h2, h3, h4⟩ := h
    refine ⟨h1, G, env, h2, h3, ?_⟩
    have h4 : Co c.top none (start N vs) ⟨G, H, env⟩ (m env) _ := h4
    show Co c.top (some fun _ => E) (start N vs) ⟨G, H, env⟩ (m env) _
    cases hm : m env with
    | er x e => rw [hm] at h4; exact h4.elim
    | _ => rw [hm] at h4; exact h4
  exact ⟨fun vs H Q E h => F.len _ _ _ _ (im h), fun A outer s H args us vs Q E hr e0 hb r h => F.run A outer s H args us vs Q E hr e0 hb r (im h)⟩
section
variable {X : Cx} {k : Nat} {f : Addr} {fd : FuncData} {ps : List Str} {sp : Sp} {dvs : List V} {ds : List Value} {x : Str} {p pos' : Pos} {E : XK} {e : Expr} {es : List Expr} {t : TA}
theorem pz_call (F : ZFn X.prog X.w X.K X.mg X.base k f fd ps sp) (hr : Room k X.A) (hg : Gl X x) (hm : X.mg x = some (.ref f)) (hk : PySem.W.keepIn X.K (.ref f) = true) (hb : Binds X.K fd ps ds) (hd : Vals dvs ds) (ha : PA X (e :: es) t)
    (hdb : (x == ("__debug__" : Str)) = false := by decide) (he : starEach (e :: es) X.env = (false, eval e X.env) :: starEach es X.env := by rfl) (hpl : (backTo pos' (starEach es X.env)).any (·.1) = false := by rfl) :
    PZ X k (.Call (.Name x p) (e :: es) [] pos') (tCall sp dvs E t) E := by
  refine ⟨fun pl st τ G Q I h => wpAny_Call_Name_kw (ld_glob I hg hm ?_ hdb)⟩
  refine PySem.W.callWith_K (h₀ := X.base) I.ok.mod.kin hk (thn (ha.run pos' pl st τ G _ I h) ?_) he hpl
  rintro us s1 ⟨vs, H1, I1, r, q⟩
  refine ⟨I1.kIn, ?_⟩
  have rr : Vals (vs ++ dvs) (us ++ ds) := r.append hd
  refine wpAny_call (codeAny_mono (F.run X.A X.stack s1 H1 ⟨us, []⟩ (us ++ ds) (vs ++ dvs) Q E hr I1.env0 (hb s1 us I1.kIn (rr.length.symm.trans (F.len _ _ _ _ q))) rr q) fun rs s2 hq => ?_)
  cases rs with
  | error er => exact hq.elim
  | ok fl => cases fl with
    | ret u => exact ⟨H1, s1, I1, hq⟩
    | _ => exact hq.elim
end
/-- the consumer's objects: the list at S, its block of names at C -/
noncomputable def CoB (S C : Addr) (ys : List V) (h : Heap) : Prop := (∃ acc c, h.get? S = some (lstObj acc c) ∧ Vals ys acc.toList) ∧ ∃ m, h.Ns C m
theorem coB_stab {S C : Addr} : Stab [S, C] (CoB S C) := by
  rintro ys h h' k ⟨⟨acc, c, e, r⟩, m, o, es, ep, e2, r2⟩
  exact ⟨⟨acc, c, k S (by simp) _ e, r⟩, m, o, es, ep, k C (by simp) _ e2, r2⟩
section
variable {X : Cx} {k : Nat} {y : Str} {py py2 pos : Pos} {iter : Expr} {scope : Scope} {own : List (Str × Nat)} {t : TE} {E : XK}
theorem compZ_core {pins : List (Addr × Obj)} {s : Shared} {σ : L2.St} {H : Hp} {Q : VK} {pos2 : Pos} {use : Option (Value → Sem Unit)} {Qf : Value → Shared → Prop} (I : Inv X pins σ H s) (h : t σ H Q) (hz : PZ X k iter t E) (hr : Room (k + 1) X.A) (hx : CompPass X E) (ok : BlkOk X.N X.env.scope scope own) (hcell : ∀ z ∈ scope.names, z.2 ≠ .cell) (hy : scope.names.lookup y = some .local)
    (hdb : (y == ("__debug__" : Str)) = false) (hs : ∀ x, foldedSetIterable iter X.env x = pure x)
    (hRR : ∀ (S : Addr) (cenv : Env) (s' : Shared) (m : Str → Option Value) (H' : Hp), Inv X pins σ H' s' → Q (.ref S) H' → s'.heap.Ns cenv.locals m → FpOk X pins H' cenv.locals → compEnds (model X.prog X.w) X.A X.xe use Qf (.ref S) cenv (.ok .next) s') :
    wpAny (model X.prog X.w) X.A (comprehension (.ListComp (.Name y py) [⟨.Name y py2, iter, [], 0⟩] scope pos) scope X.env pos2 (newList []) false (eval iter X.env) use) Qf X.xe s := by
  have hfree : ∀ z ∈ scope.names, z.2 = .free → ∃ q, X.env.cells.lookup z.1 = some q := fun z hz e => (ok.free z hz e).elim (fun k => I.ok.has _ (.inl k)) fun k => I.ok.has _ (.inr k)
  refine comprehension_at (use := use) rfl hs (closure_ok hfree) ok.kind (fun z hz e => by rw [ok.uniq z hz, e]) (thn (hz.run pins s σ H Q I h) ?_)
  rintro u s1 ⟨H1, sc, I1, a, g, cd, rfl, ha1, hgen, hgs, os1, bare1, kp1, wakes⟩
  refine wpAny_pyIter_gen hgen (wpAny_newObj_type (wpAny_newFunctionEnv hcell (by intro y hy; simp at hy) (fun h1 hns1 hsb1 => ?_) ok.kind))
  dsimp only at hns1 hsb1 ⊢
  generalize hH2 : s1.heap.push { cls := .type "list", dict := none, data := .seq ([] : List Value).toArray } = H2 at hns1 hsb1 ⊢
  have z2 : H2.objs.size = s1.heap.objs.size + 1 := by rw [← hH2, Heap.size_push]
  have hns1 : h1.Ns H2.objs.size fun _ => none := hns1
  have old : ∀ b o, s1.heap.get? b = some o → h1.get? b = some o := fun b o e => by
    have hb : b ≠ H2.objs.size := by rw [z2]; exact Nat.ne_of_lt (Nat.lt_succ_of_lt (Heap.lt_size e))
    exact hsb1.extBut b o hb (Heap.get?_push_of_some _ (by rw [← hH2]; exact Heap.get?_push_of_some _ e))
  have hacc : h1.get? s1.heap.objs.size = some (lstObj #[] 0) := by
    refine hsb1.extBut _ _ (by rw [z2]; exact Nat.ne_of_lt (Nat.lt_succ_self _)) (Heap.get?_push_of_some _ ?_)
    rw [← hH2]
    exact Heap.get?_push_size _ rfl
  generalize hC : H2.objs.size = C at hns1 hsb1 z2 ⊢
  generalize hS : s1.heap.objs.size = S at z2 hacc ⊢
  have SC : S ≠ C := by rw [z2]; exact Nat.ne_of_lt (Nat.lt_succ_self _)
  have SltC : S < C := by rw [z2]; exact Nat.lt_succ_self _
  have szc : sc.heap.objs.size ≤ S := by
    rw [← hS]
    obtain ⟨o, _, _, ho, _⟩ := hgen
    exact Nat.le_of_lt (Nat.lt_of_le_of_lt ha1 (Heap.lt_size ho))
  have stS : cStatics < S := by
    obtain ⟨_, h9, _⟩ := I1.nolimit
    exact Nat.lt_of_lt_of_le h9.lt szc
  have aS : a < S := by
    rw [← hS]
    obtain ⟨o, _, _, ho, _⟩ := hgen
    exact Heap.lt_size ho
  have ke : (compEnvC scope (cloFrom X.env.cells scope.names []) C X.env).kindOf y = some .local := lookup_relabel_local hy
  have fC : FpOk X pins H1 C := I1.fpOk (Nat.le_trans szc (Nat.le_of_lt SltC)) (I1.hok.fresh (Nat.le_trans szc (Nat.le_of_lt SltC)))
  show codeAny _ _ (.compStart (.ListComp (.Name y py) [⟨.Name y py2, iter, [], 0⟩] scope pos) 0 (.ref a) (.ref S) (compEnvC scope (cloFrom X.env.cells scope.names []) C X.env)) (compEnds (model X.prog X.w) X.A X.xe use Qf (.ref S) (compEnvC scope (cloFrom X.env.cells scope.names []) C X.env)) { s1 with heap := h1, toks := s1.toks + ([] : List (Str × Value)).length }
  generalize hce : compEnvC scope (cloFrom X.env.cells scope.names []) C X.env = ce at ke ⊢
  have cL : ce.locals = C := by rw [← hce]; rfl
  have cF : ce.frame = X.env.frame := by rw [← hce]; rfl
  have cK : ce.scope.kind = .function := by rw [← hce]; exact ok.kind
  generalize hs2 : ({ s1 with heap := h1, toks := s1.toks + ([] : List (Str × Value)).length } : Shared) = s2
  have e2h : s2.heap = h1 := by rw [← hs2]
  have e2g : s2.gens = s1.gens := by rw [← hs2]
  have e2o : s2.os = s1.os := by rw [← hs2]
  have hgen2 : s2.heap.IsGen a g := by rw [e2h]; exact hgen.keeps old
  have hroom := hr.depth
  have hhd : X.A.handled = none := hr.hd
  have hfr := I1.ok.frames
  have objL : ∀ (h : Heap), (∃ acc c, h.get? S = some (lstObj acc c)) → (∃ m, h.Ns C m) → ∀ b ∈ [S, C], ∃ o, h.get? b = some o ∧ ∀ v, o.data ≠ .cell v := by
    rintro h ⟨acc, c, e1⟩ ⟨m, o, es, ep, e2, e3, _⟩ b hb
    rcases List.mem_cons.mp hb with rfl | hb
    · exact ⟨_, e1, fun v q => by cases q⟩
    · rw [List.mem_singleton.mp hb]
      exact ⟨o, e2, fun v q => by rw [e3] at q; cases q⟩
  let RR := ZEnd X.prog X.w X.K X.stack H1 sc a g [S, C] (CoB S C) Q E
  let YY := ZItem sc a g [S, C] (CoB S C)
  let II : Nat → Shared → Prop := fun n st => ∃ gs ys, n + (ys : List V).length = sizeLine ∧ st.gens[g]? = some gs ∧ st.heap.IsGen a g ∧ st.heap.NoLimit ∧ CoB S C ys st.heap ∧ gs.Goes (model X.prog X.w) X.A.in1 RR YY n (.send .none) (st.setGen g .running)
  have loop : codeAny (model X.prog X.w) X.A (.compLoop (.ListComp (.Name y py) [⟨.Name y py2, iter, [], 0⟩] scope pos) 0 (.ref a) (.ref S) ce) (compEnds (model X.prog X.w) X.A X.xe use Qf (.ref S) ce) s2 := by
    have lim2 : s2.heap.NoLimit := by rw [e2h]; exact (I1.nolimit.keeps kp1).keeps old
    have hB2 : CoB S C [] s2.heap := by rw [e2h]; exact ⟨⟨#[], 0, hacc, .nil⟩, _, hns1⟩
    have go0 : GenState.Goes (model X.prog X.w) X.A.in1 RR YY sizeLine (.fresh cd) (.send .none) (s2.setGen g .running) := by
      refine ⟨rfl, ?_⟩
      refine wakes X.A.in1 [S, C] (CoB S C) (s2.setGen g .running) (hr.in1) hfr (fun b hb => ?_) coB_stab (fun b o e => ?_) ⟨rfl, ?_, fun b o _ e => e, ?_, ?_⟩ (e2o.trans os1)
      · rw [hS]
        rcases List.mem_cons.mp hb with rfl | hb
        · exact Nat.le_refl _
        · rw [List.mem_singleton.mp hb]; exact Nat.le_of_lt SltC
      · show s2.heap.get? b = some o
        rw [e2h]; exact old b o e
      · exact L2.allBare_setGen (by rw [e2g]; exact bare1) rfl
      · show ∀ b ∈ [S, C], ∃ o, s2.heap.get? b = some o ∧ _
        rw [e2h]; exact objL h1 ⟨_, _, hacc⟩ ⟨_, hns1⟩
      · exact hB2
    refine compLoop_list_any II ?_ sizeLine ⟨_, [], rfl, by rw [e2g]; exact hgs, hgen2, lim2, hB2, go0⟩
    rintro n st ⟨gs, ys, hn, hg3, gen3, lim3, hB3, hgo⟩
    have hgl : g < st.gens.size := (Array.getElem?_eq_some_iff.mp hg3).1
    refine wpAny_gsz (n := g + 1) hgl (next_genG (F := fun _ _ s1 => ∃ H' ys, s1.os = sc.os ∧ AllBare s1.gens ∧ Un (frs X.stack) [] H1 H' sc.heap s1.heap ∧ HOk X.prog X.w H' s1.heap ∧ (∀ b ∈ [S, C], H' b = none) ∧ CoB S C ys s1.heap ∧ ys.length ≤ sizeLine ∧ ∀ S, H' S = none → Q (.ref S) (upd H' S (.lst ys)))
      (Er := fun e s1 => ∃ pn ys, L2.CX X.prog X.w X.stack H1 sc (Ep X.K E pn) e s1 ∧ s1.heap.IsGen a g ∧ CoB S C ys s1.heap ∧ ∀ b ∈ [S, C], ∃ o, (b, o) ∈ pn) (Y := YY) hhd lim3 hroom gen3 hg3 hgo ?_ ?_ ?_)
    · -- an item
      intro v s4 gs' hb4 hv hsz
      obtain ⟨ys', x, hn', rv, os4, bare4, lim4, gen4, hB4, hk⟩ := hv
      obtain ⟨go, nm, qn, hgo4, hgc, hgd, hgsl⟩ := id gen4
      refine go_of (s := s4.setGen g gs') hgo4 hgc hgd (by decide) ?_
      obtain ⟨⟨acc, cc, hacc4, rys⟩, m4, hns4⟩ := id hB4
      refine wpAny_assign_Name (wpAny_storeName_local (s := s4.setGen g gs') (m := m4) ke (by rw [cL]; exact hns4) (fun h5 hn5 sb5 => ?_) (by rw [cK]; rfl))
      rw [cL] at hn5 sb5
      refine wpAny_tests_nil ?_
      rw [if_pos rfl]
      refine wpAny_Name (wpAny_loadName_local cK ke (v := v) (by rw [cL]; exact hn5) (if_pos rfl) ?_) hdb
      have hacc5 : h5.get? S = some (lstObj acc cc) := (sb5.2 S SC).trans hacc4
      have hsl : acc.size = ys'.length := by
        have h8 := rys.length
        have h9 : acc.toList.length = acc.size := by simp
        omega
      refine append_at (s := { s4.setGen g gs' with heap := h5, toks := (s4.setGen g gs').toks + 1 }) hacc5 (fun h6 sb6 hacc6 => ?_) (by omega)
      have k6 : ∀ b o, b ∉ [S, C] → s4.heap.get? b = some o → h6.get? b = some o := fun b o hb e => by
        have h8 : b ≠ S := fun z => hb (by rw [z]; exact List.mem_cons_self)
        have h9 : b ≠ C := fun z => hb (by rw [z]; exact List.mem_cons_of_mem _ List.mem_cons_self)
        exact (sb6.2 b h8).trans ((sb5.2 b h9).trans e)
      have ns6 : h6.Ns C _ := hn5.sameBut sb6 (Ne.symm SC)
      have hB6 : CoB S C (ys' ++ [x]) h6 := ⟨⟨acc.push v, cc + 1, hacc6, by rw [Array.toList_push]; exact rys.append (.cons rv .nil)⟩, _, ns6⟩
      have ob6 := objL h6 ⟨_, _, hacc6⟩ ⟨_, ns6⟩
      have aL : a ∉ [S, C] := fun hm => by
        rcases List.mem_cons.mp hm with z | hm
        · exact absurd aS (by rw [z]; exact Nat.lt_irrefl _)
        · exact absurd (Nat.lt_trans aS SltC) (by rw [List.mem_singleton.mp hm]; exact Nat.lt_irrefl _)
      have stL : cStatics ∉ [S, C] := fun hm => by
        rcases List.mem_cons.mp hm with z | hm
        · exact absurd stS (by rw [z]; exact Nat.lt_irrefl _)
        · exact absurd (Nat.lt_trans stS SltC) (by rw [List.mem_singleton.mp hm]; exact Nat.lt_irrefl _)
      have g6 : (s4.setGen g gs').gens[g]? = some gs' := setGen_at (by
        have q : (s4.setGen g gs').gens.size = s4.gens.size := setGen_size _ _ _
        have hsz' : g + 1 ≤ (s4.setGen g gs').gens.size := hsz
        omega)
      have wk6 : Wkn [S, C] (CoB S C) (ys' ++ [x]) s4 (({ s4.setGen g gs' with heap := h6, toks := (s4.setGen g gs').toks + 1 } : Shared).setGen g .running) := ⟨rfl, L2.allBare_setGen (s := { s4.setGen g gs' with heap := h6, toks := (s4.setGen g gs').toks + 1 }) (L2.allBare_setGen bare4 hb4) rfl, k6, ob6, hB6⟩
      cases n with
      | zero => exact (hk _ wk6).elim
      | succ n =>
        refine ⟨n, Nat.lt_succ_self n, gs', ys' ++ [x], ?_, g6, ?_, ?_, hB6, hk _ wk6⟩
        · rw [List.length_append, List.length_singleton]
          omega
        · exact ⟨go, nm, qn, k6 a go aL hgo4, hgc, hgd, hgsl⟩
        · exact lim4.at fun o e => k6 cStatics o stL e
    · -- the end
      intro s4 hF h' hk hsz
      obtain ⟨H', ys', os4, bare4, un4, hok4, hL4, hB4, hl4, hq4⟩ := hF
      obtain ⟨⟨acc, cc, hacc4, rys⟩, m4, hns4⟩ := hB4
      have J : Inv X pins σ (upd H' S (.lst ys')) (s4.setGen g .finished) := I1.drained szc hl4 hacc4 rys ExOk.nil os4 (L2.allBare_setGen bare4 rfl) un4 hok4 (hL4 S List.mem_cons_self)
      have J2 : Inv X pins σ (upd H' S (.lst ys')) { s4.setGen g .finished with heap := h' } := J.kept (t' := (s4.setGen g .finished).toks) hk
      refine hRR S ce _ m4 (upd H' S (.lst ys')) J2 (hq4 S (hL4 S List.mem_cons_self)) ?_ ?_
      · rw [cL]
        obtain ⟨o, es, ep, e1, e2⟩ := hns4
        exact ⟨o, es, ep, hk C o e1, e2⟩
      · rw [cL]
        exact ⟨(upd_ne (Ne.symm SC)).trans (hL4 C (by simp)), fC.2⟩
    · -- an exception
      rintro e s4 ⟨pn, ys', cx, gen4, hB4, hpn⟩
      have nst : NoStop X.K (Ep X.K E pn) := fun cls d H h => h.1.2
      have kin : X.K.In s4.heap := by
        obtain ⟨a', G, H', cls, d, _, fl, _, ub, _⟩ := id cx
        refine I1.ok.mod.kin.keeps fun b o eb => fl.1 b o (ub.keep b o (I1.bs b o eb).1 (I1.bs b o eb).2 fun hm => ?_)
        have := (I1.stack.mem hm).1
        rw [eb] at this
        cases this
      refine ⟨gen4, notStop_of nst kin cx, fun hsz => ?_⟩
      obtain ⟨_, m4, hns4⟩ := hB4
      show notedBy _ _ _ (fun e s' => compEnds (model X.prog X.w) X.A X.xe use Qf (.ref S) ce (.error e) s') e _
      have cx2 : (fun e s' => compEnds (model X.prog X.w) X.A X.xe use Qf (.ref S) ce (.error e) s') = CompFails (model X.prog X.w) X.A X.xe ce := by cases use <;> rfl
      rw [cx2]
      refine hx pins pn σ H1 sc _ e ce m4 I1 ?_ (by rw [cL]; exact Nat.le_trans szc (Nat.le_of_lt SltC)) (by rw [cL]; exact hpn C (by simp)) cF (by rw [cL]; exact hns4)
      obtain ⟨a', G, H', cls, d, z1, fl, z2, ub, z3, z4, z5, z6⟩ := cx
      exact ⟨a', G, H', cls, d, z1, fl, z2, ub, z3, z4, L2.allBare_setGen z5 rfl, z6⟩
  exact codeAny_compStart_list loop (wpAny_pyIter_gen hgen2 loop)
/-- THE RULE: [y for y in g(..)] -/
theorem pe_compZ (hz : PZ X k iter t E) (hr : Room (k + 1) X.A) (hx : CompPass X E) (ok : BlkOk X.N X.env.scope scope own) (hcell : ∀ z ∈ scope.names, z.2 ≠ .cell) (hy : scope.names.lookup y = some .local)
    (hdb : (y == ("__debug__" : Str)) = false := by decide) (hs : ∀ x, foldedSetIterable iter X.env x = pure x := by intro _; rfl) :
    PE X (.ListComp (.Name y py) [⟨.Name y py2, iter, [], 0⟩] scope pos) t := by
  refine ⟨fun pins s σ H Q I h => ?_⟩
  rw [eval_ListComp]
  refine compZ_core I h hz hr hx ok hcell hy hdb hs fun S cenv s' m H' I' q hn f => ⟨m, hn, fun h'' sb => ?_⟩
  obtain ⟨f0, f1, f2, f3, f4, f5⟩ := f
  exact ⟨.ref S, H', I'.turned (t' := s'.toks) (fun b o hb e => (sb.2 b hb).trans e) f0 f1 f3 f4 f5, rfl, q⟩
/-- z = [y for y in g(..)] on one line -/
theorem ps_setCompZ {i : Nat} {z : Str} {pz spos : Pos} (hN : X.N.Nodup) (hi : X.N[i]? = some z) (hzl : X.env.scope.names.lookup z = some .local)
    (hsw : swapsWith (.ListComp (.Name y py) [⟨.Name y py2, iter, [], 0⟩] scope pos) (some (.Name z pz)) spos.line X.env = pure true) (hz : PZ X k iter t E) (hr : Room (k + 1) X.A) (hx : CompPass X E) (ok : BlkOk X.N X.env.scope scope own) (hcell : ∀ z ∈ scope.names, z.2 ≠ .cell) (hy : scope.names.lookup y = some .local)
    (hdb : (y == ("__debug__" : Str)) = false := by decide) (hs : ∀ x, foldedSetIterable iter X.env x = pure x := by intro _; rfl) :
    PS X (.Assign [.Name z pz] (.ListComp (.Name y py) [⟨.Name y py2, iter, [], 0⟩] scope pos) spos) (tAsg t (gName i)) := by
  refine ⟨fun pins s σ H D I h => ?_⟩
  rw [exec_Assign_Name_used _ _ _ _ hsw]
  refine wpAny_bind (wpAny_standAt (wpAny_bind ?_))
  have h : t σ H (fun x H1 => gName i x σ H1 D.nx) := h
  refine wpAny_bind (thn (compZ_core (Qf := fun _ s' => SP X pins D .next s') (use := some (assign (.Name z pz) X.env)) I h hz hr hx ok hcell hy hdb hs fun S cenv s' m H' I' q hn f => ?_) fun _ s' hq => wpAny_pure (wpAny_pure hq))
  show wpAny _ _ (assign (.Name z pz) X.env (.ref S)) _ _ _
  refine wpAny_assign_Name (store_ok2 (v := V.ref S) I' hN hi (.inl hzl) rfl (fun s2 I2 hs2 => ?_) (.inr hzl))
  obtain ⟨q0, sb, hq0⟩ := hs2
  obtain ⟨f0, f1, f2, f3, f4, f5⟩ := f
  have ne : cenv.locals ≠ q0 := by
    rcases hq0 with y1 | y1
    · rw [y1]; exact f1
    · exact fun e => f4 z q0 y1 e.symm
  exact ⟨m, hn.sameBut sb ne, fun h3 sb3 => ⟨_, H', I2.turned (t' := s2.toks) (fun b o hb e => (sb3.2 b hb).trans e) f0 f1 f3 f4 f5, q⟩⟩
end
section
variable {X : Cx} {K : PySem.W.Frag}
/-- a built-in method's call in an except suite: the fragment is told -/
theorem pe_bmK {T name id : String} {r : V → List V → Hp → VK → Prop} {o e : Expr} {es : List Expr} {to : TE} {t : TA} {apos cpos : Pos} (hK : X.K = K) (pa : PlainAttrs T) (slot : Slot T name id) (hty : typeOf (.builtin id) = pure (.type "method_descriptor")) (hm : MtR X id r) (ho : PE X o to) (ha : PA X (e :: es) t)
    (h1 : attributeBase o name X.env (eval o X.env) = eval o X.env := by rfl)
    (h2 : ((backTo cpos (starEach (e :: es) X.env)).all (fun x => !x.1) && (backToKw cpos (keywordEach [] X.env)).all (fun x => x.1.isSome) && decide ((e :: es).length + ([] : List Keyword).length + (if ([] : List Keyword).isEmpty then 0 else 1) < 30)) = true := by rfl)
    (h3 : (apos.endLine == cpos.line) = true := by rfl) (h4 : starEach (e :: es) X.env = (false, eval e X.env) :: starEach es X.env := by rfl) (h5 : (backTo cpos (starEach es X.env)).any (·.1) = false := by rfl) :
    PE X (.Call (.Attribute o name apos) (e :: es) [] cpos) (tBM K T r to t) := by
  subst hK
  exact pe_bm pa slot hty hm ho ha h1 h2 h3 h4 h5
end
end MR
set_option autoImplicit false
namespace MR
open PySem PySem.Spec PyProof.Rows L2
section
variable {α β : Type} {Q : Val → En → Prop} {X : Xn → En → Prop} {Z : Po} {e : En} {m n ma mb mc : En → R Val} {ms : En → R (List Val)}
theorem wp_ok {r : R α} {a : α} {e : En} {Q : α → En → Prop} (h : r = .ok a e) (q : Q a e) : r.wp Q X := by
  rw [h]
  exact q
theorem wp_mP (h : (m e).wp (fun a e1 => (pk a e1).wp Q X) X) : (mP m e).wp Q X := R.wp_bind h
theorem wp_mD {Q : MR.D → En → Prop} (h : (m e).wp (fun a e1 => (frz a e1).wp Q X) X) : (mD m e).wp Q X := R.wp_bind h
theorem wp_op {f : MR.D → MR.D → Option Val} (h : (mP ma e).wp (fun a e1 => (mP mb e1).wp (fun b e2 => ∃ x y, con a e2 = some x ∧ con b e2 = some y ∧ ∃ r, f x y = some r ∧ Q r e2) X) X) : (mOp f ma mb e).wp Q X :=
  R.wp_bind (R.wp_mono h fun _ _ h => R.wp_bind (R.wp_mono h fun _ _ ⟨x, y, h1, h2, r, h3, h4⟩ => R.wp_of ⟨r, by rw [h1, Option.bind_some, h2, Option.bind_some, h3], h4⟩))
theorem wp_un {f : MR.D → Option Val} (h : (mP ma e).wp (fun a e1 => ∃ x, con a e1 = some x ∧ ∃ r, f x = some r ∧ Q r e1) X) : (mUn f ma e).wp Q X :=
  R.wp_bind (R.wp_mono h fun _ _ ⟨x, h1, r, h2, h3⟩ => R.wp_of ⟨r, by rw [h1, Option.bind_some, h2], h3⟩)
theorem wp_cons {Q : List Val → En → Prop} (h : (mP m e).wp (fun a e1 => (ms e1).wp (fun as e2 => Q (a :: as) e2) X) X) : (mCons m ms e).wp Q X :=
  R.wp_bind (R.wp_mono h fun _ _ h => R.wp_bind (R.wp_mono h fun _ _ h => h))
theorem wp_cb {f : List MR.D → Option Val} (h : (ms e).wp (fun as e1 => ∃ ds, cons? as e1 = some ds ∧ ∃ r, f ds = some r ∧ Q r e1) X) : (mCB f ms e).wp Q X :=
  R.wp_bind (R.wp_mono h fun _ _ ⟨ds, h1, r, h2, h3⟩ => R.wp_of ⟨r, by rw [h1, Option.bind_some, h2], h3⟩)
theorem wp_lst (h : (ms e).wp (fun as e1 => (frzs as e1).wp (fun ds e2 => ds.length ≤ sizeLine ∧ Q (.new (.lst ds)) e2) X) X) : (mLst ms e).wp Q X :=
  R.wp_bind (R.wp_mono h fun _ _ h => R.wp_bind (R.wp_mono h fun ds _ h => R.wp_of ⟨_, if_pos h.1, h.2⟩))
theorem wp_tup (h : (ms e).wp (fun as e1 => (frzs as e1).wp (fun ds e2 => ds.length ≤ sizeLine ∧ Q (.fz (.tup ds)) e2) X) X) : (mTup ms e).wp Q X :=
  R.wp_bind (R.wp_mono h fun _ _ h => R.wp_bind (R.wp_mono h fun ds _ h => R.wp_of ⟨_, if_pos h.1, h.2⟩))
theorem wp_part {Q : Option Int → En → Prop} (h : (m e).wp (fun a e1 => ∃ i, vI? a = some i ∧ Q (some i) e1) X) : (mPart m e).wp Q X :=
  R.wp_bind (R.wp_mono h fun _ _ ⟨i, h, q⟩ => R.wp_of ⟨some i, by rw [h] <;> rfl, q⟩)
theorem wp_sl {f : MR.D → Option Int → Option Int → Option Val} {ml mh : En → R (Option Int)} (h : (mP ma e).wp (fun a e1 => (ml e1).wp (fun l e2 => (mh e2).wp (fun h e3 => ∃ x, con a e3 = some x ∧ ∃ r, f x l h = some r ∧ Q r e3) X) X) X) : (mSl f ma ml mh e).wp Q X :=
  R.wp_bind (R.wp_mono h fun _ _ h => R.wp_bind (R.wp_mono h fun _ _ h => R.wp_bind (R.wp_mono h fun _ _ ⟨x, h1, r, h2, h3⟩ => R.wp_of ⟨r, by rw [h1, Option.bind_some, h2], h3⟩)))
theorem wp_test {Q : Bool → En → Prop} (h : (m e).wp (fun a e1 => ∃ b, vB a = some b ∧ Q b e1) X) : (mTest m e).wp Q X := R.wp_bind (R.wp_mono h fun _ _ h => R.wp_of h)
theorem wp_tru {Q : Bool → En → Prop} (h : (mP m e).wp (fun a e1 => ∃ x, con a e1 = some x ∧ ∃ b, tru x = some b ∧ Q b e1) X) : (mTru m e).wp Q X := R.wp_bind (R.wp_mono h fun _ _ ⟨x, h1, r, h2, h3⟩ => R.wp_of ⟨r, by rw [h1, Option.bind_some, h2], h3⟩)
theorem wp_and {p q : En → R Bool} {Q : Bool → En → Prop} (h : (p e).wp (fun b e1 => if b = true then (q e1).wp Q X else Q false e1) X) : (mAnd p q e).wp Q X := by
  refine R.wp_bind (R.wp_mono h fun b e1 h => ?_)
  cases b with
  | true => exact (if_pos (c := true = true) rfl).mp h
  | false => exact (if_neg (c := false = true) Bool.false_ne_true).mp h
theorem wp_or {p q : En → R Bool} {Q : Bool → En → Prop} (h : (p e).wp (fun b e1 => if b = true then Q true e1 else (q e1).wp Q X) X) : (mOr p q e).wp Q X := by
  refine R.wp_bind (R.wp_mono h fun b e1 h => ?_)
  cases b with
  | true => exact (if_pos (c := true = true) rfl).mp h
  | false => exact (if_neg (c := false = true) Bool.false_ne_true).mp h
theorem wp_not {p : En → R Bool} {Q : Bool → En → Prop} (h : (p e).wp (fun b e1 => Q (!b) e1) X) : (mNot p e).wp Q X := R.wp_bind (R.wp_mono h fun _ _ h => h)
theorem wp_andV (h : (m e).wp (fun a e1 => ∃ b, vB a = some b ∧ if b = true then (n e1).wp Q X else Q (.fz (.bl false)) e1) X) : (mAndV m n e).wp Q X := by
  refine R.wp_bind (R.wp_mono h fun a e1 ⟨b, e2, h⟩ => ?_)
  refine R.wp_bind (R.wp_of ⟨b, e2, ?_⟩)
  cases b with
  | true => exact (if_pos (c := true = true) rfl).mp h
  | false => exact (if_neg (c := false = true) Bool.false_ne_true).mp h
theorem wp_orV (h : (m e).wp (fun a e1 => ∃ b, vB a = some b ∧ if b = true then Q (.fz (.bl true)) e1 else (n e1).wp Q X) X) : (mOrV m n e).wp Q X := by
  refine R.wp_bind (R.wp_mono h fun a e1 ⟨b, e2, h⟩ => ?_)
  refine R.wp_bind (R.wp_of ⟨b, e2, ?_⟩)
  cases b with
  | true => exact (if_pos (c := true = true) rfl).mp h
  | false => exact (if_neg (c := false = true) Bool.false_ne_true).mp h
theorem wp_notV (h : (m e).wp (fun a e1 => ∃ b, vB a = some b ∧ Q (.fz (.bl (!b))) e1) X) : (mNotV m e).wp Q X := by
  refine R.wp_bind (R.wp_mono h fun a e1 ⟨b, e2, h⟩ => ?_)
  exact R.wp_bind (R.wp_of ⟨b, e2, h⟩)
theorem wp_ifE {t : En → R Bool} (h : (t e).wp (fun b e1 => if b = true then (m e1).wp Q X else (n e1).wp Q X) X) : (mIf t m n e).wp Q X := by
  refine R.wp_bind (R.wp_mono h fun b e1 h => ?_)
  cases b with
  | true => exact (if_pos (c := true = true) rfl).mp h
  | false => exact (if_neg (c := false = true) Bool.false_ne_true).mp h
/-- the first of two readings -/
theorem wp_or2 (h : (m e).wp Q X) : (mOr2 m n e).wp Q X := by
  unfold mOr2
  cases hm : m e with
  | st => rw [hm] at h; exact h.elim
  | ok a e1 => rw [hm] at h; exact h
  | er x e1 => rw [hm] at h; exact h
theorem wp_fld {ns : List Str} {f : Str} (h : (mP ma e).wp (fun a e1 => ∃ k ds d, con a e1 = some (.obj k ds) ∧ k ∈ ns ∧ sval ds f = some d ∧ Q (.fz d) e1) X) : (mFld ns f ma e).wp Q X := by
  refine R.wp_bind (R.wp_mono h fun a e1 ⟨k, ds, d, h1, h2, h3, q⟩ => R.wp_of ⟨.fz d, ?_, q⟩)
  rw [h1]
  show (if k ∈ ns then _ else _) = _
  rw [if_pos h2]
  exact congrArg (Option.map Val.fz) h3
theorem wp_cval {n1 : Str} {d : MR.D} (q : Q (.fz d) e) : (mCVal n1 d (mC (.cls n1)) e).wp Q X := by
  refine R.wp_bind (R.wp_of ⟨.fz d, ?_, q⟩)
  exact if_pos rfl
theorem wp_fldE2 {i : Nat} {n1 f : Str} {d : MR.D} {b : Bool} {ds : List (Str × MR.D)} {P : En → Prop} (h : owAt i e = some (b, .obj n1 ds)) (h2 : ds.length < 1000) (q : P (e.set i (.ow b false (.obj n1 (putS f d ds))))) : ∃ b k ds, owAt i e = some (b, .obj k ds) ∧ k ∈ [n1] ∧ ds.length < 1000 ∧ P (e.set i (.ow b false (.obj k (putS f d ds)))) :=
  ⟨b, n1, ds, h, List.mem_singleton.mpr rfl, h2, q⟩
theorem wp_chain {f g : MR.D → MR.D → Option Val} (h : (mP ma e).wp (fun a e1 => (mP mb e1).wp (fun b e2 => ∃ x y, con a e2 = some x ∧ con b e2 = some y ∧ ∃ r k, f x y = some r ∧ vB r = some k ∧
    if k = true then (mP mc e2).wp (fun d e4 => ∃ y z, con b e4 = some y ∧ con d e4 = some z ∧ ∃ r, g y z = some r ∧ Q r e4) X else Q (.fz (.bl false)) e2) X) X) : (mChain f g ma mb mc e).wp Q X := by
  refine R.wp_bind (R.wp_mono h fun a e1 h => R.wp_bind (R.wp_mono h fun b e2 ⟨x, y, h1, h2, r, k, h3, hk, h⟩ => R.wp_bind (R.wp_of ⟨k, by rw [h1, Option.bind_some, h2, Option.bind_some, h3, Option.bind_some, hk], ?_⟩)))
  cases k with
  | true => exact R.wp_bind (R.wp_mono ((if_pos (c := true = true) rfl).mp h) fun _ _ ⟨y, z, h1, h2, r, h3, h4⟩ => R.wp_of ⟨r, by rw [h1, Option.bind_some, h2, Option.bind_some, h3], h4⟩)
  | false => exact (if_neg (c := false = true) Bool.false_ne_true).mp h
theorem wp_join {mo me : En → R Val} (h : (mP mo e).wp (fun a e1 => ∃ z, con a e1 = some (.str z) ∧ (mP me e1).wp (fun b e2 => ∃ y ds zs, con b e2 = some y ∧ seqOf y = some ds ∧ strsD ds = some zs ∧ (zs.map (·.length)).sum + zs.length * z.length ≤ 16777216 ∧ Q (.fz (.str (Txt.join z zs))) e2) X) X) : (mJoin mo me e).wp Q X := by
  refine R.wp_bind (R.wp_mono h fun a e1 ⟨z, h1, h⟩ => R.wp_bind (R.wp_of ⟨z, by rw [h1] <;> rfl, R.wp_bind (R.wp_mono h fun b e2 ⟨y, ds, zs, h2, h3, h4, h5, q⟩ => R.wp_of ⟨_, ?_, q⟩)⟩))
  rw [h2, Option.bind_some, h3, Option.bind_some, h4, Option.bind_some]
  exact if_pos h5
theorem wp_mut {i : Nat} {T : String} {f : MR.D → List MR.D → Option (MR.D × MR.D)} (h : ∃ p, owAt i e = some p ∧ tyD T p.2 = true ∧ (ms e).wp (fun as e1 => (frzs as e1).wp (fun ds e2 => ∃ q, owAt i e2 = some q ∧ ∃ r, f q.2 ds = some r ∧ Q (.fz r.1) (e2.set i (.ow q.1 false r.2))) X) X) : (mMut i T f ms e).wp Q X := by
  obtain ⟨p, hp, ht, h⟩ := h
  refine R.wp_bind (R.wp_of ⟨p, hp, ?_⟩)
  rw [if_pos ht]
  exact R.wp_bind (R.wp_mono h fun as e1 h => R.wp_bind (R.wp_mono h fun ds e2 ⟨q, h1, r, h2, h3⟩ => R.wp_bind (R.wp_of ⟨q, h1, R.wp_bind (R.wp_of ⟨r, h2, h3⟩)⟩)))
theorem wp_mut0 {i : Nat} {T : String} {f : MR.D → List MR.D → Option (MR.D × MR.D)} (h : ∃ p, owAt i e = some p ∧ tyD T p.2 = true ∧ ∃ r, f p.2 [] = some r ∧ Q (.fz r.1) (e.set i (.ow p.1 false r.2))) : (mMut0 i T f e).wp Q X := by
  obtain ⟨p, hp, ht, r, h1, h2⟩ := h
  refine R.wp_bind (R.wp_of ⟨p, hp, ?_⟩)
  rw [if_pos ht]
  exact R.wp_bind (R.wp_of ⟨p, hp, R.wp_bind (R.wp_of ⟨r, h1, h2⟩)⟩)
theorem wp_rd {T : String} {f : MR.D → List MR.D → Option Val} {mo : En → R Val} (h : (mP mo e).wp (fun a e1 => ∃ d0, con a e1 = some d0 ∧ tyD T d0 = true ∧ (ms e1).wp (fun as e2 => ∃ d ds, con a e2 = some d ∧ cons? as e2 = some ds ∧ ∃ r, f d ds = some r ∧ Q r e2) X) X) : (mRd T f mo ms e).wp Q X := by
  refine R.wp_bind (R.wp_mono h fun a e1 ⟨d0, h1, h2, h3⟩ => R.wp_bind (R.wp_of ⟨d0, h1, ?_⟩))
  rw [if_pos h2]
  exact R.wp_bind (R.wp_mono h3 fun _ _ ⟨d, ds, h1, h2, r, h4, h5⟩ => R.wp_of ⟨r, by rw [h1, Option.bind_some, h2, Option.bind_some, h4], h5⟩)
/-- a call that hands nothing over, by what the callee gives: P of its answer, N of its error -/
theorem wp_callK {io : Option Nat} {len nr : Bool} {k nn : Nat} {g : En → O} {as : List Val} {ss : List Sl} {e e1 : En} {x : Option (Nat × Nat × Bool)} {ss' : List Sl} (hk : as.length = k) (hp : prep io (ioIx io as) len 0 as e = .ok ss e1) (hf : ioFin io (ioIx io as) ss e1 = some (x, ss'))
    (h : (g (ss' ++ List.replicate (nn - k) .un)).wp { rt := fun a ec => ∃ p, backIo x ec e1 = some p ∧ (len = true → p.2 = true ∧ flatR a = true) ∧ Q a p.1, nx := fun ec => ∃ p, backIo x ec e1 = some p ∧ (len = true → p.2 = true) ∧ Q (.fz .non) p.1, er := fun y ec => nr = false ∧ ∃ p, backIo x ec e1 = some p ∧ (len = true → p.2 = true ∧ flatXs (y.fs.map (·.2)) = true) ∧ X y p.1 }) : (callK io len nr k nn g as e).wp Q X := by
  unfold callK
  rw [if_pos hk, hp]
  refine R.wp_bind ?_
  show ((R.of (ioFin io (ioIx io as) ss e1) e1).bind _).wp Q X
  refine R.wp_bind (R.wp_of ⟨_, hf, ?_⟩)
  show (callR x len nr e1 (g (ss' ++ List.replicate (nn - k) .un))).wp Q X
  cases hg : g (ss' ++ List.replicate (nn - k) .un) with
  | st => rw [hg] at h; exact h.elim
  | bk _ => rw [hg] at h; exact h.elim
  | ct _ => rw [hg] at h; exact h.elim
  | nx ec =>
    rw [hg] at h
    obtain ⟨p, h1, h2, h3⟩ := h
    refine R.wp_bind (R.wp_of ⟨p, h1, ?_⟩)
    rw [if_pos (by cases len with
      | false => rfl
      | true => rw [h2 rfl] <;> rfl)]
    exact h3
  | rt a ec =>
    rw [hg] at h
    obtain ⟨p, h1, h2, h3⟩ := h
    refine R.wp_bind (R.wp_of ⟨p, h1, ?_⟩)
    rw [if_pos (by cases len with
      | false => rfl
      | true => rw [(h2 rfl).1, (h2 rfl).2] <;> rfl)]
    exact h3
  | er y ec =>
    rw [hg] at h
    obtain ⟨hn, p, h1, h2, h3⟩ := h
    refine R.wp_bind (R.wp_of ⟨p, h1, ?_⟩)
    rw [hn, if_pos (by cases len with
      | false => rfl
      | true => rw [(h2 rfl).1, (h2 rfl).2] <;> rfl)]
    exact h3
theorem wp_call {io : Option Nat} {len nr : Bool} {k nn : Nat} {g : En → O} (h : (ms e).wp (fun as e1 => (callK io len nr k nn g as e1).wp Q X) X) : (mCall io len nr k nn g ms e).wp Q X := R.wp_bind h
theorem wp_meth {n1 mm : Str} {io : Option Nat} {len nr : Bool} {k nn : Nat} {g : En → O} {mo : En → R Val} (h : (mP mo e).wp (fun a e1 => ∃ d, con a e1 = some d ∧ isObj? n1 mm d = some () ∧ (ms e1).wp (fun as e2 => (callK io len nr k nn g (a :: as) e2).wp Q X) X) X) : (mMeth n1 mm io len nr k nn g mo ms e).wp Q X := by
  refine R.wp_bind (R.wp_mono h fun a e1 ⟨d, h1, h2, h⟩ => R.wp_bind (R.wp_of ⟨(), ?_, ?_⟩))
  · rw [h1] <;> exact h2
  · exact R.wp_bind h
theorem wp_prop {n1 : Str} {io : Option Nat} {len nr : Bool} {k nn : Nat} {g : En → O} {mo : En → R Val} (h : (mP mo e).wp (fun a e1 => ∃ d, con a e1 = some d ∧ isIns? n1 d = some () ∧ (callK io len nr k nn g [a] e1).wp Q X) X) : (mProp n1 io len nr k nn g mo e).wp Q X := by
  refine R.wp_bind (R.wp_mono h fun a e1 ⟨d, h1, h2, h⟩ => R.wp_bind (R.wp_of ⟨(), ?_, ?_⟩))
  · rw [h1] <;> exact h2
  · exact h
theorem wp_lenOwn {n1 : Str} {io : Option Nat} {len nr : Bool} {nn : Nat} {g : En → O} (h : (ms e).wp (fun as e1 => ∃ d, cons? as e1 = some [d] ∧ isIns? n1 d = some () ∧ (callK io len nr 1 nn g as e1).wp (fun a e2 => ∃ i, vI? a = some i ∧ (0 ≤ i ∧ i < 2 ^ 62) ∧ Q (vI i) e2) X) X) : (mLenOwn n1 io len nr nn g ms e).wp Q X := by
  refine R.wp_bind (R.wp_mono h fun as e1 ⟨d, h1, h2, h⟩ => R.wp_bind (R.wp_of ⟨(), ?_, R.wp_bind (R.wp_mono h fun a e2 ⟨i, h3, h4, q⟩ => R.wp_of ⟨_, ?_, q⟩)⟩))
  · rw [h1] <;> exact h2
  · rw [h3] <;> exact if_pos h4
theorem wp_make {n1 : Str} {len nr : Bool} {k nn : Nat} {g : En → O} (h : (ms e).wp (fun as e1 => (callK (some 0) len nr k nn g (.at e1.length :: as) (e1 ++ [.ow false false (.obj n1 [])])).wp (fun a e2 => a = .fz .non ∧ ∃ d, e2[e1.length]? = some (.ow false false d) ∧ e2.length = e1.length + 1 ∧ Q (.new d) (e2.take e1.length)) (fun x e2 => X x (e2.take e1.length))) X) : (mMake n1 len nr k nn g ms e).wp Q X := by
  refine R.wp_bind (R.wp_mono h fun as e1 h => ?_)
  cases hc : callK (some 0) len nr k nn g (.at e1.length :: as) (e1 ++ [.ow false false (.obj n1 [])]) with
  | st => rw [hc] at h; exact h.elim
  | er x e2 => rw [hc] at h; exact h
  | ok a e2 =>
    rw [hc] at h
    obtain ⟨rfl, d, h1, h2, h3⟩ := h
    show (match e2[e1.length]? with
      | some (.ow false false d) => if e2.length = e1.length + 1 then (.ok (.new d) (e2.take e1.length) : R Val) else .st
      | _ => .st).wp Q X
    rw [h1]
    show (if e2.length = e1.length + 1 then (.ok (.new d) (e2.take e1.length) : R Val) else .st).wp Q X
    rw [if_pos h2]
    exact h3
theorem wp_next (h : Z.nx e) : (mNext e).wp Z := h
theorem wp_break (h : Z.bk e) : (mBreak e).wp Z := h
theorem wp_cont (h : Z.ct e) : (mCont e).wp Z := h
theorem wp_drop (h : (m e).wp (fun _ e1 => Z.nx e1) Z.er) : (mDrop m e).wp Z := R.wp_o h
theorem wp_ret (h : (m e).wp (fun a e1 => (mOut a e1).wp Z) Z.er) : (mRet m e).wp Z := R.wp_o h
theorem wp_retN (h : Z.rt (.fz .non) e) : (mRetN e).wp Z := h
theorem wp_set {i : Nat} (h : (m e).wp (fun a e1 => (setAt i a e1).wp Z) Z.er) : (mSet i m e).wp Z := R.wp_o h
theorem wp_asgG {mg : MR.D → En → Option En} (h : (mD m e).wp (fun d e1 => ∃ e2, mg d e1 = some e2 ∧ Z.nx e2) Z.er) : (mAsgG mg m e).wp Z := R.wp_o (R.wp_mono h fun d e1 ⟨e2, h1, h2⟩ => by
  show O.wp (match mg d e1 with
    | some e2 => .nx e2
    | none => .st) Z
  rw [h1]
  exact h2)
theorem wp_store {i : Nat} {f : MR.D → MR.D → MR.D → Option MR.D} {mk me : En → R Val} (h : (mD me e).wp (fun d e1 => ∃ p0, owAt i e1 = some p0 ∧ (mD mk e1).wp (fun k e2 => ∃ p, owAt i e2 = some p ∧ ∃ d', f p.2 k d = some d' ∧ Z.nx (e2.set i (.ow p.1 false d'))) Z.er) Z.er) : (mStore i f mk me e).wp Z :=
  R.wp_o (R.wp_mono h fun d e1 ⟨p0, h0, h⟩ => R.wp_o (R.wp_of ⟨p0, h0, R.wp_o (R.wp_mono h fun k e2 ⟨p, h1, d', h2, h3⟩ => R.wp_o (R.wp_of ⟨p, h1, R.wp_o (R.wp_of ⟨d', h2, h3⟩)⟩))⟩))
theorem wp_aug {i : Nat} {f : MR.D → MR.D → Option Val} (h : (mVar i e).wp (fun a e0 => (mP m e0).wp (fun b e1 => ∃ x y, con a e1 = some x ∧ con b e1 = some y ∧ ∃ r, f x y = some r ∧ (setAt i r e1).wp Z) Z.er) Z.er) : (mAug i f m e).wp Z :=
  R.wp_o (R.wp_mono h fun a e0 h => R.wp_o (R.wp_mono h fun b e1 ⟨x, y, h1, h2, r, h3, h4⟩ => R.wp_o (R.wp_of ⟨r, by rw [h1, Option.bind_some, h2, Option.bind_some, h3], h4⟩)))
theorem wp_fldSet {ns : List Str} {f : Str} {i : Nat} (h : (mD m e).wp (fun d e1 => ∃ b k ds, owAt i e1 = some (b, .obj k ds) ∧ k ∈ ns ∧ ds.length < 1000 ∧ Z.nx (e1.set i (.ow b false (.obj k (putS f d ds))))) Z.er) : (mFldSet ns f i m e).wp Z :=
  R.wp_o (R.wp_mono h fun d e1 ⟨b, k, ds, h1, h2, h3, h4⟩ => R.wp_o (R.wp_of ⟨_, h1, by
    show O.wp (if k ∈ ns ∧ ds.length < 1000 then _ else _) Z
    rw [if_pos ⟨h2, h3⟩]
    exact h4⟩))
theorem wp_raise {n1 : Str} {fs : List Str} (h : (ms e).wp (fun as e1 => (frzs as e1).wp (fun ds e2 => ds.length = fs.length ∧ Z.er ⟨n1, (fs.zip ds).reverse⟩ e2) Z.er) Z.er) : (mRaise n1 fs ms e).wp Z :=
  R.wp_o (R.wp_mono h fun as e1 h => R.wp_o (R.wp_mono h fun ds e2 ⟨h1, h2⟩ => by
    rw [if_pos h1]
    exact h2))
theorem O.wp_unx {o : O} {i : Nat} (h : o.wp { nx := fun e => noEx (e.set i .un) = true ∧ canSet e[i]? = true ∧ Z.nx (e.set i .un), bk := fun e => noEx (e.set i .un) = true ∧ canSet e[i]? = true ∧ Z.bk (e.set i .un), ct := fun e => noEx (e.set i .un) = true ∧ canSet e[i]? = true ∧ Z.ct (e.set i .un), rt := fun a e => noEx (e.set i .un) = true ∧ canSet e[i]? = true ∧ Z.rt a (e.set i .un), er := fun _ _ => False }) : (o.unx i).wp Z := by
  cases o with
  | st => exact h
  | nx e => exact (congrArg (O.wp · Z) (if_pos ⟨h.1, h.2.1⟩)).mpr h.2.2
  | rt a e => exact (congrArg (O.wp · Z) (if_pos ⟨h.1, h.2.1⟩)).mpr h.2.2
  | bk e => exact (congrArg (O.wp · Z) (if_pos ⟨h.1, h.2.1⟩)).mpr h.2.2
  | ct e => exact (congrArg (O.wp · Z) (if_pos ⟨h.1, h.2.1⟩)).mpr h.2.2
  | er x e => exact h.elim
theorem wp_try {i : Nat} {t : Tab} {mb : En → O} {hs : Xn → En → O} (h : (mb e).wp { Z with er := fun x e1 => (tabGet t x.n = some true ∧ noEx e1 = true ∧ canSet e1[i]? = true ∧ x.fs.isEmpty = false ∧ ((hs x (e1.set i .ex)).unx i).wp Z) ∨ (tabGet t x.n = some false ∧ Z.er x e1) }) : (mTry i t mb hs e).wp Z := by
  unfold mTry
  cases hm : mb e with
  | st => rw [hm] at h; exact h
  | nx e => rw [hm] at h; exact h
  | rt a e => rw [hm] at h; exact h
  | bk e => rw [hm] at h; exact h
  | ct e => rw [hm] at h; exact h
  | er x e1 =>
    rw [hm] at h
    rcases h with ⟨h1, h2, h3, h4, h5⟩ | ⟨h1, h2⟩
    · show (match tabGet t x.n with
        | some true => if noEx e1 = true ∧ canSet e1[i]? = true ∧ x.fs.isEmpty = false then (hs x (e1.set i .ex)).unx i else .st
        | some false => O.er x e1
        | none => .st).wp Z
      rw [h1]
      show (if noEx e1 = true ∧ canSet e1[i]? = true ∧ x.fs.isEmpty = false then (hs x (e1.set i .ex)).unx i else .st).wp Z
      rw [if_pos ⟨h2, h3, h4⟩]
      exact h5
    · show (match tabGet t x.n with
        | some true => if noEx e1 = true ∧ canSet e1[i]? = true ∧ x.fs.isEmpty = false then (hs x (e1.set i .ex)).unx i else .st
        | some false => O.er x e1
        | none => .st).wp Z
      rw [h1]
      exact h2
/-- ways that meet again -/
theorem wp_cut {o : O} (J : En → Prop) (h : o.wp { Z with nx := J }) (q : ∀ e, J e → Z.nx e) : o.wp Z := by cases o <;> first | exact h | exact q _ h
/-- a for over items that are told as data: by an invariant over what has been taken -/
theorem wp_itemsL {γ : Type} {g : MR.D → En → Option En} {b : En → O} (enc : γ → MR.D) (I : List γ → En → Prop) (xs : List γ) : ∀ (post pre : List γ) (e : En), xs = pre ++ post → I pre e →
    (∀ (pre : List γ) (x : γ) (post : List γ) (e : En), xs = pre ++ x :: post → I pre e → ∃ e1, g (enc x) e = some e1 ∧ (b e1).wp { nx := I (pre ++ [x]), ct := I (pre ++ [x]), bk := Z.nx, rt := Z.rt, er := Z.er }) → (∀ e, I xs e → Z.nx e) → (mItems g b (post.map enc) e).wp Z
  | [], pre, e, hx, h0, _, hd => hd e (by rw [hx, List.append_nil]; exact h0)
  | x :: post, pre, e, hx, h0, hs, hd => by
    obtain ⟨e1, hg, hb⟩ := hs pre x post e hx h0
    have go : ∀ e2, I (pre ++ [x]) e2 → (mItems g b (post.map enc) e2).wp Z := fun e2 h2 => wp_itemsL enc I xs post (pre ++ [x]) e2 (by rw [hx, List.append_assoc]; rfl) h2 hs hd
    show (mItems g b (enc x :: post.map enc) e).wp Z
    unfold mItems
    rw [hg]
    show O.wp (match b e1 with
      | .nx e2 => mItems g b (post.map enc) e2
      | .ct e2 => mItems g b (post.map enc) e2
      | .bk e2 => .nx e2
      | o => o) Z
    cases hbo : b e1 with
    | st => rw [hbo] at hb; exact hb
    | nx e2 => rw [hbo] at hb; exact go e2 hb
    | ct e2 => rw [hbo] at hb; exact go e2 hb
    | bk e2 => rw [hbo] at hb; exact hb
    | rt a e2 => rw [hbo] at hb; exact hb
    | er x e2 => rw [hbo] at hb; exact hb
/-- for x in xs -/
theorem wp_forL {γ : Type} (enc : γ → MR.D) (xs : List γ) (I : List γ → En → Prop) {mi : En → R Itr} {g : MR.D → En → Option En} {b : En → O} {e : En} (h : (mi e).wp (fun (it : Itr) e1 => it.items = xs.map enc ∧ I [] (lockS e1 it.lk) ∧
    (∀ (pre : List γ) (x : γ) (post : List γ) (e : En), xs = pre ++ x :: post → I pre e → ∃ e1, g (enc x) e = some e1 ∧ (b e1).wp { nx := I (pre ++ [x]), ct := I (pre ++ [x]), bk := fun e => Z.nx (unlockS e it.lk), rt := Z.rt, er := Z.er }) ∧ (∀ e, I xs e → Z.nx (unlockS e it.lk))) Z.er) : (mFor mi g b e).wp Z := by
  rw [mFor_eq]
  refine R.wp_o (k := fun (it : Itr) e1 => (mItems g b it.items (lockS e1 it.lk)).unl it.lk) ?_
  cases hm : mi e with
  | st => rw [hm] at h; exact h
  | er x e1 => rw [hm] at h; exact h
  | ok it e1 =>
    rw [hm] at h
    obtain ⟨he, h0, hs, hd⟩ := h
    show ((mItems g b it.items (lockS e1 it.lk)).unl it.lk).wp Z
    rw [he]
    exact O.wp_unl (wp_itemsL enc I xs xs [] _ rfl h0 hs hd)
/-- for k in range(lo, lo + n) -/
theorem wp_forR (lo : Int) (n : Nat) (I : Nat → En → Prop) {mi : En → R Itr} {g : MR.D → En → Option En} {b : En → O} {e : En} (h : (mi e).wp (fun (it : Itr) e1 => it = ⟨rangeD lo n, none⟩ ∧ I 0 e1 ∧
    (∀ (k : Nat) (e : En), k < n → I k e → ∃ e1, g (.int (lo + (k : Int))) e = some e1 ∧ (b e1).wp { nx := I (k + 1), ct := I (k + 1), bk := Z.nx, rt := Z.rt, er := Z.er }) ∧ (∀ e, I n e → Z.nx e)) Z.er) : (mFor mi g b e).wp Z := by
  refine wp_for (R.wp_mono (X := Z.er) h fun it e1 ⟨he, h0, hs, hd⟩ => ?_)
  subst he
  refine ⟨I, h0, fun j d e hj hi => ?_, fun e hi => ?_⟩
  · have hj : ((List.range n).map fun (k : Nat) => (MR.D.int (lo + (k : Int))))[j]? = some d := hj
    rw [List.getElem?_map] at hj
    obtain ⟨k, h3, h4⟩ := Option.map_eq_some_iff.mp hj
    obtain ⟨h5, h6⟩ := List.getElem?_eq_some_iff.mp h3
    rw [List.getElem_range] at h6
    rw [List.length_range] at h5
    obtain ⟨e1, h1, h2⟩ := hs j e h5 hi
    refine ⟨e1, ?_, h2⟩
    rw [← h1, ← h4, ← h6]
  · refine hd e ?_
    have : (rangeD lo n).length = n := by
      show ((List.range n).map _).length = n
      rw [List.length_map, List.length_range]
    rw [← this]
    exact hi
/-- a while by an invariant with a measure -/
theorem wp_while {mc : En → R Bool} {b : En → O} (I : Nat → En → Prop) : ∀ (k : Nat) (e : En) (j : Nat), j < k → I j e →
    (∀ (j : Nat) (e : En), I j e → (mc e).wp (fun t e1 => if t = true then (b e1).wp { nx := fun e2 => ∃ i, i < j ∧ I i e2, ct := fun e2 => ∃ i, i < j ∧ I i e2, bk := Z.nx, rt := Z.rt, er := Z.er } else Z.nx e1) Z.er) → (mWhile mc b k e).wp Z
  | 0, _, _, h, _, _ => absurd h (Nat.not_lt_zero _)
  | k + 1, e, j, h, hi, hs => by
    have go : ∀ e2, (∃ i, i < j ∧ I i e2) → (mWhile mc b k e2).wp Z := fun e2 ⟨i, h1, h2⟩ => wp_while I k e2 i (by omega) h2 hs
    have := hs j e hi
    unfold mWhile
    refine R.wp_o (R.wp_mono this fun t e1 ht => ?_)
    cases t with
    | false => exact (if_neg (c := false = true) Bool.false_ne_true).mp ht
    | true =>
      have ht := (if_pos (c := true = true) rfl).mp ht
      show O.wp (match b e1 with
        | .nx e2 => mWhile mc b k e2
        | .ct e2 => mWhile mc b k e2
        | .bk e2 => .nx e2
        | o => o) Z
      cases hbo : b e1 with
      | st => rw [hbo] at ht; exact ht
      | nx e2 => rw [hbo] at ht; exact go e2 ht
      | ct e2 => rw [hbo] at ht; exact go e2 ht
      | bk e2 => rw [hbo] at ht; exact ht
      | rt a e2 => rw [hbo] at ht; exact ht
      | er x e2 => rw [hbo] at ht; exact ht
/-- a comprehension over items told as data, whose parts change nothing -/
theorem lcI_pure {γ : Type} {g : MR.D → En → Option En} {mt : En → R Bool} {me : En → R Val} {vs : List Nat} (enc : γ → MR.D) (t : γ → Bool) (f : γ → MR.D) (e : En) : ∀ xs : List γ,
    (∀ x ∈ xs, ∃ e1, g (enc x) e = some e1 ∧ mt e1 = .ok (t x) e1 ∧ (t x = true → mD me e1 = .ok (f x) e1) ∧ unC e1 vs = some e) → mLcI g mt me vs (xs.map enc) e = .ok ((xs.filter t).map f) e
  | [], _ => rfl
  | x :: xs, h => by
    obtain ⟨e1, h1, h2, h3, h4⟩ := h x List.mem_cons_self
    have ih := lcI_pure enc t f e xs fun y hy => h y (List.mem_cons_of_mem _ hy)
    show mLcI g mt me vs (enc x :: xs.map enc) e = _
    unfold mLcI
    rw [h1]
    show ((mt e1).nr.bind _) = _
    rw [h2]
    show (if t x = true then _ else _) = _
    cases ht : t x with
    | false =>
      rw [if_neg Bool.false_ne_true, List.filter_cons_of_neg (by rw [ht]; exact Bool.false_ne_true), h4]
      exact ih
    | true =>
      rw [if_pos rfl, h3 ht, List.filter_cons_of_pos (by rw [ht])]
      show (R.of (unC e1 vs) e1).bind _ = _
      rw [h4]
      show (mLcI g mt me vs (xs.map enc) e).bind _ = _
      rw [ih]
      rfl
theorem wp_lc {γ : Type} (enc : γ → MR.D) (xs : List γ) (t : γ → Bool) (f : γ → MR.D) {mi : En → R Itr} {g : MR.D → En → Option En} {mt : En → R Bool} {me : En → R Val} {vs : List Nat} (h : (mi e).wp (fun (it : Itr) e1 => it.items = xs.map enc ∧ unAll e1 vs = true ∧ xs.length ≤ sizeLine ∧
    (∀ x ∈ xs, ∃ e2, g (enc x) (lockS e1 it.lk) = some e2 ∧ mt e2 = .ok (t x) e2 ∧ (t x = true → mD me e2 = .ok (f x) e2) ∧ unC e2 vs = some (lockS e1 it.lk)) ∧ Q (.new (.lst ((xs.filter t).map f))) (unlockS (lockS e1 it.lk) it.lk)) X) : (mLc mi g mt me vs e).wp Q X := by
  refine R.wp_bind (R.wp_mono h fun it e1 ⟨h1, h2, h3, h4, q⟩ => ?_)
  rw [if_pos ⟨h2, by rw [h1, List.length_map]; exact h3⟩, h1, lcI_pure enc t f _ xs h4]
  exact q
/-- the same, each part by the small logic -/
theorem wp_lcW {γ : Type} (enc : γ → MR.D) (xs : List γ) (t : γ → Bool) (f : γ → MR.D) {mi : En → R Itr} {g : MR.D → En → Option En} {mt : En → R Bool} {me : En → R Val} {vs : List Nat} (h : (mi e).wp (fun (it : Itr) e1 => it.items = xs.map enc ∧ unAll e1 vs = true ∧ xs.length ≤ sizeLine ∧
    (∀ x ∈ xs, ∃ e2, g (enc x) (lockS e1 it.lk) = some e2 ∧ (mt e2).wp (fun b e3 => b = t x ∧ e3 = e2) ∧ (t x = true → (mD me e2).wp (fun d e3 => d = f x ∧ e3 = e2)) ∧ unC e2 vs = some (lockS e1 it.lk)) ∧ Q (.new (.lst ((xs.filter t).map f))) (unlockS (lockS e1 it.lk) it.lk)) X) : (mLc mi g mt me vs e).wp Q X :=
  wp_lc enc xs t f (R.wp_mono h fun it e1 ⟨h1, h2, h3, h4, q⟩ => ⟨h1, h2, h3, fun x hx => by
    obtain ⟨e2, h5, h6, h7, h8⟩ := h4 x hx
    refine ⟨e2, h5, ?_, fun ht => ?_, h8⟩
    · obtain ⟨b, e3, hb, rfl, rfl⟩ := R.wp_ok h6
      exact hb
    · obtain ⟨d, e3, hb, rfl, rfl⟩ := R.wp_ok (h7 ht)
      exact hb, q⟩)
theorem wp_yes {Q : Bool → En → Prop} (q : Q true e) : (mYes e).wp Q X := q
theorem wp_varF {i : Nat} {d : MR.D} (h : e[i]? = some (.fz d)) (q : Q (.fz d) e) : (mVar i e).wp Q X := by
  unfold mVar
  rw [h]
  exact q
theorem wp_varO {i : Nat} {a b : Bool} {d : MR.D} (h : e[i]? = some (.ow a b d)) (q : Q (.at i) e) : (mVar i e).wp Q X := by
  unfold mVar
  rw [h]
  exact q
theorem wp_C {d : MR.D} (q : Q (.fz d) e) : (mC d e).wp Q X := q
theorem wp_nil {Q : List Val → En → Prop} (q : Q [] e) : (mNil e).wp Q X := q
theorem wp_noPart {Q : Option Int → En → Prop} (q : Q none e) : (mNoPart e).wp Q X := q
theorem wp_pkF {d : MR.D} (q : Q (.fz d) e) : (pk (.fz d) e).wp Q X := q
theorem wp_pkA {i : Nat} (q : Q (.at i) e) : (pk (.at i) e).wp Q X := q
theorem wp_pkN {d : MR.D} (q : Q (.fz d) e) : (pk (.new d) e).wp Q X := q
theorem wp_frzF {Q : MR.D → En → Prop} {d : MR.D} (q : Q d e) : (frz (.fz d) e).wp Q X := q
theorem wp_frzN {Q : MR.D → En → Prop} {d : MR.D} (q : Q d e) : (frz (.new d) e).wp Q X := q
theorem wp_frzA {Q : MR.D → En → Prop} {i : Nat} {d : MR.D} (h : e[i]? = some (.ow false false d)) (q : Q d (e.set i (.fz d))) : (frz (.at i) e).wp Q X := by
  show (frzAt i e e[i]?).wp Q X
  rw [h]
  exact q
theorem wp_frzs0 {Q : List MR.D → En → Prop} (q : Q [] e) : (frzs [] e).wp Q X := q
theorem wp_frzs1 {Q : List MR.D → En → Prop} {a : Val} {as : List Val} (h : (frz a e).wp (fun d e1 => (frzs as e1).wp (fun ds e2 => Q (d :: ds) e2) X) X) : (frzs (a :: as) e).wp Q X :=
  R.wp_bind (R.wp_mono h fun _ _ h => R.wp_bind h)
theorem wp_outF {d : MR.D} (q : Z.rt (.fz d) e) : (mOut (.fz d) e).wp Z := q
theorem wp_outN {d : MR.D} (q : Z.rt (.new d) e) : (mOut (.new d) e).wp Z := q
theorem wp_outA {i : Nat} {d : MR.D} (h : e[i]? = some (.ow false false d)) (q : Z.rt (.new d) (e.set i .un)) : (mOut (.at i) e).wp Z := by
  show (outAt i e e[i]?).wp Z
  rw [h]
  exact q
theorem wp_setF {i : Nat} {d : MR.D} (h : canSet e[i]? = true) (q : Z.nx (e.set i (.fz d))) : (setAt i (.fz d) e).wp Z := by
  show O.wp (if canSet e[i]? = true then _ else _) Z
  rw [if_pos h]
  exact q
theorem wp_setN {i : Nat} {d : MR.D} (h : canSet e[i]? = true) (q : Z.nx (e.set i (.ow false false d))) : (setAt i (.new d) e).wp Z := by
  show O.wp (if canSet e[i]? = true then _ else _) Z
  rw [if_pos h]
  exact q
theorem wp_setA {i j : Nat} {d : MR.D} (h1 : e[j]? = some (.ow false false d)) (h : canSet (e.set j (.fz d))[i]? = true) (q : Z.nx ((e.set j (.fz d)).set i (.fz d))) : (setAt i (.at j) e).wp Z := by
  show O.wp (match frzAt j e e[j]? with
    | .ok d e1 => if canSet e1[i]? = true then .nx (e1.set i (.fz d)) else .st
    | _ => .st) Z
  rw [h1]
  show O.wp (if canSet (e.set j (.fz d))[i]? = true then _ else _) Z
  rw [if_pos h]
  exact q
theorem ex1 {γ : Type} {P : γ → Prop} {o : Option γ} {a : γ} (h : o = some a) (q : P a) : ∃ r, o = some r ∧ P r := ⟨a, h, q⟩
theorem ex1l {γ : Type} {P : γ → Prop} {o : Option (List γ)} {a : γ} (h : o = some [a]) (q : P a) : ∃ r, o = some [r] ∧ P r := ⟨a, h, q⟩
theorem ex2 {γ δ : Type} {P : γ → δ → Prop} {o : Option γ} {u : Option δ} {a : γ} {b : δ} (h : o = some a) (h2 : u = some b) (q : P a b) : ∃ x y, o = some x ∧ u = some y ∧ P x y := ⟨a, b, h, h2, q⟩
theorem ex2d {γ δ : Type} {P : γ → δ → Prop} {o : Option γ} {u : γ → Option δ} {a : γ} {b : δ} (h : o = some a) (h2 : u a = some b) (q : P a b) : ∃ x y, o = some x ∧ u x = some y ∧ P x y := ⟨a, b, h, h2, q⟩
theorem wp_fldE {n : Str} {f : Str} {o : Option MR.D} {ds : List (Str × MR.D)} {d : MR.D} {P : MR.D → Prop} (h : o = some (.obj n ds)) (h2 : sval ds f = some d) (q : P d) : ∃ k ds d, o = some (.obj k ds) ∧ k ∈ [n] ∧ sval ds f = some d ∧ P d := ⟨n, ds, d, h, List.mem_singleton.mpr rfl, h2, q⟩
theorem and1 {A B : Prop} (h : A) (q : B) : A ∧ B := ⟨h, q⟩
theorem len_ok {n : Nat} (h : Nat.ble n 1000 = true) : n ≤ sizeLine := Nat.le_of_lt (small1000 (Nat.le_of_ble_eq_true h))
theorem len_ok2 {n : Nat} (h : n ≤ 1000) : n ≤ sizeLine := Nat.le_of_lt (small1000 h)
theorem ifT {A B : Prop} (h : A) : if true = true then A else B := (if_pos rfl).mpr h
theorem ifF {A B : Prop} (h : B) : if false = true then A else B := (if_neg Bool.false_ne_true).mpr h
theorem ifD {p : Prop} [Decidable p] {A B : Prop} (h1 : p → A) (h2 : ¬ p → B) : if decide p = true then A else B := by
  by_cases h : p
  · rw [if_pos (decide_eq_true h)]
    exact h1 h
  · rw [if_neg (by rw [decide_eq_false h]; exact Bool.false_ne_true)]
    exact h2 h
theorem ifND {p : Prop} [Decidable p] {A B : Prop} (h1 : ¬ p → A) (h2 : p → B) : if (!decide p) = true then A else B := by
  by_cases h : p
  · rw [decide_eq_true h]
    exact ifF (h2 h)
  · rw [decide_eq_false h]
    exact ifT (h1 h)
theorem ifB {b : Bool} {A B : Prop} (h1 : b = true → A) (h2 : b = false → B) : if b = true then A else B := by
  cases b with
  | true => exact ifT (h1 rfl)
  | false => exact ifF (h2 rfl)
theorem ifNB {b : Bool} {A B : Prop} (h1 : b = false → A) (h2 : b = true → B) : if (!b) = true then A else B := by
  cases b with
  | true => exact ifF (h2 rfl)
  | false => exact ifT (h1 rfl)
noncomputable def plainD : Nat → MR.D → Prop
  | _, .non => True
  | _, .int _ => True
  | _, .str z => ∀ c ∈ z.cps.toList, c < 1114112
  | n + 1, .lst ds => ∀ d ∈ ds, plainD n d
  | n + 1, .tup ds => ∀ d ∈ ds, plainD n d
  | _, _ => False
theorem pd_plain : ∀ (n : Nat) (a : MR.D), plainD n a → ∃ x, pd a = some x ∧ x.canLay0 = true ∧ x.depth ≤ n
  | 0, a, h => by
    cases a <;> first | exact h.elim | skip
    · exact ⟨.none, rfl, rfl, Nat.zero_le _⟩
    · exact ⟨.int _, rfl, rfl, Nat.zero_le _⟩
    · next z =>
      refine ⟨.str z, rfl, ?_, Nat.zero_le _⟩
      have h : ∀ c ∈ z.cps.toList, c < 1114112 := h
      simp only [PyData.canLay0, PyData.strOk, Array.all_eq_true_iff_forall_mem, decide_eq_true_eq]
      exact fun c hc => h c (by simpa using hc)
  | n + 1, a, h => by
    have all : ∀ ds : List MR.D, (∀ d ∈ ds, plainD n d) → ∃ xs, pds ds = some xs ∧ PyData.canLayAll0 xs = true ∧ PyData.depthAll xs ≤ n := by
      intro ds
      induction ds with
      | nil => exact fun _ => ⟨[], rfl, rfl, Nat.zero_le _⟩
      | cons d ds ih =>
        intro hd
        obtain ⟨x, h1, h2, h3⟩ := pd_plain n d (hd d List.mem_cons_self)
        obtain ⟨xs, h4, h5, h6⟩ := ih fun y hy => hd y (List.mem_cons_of_mem _ hy)
        refine ⟨x :: xs, ?_, ?_, ?_⟩
        · show (pd d).bind (fun a => (pds ds).map fun as => a :: as) = _
          rw [h1, h4]
          rfl
        · show (x.canLay0 && PyData.canLayAll0 xs) = true
          rw [h2, h5]
          rfl
        · exact Nat.max_le.mpr ⟨h3, h6⟩
    cases a <;> first | exact h.elim | skip
    · exact ⟨.none, rfl, rfl, Nat.zero_le _⟩
    · exact ⟨.int _, rfl, rfl, Nat.zero_le _⟩
    · next z =>
      refine ⟨.str z, rfl, ?_, Nat.zero_le _⟩
      have h : ∀ c ∈ z.cps.toList, c < 1114112 := h
      simp only [PyData.canLay0, PyData.strOk, Array.all_eq_true_iff_forall_mem, decide_eq_true_eq]
      exact fun c hc => h c (by simpa using hc)
    · next ds =>
      obtain ⟨xs, h1, h2, h3⟩ := all ds h
      refine ⟨.list xs, ?_, h2, Nat.succ_le_succ h3⟩
      show (pds ds).map PyData.list = _
      rw [h1]
      rfl
    · next ds =>
      obtain ⟨xs, h1, h2, h3⟩ := all ds h
      refine ⟨.tuple xs, ?_, h2, Nat.succ_le_succ h3⟩
      show (pds ds).map PyData.tuple = _
      rw [h1]
      rfl
theorem eqv_plain : ∀ (n : Nat) (a b : MR.D), plainD n a → plainD n b → ∀ x y, pd a = some x → pd b = some y → (PyData.eqv x y = true ↔ a = b) := by
  intro n
  induction n with
  | zero =>
    intro a b ha hb x y hx hy
    cases a <;> first | exact ha.elim | skip
    all_goals cases b <;> first | exact hb.elim | skip
    all_goals (cases hx; cases hy; simp [PyData.eqv])
  | succ n ih =>
    have all : ∀ as bs : List MR.D, (∀ d ∈ as, plainD n d) → (∀ d ∈ bs, plainD n d) → ∀ xs ys, pds as = some xs → pds bs = some ys → (PyData.eqvAll xs ys = true ↔ as = bs) := by
      intro as
      induction as with
      | nil =>
        intro bs _ _ xs ys h1 h2
        cases h1
        cases bs with
        | nil => cases h2; simp [PyData.eqvAll]
        | cons b bs =>
          obtain ⟨_, _, h3⟩ := Option.bind_eq_some_iff.mp h2
          obtain ⟨_, _, rfl⟩ := Option.map_eq_some_iff.mp h3
          simp [PyData.eqvAll]
      | cons a as iha =>
        intro bs ha hb xs ys h1 h2
        obtain ⟨x, hx, h3⟩ := Option.bind_eq_some_iff.mp h1
        obtain ⟨xs', hxs, rfl⟩ := Option.map_eq_some_iff.mp h3
        cases bs with
        | nil => cases h2; simp [PyData.eqvAll]
        | cons b bs =>
          obtain ⟨y, hy, h3⟩ := Option.bind_eq_some_iff.mp h2
          obtain ⟨ys', hys, rfl⟩ := Option.map_eq_some_iff.mp h3
          rw [PyData.eqvAll, Bool.and_eq_true, ih a b (ha a List.mem_cons_self) (hb b List.mem_cons_self) x y hx hy,
            iha bs (fun d hd => ha d (List.mem_cons_of_mem _ hd)) (fun d hd => hb d (List.mem_cons_of_mem _ hd)) xs' ys' hxs hys, List.cons.injEq]
    intro a b ha hb x y hx hy
    cases a <;> first | exact ha.elim | skip
    all_goals cases b <;> first | exact hb.elim | skip
    all_goals first
      | (cases hx; cases hy; simp [PyData.eqv]; done)
      | (obtain ⟨xs, h1, rfl⟩ := Option.map_eq_some_iff.mp hx; obtain ⟨ys, h2, rfl⟩ := Option.map_eq_some_iff.mp hy; simp [PyData.eqv]; exact all _ _ ha hb xs ys h1 h2)
      | (obtain ⟨xs, h1, rfl⟩ := Option.map_eq_some_iff.mp hx; obtain ⟨ys, h2, rfl⟩ := Option.map_eq_some_iff.mp hy; simp [PyData.eqv]; done)
      | (obtain ⟨xs, h1, rfl⟩ := Option.map_eq_some_iff.mp hx; cases hy; simp [PyData.eqv]; done)
      | (cases hx; obtain ⟨ys, h2, rfl⟩ := Option.map_eq_some_iff.mp hy; simp [PyData.eqv]; done)
theorem dEq_plain {n : Nat} {a b : MR.D} (hn : n ≤ 64) (ha : plainD n a) (hb : plainD n b) : ∃ t, dEq a b = some t ∧ (t = true ↔ a = b) := by
  obtain ⟨x, h1, h2, h3⟩ := pd_plain n a ha
  obtain ⟨y, h4, h5, h6⟩ := pd_plain n b hb
  refine ⟨PyData.eqv x y, ?_, eqv_plain n a b ha hb x y h1 h4⟩
  unfold dEq
  rw [h1, h4, Option.bind_some, Option.bind_some]
  refine if_pos ⟨?_, ?_⟩
  · exact Bool.and_eq_true_iff.mpr ⟨h2, decide_eq_true (by omega)⟩
  · exact Bool.and_eq_true_iff.mpr ⟨h5, decide_eq_true (by omega)⟩
theorem scal_plain {n : Nat} {a b : MR.D} (ha : plainD n a) (hb : plainD n b) {t : Bool} (h : scalD a b = some t) : (t = true ↔ a = b) := by
  cases a <;> cases b <;> first | (cases h; done) | (cases h; simp; done) | (cases n <;> exact ha.elim) | (cases n <;> exact hb.elim)
theorem g_eq {n : Nat} {a b : MR.D} {P : Val → Prop} (hn : n ≤ 64) (ha : plainD n a) (hb : plainD n b) (q : ∀ t : Bool, (t = true ↔ a = b) → P (.fz (.bl t))) : ∃ r, fEqA a b = some r ∧ P r := by
  unfold fEqA fEqS orO
  cases h : scalD a b with
  | some t => exact ⟨_, rfl, q t (scal_plain ha hb h)⟩
  | none =>
    obtain ⟨t, h1, h2⟩ := dEq_plain hn ha hb
    refine ⟨_, ?_, q t h2⟩
    show fEq a b = _
    unfold fEq
    rw [h1]
    rfl
theorem g_ne {n : Nat} {a b : MR.D} {P : Val → Prop} (hn : n ≤ 64) (ha : plainD n a) (hb : plainD n b) (q : ∀ t : Bool, (t = true ↔ a ≠ b) → P (.fz (.bl t))) : ∃ r, fNeA a b = some r ∧ P r := by
  unfold fNeA fNeS orO
  cases h : scalD a b with
  | some t =>
    refine ⟨_, rfl, q (!t) ?_⟩
    have := scal_plain ha hb h
    cases t <;> simp at this ⊢ <;> exact this
  | none =>
    obtain ⟨t, h1, h2⟩ := dEq_plain hn ha hb
    refine ⟨_, ?_, q (!t) (by cases t <;> simp at h2 ⊢ <;> exact h2)⟩
    show fNe a b = _
    unfold fNe
    rw [h1]
    rfl
theorem plain_nil (n : Nat) : plainD (n + 1) (.lst []) := fun _ h => absurd h List.not_mem_nil
theorem plain_int (n : Nat) (i : Int) : plainD n (.int i) := by cases n <;> trivial
theorem gdO_pos {γ : Type} {p : Prop} [Decidable p] {a : γ} (h : p) : gdO p a = some a := if_pos h
theorem log2_small {i : Int} {k : Nat} (h : i.natAbs < 2 ^ k) (hk : 0 < k) : i.natAbs.log2 < k := by
  by_cases z : i.natAbs = 0
  · rw [z]
    exact hk
  · exact (Nat.log2_lt z).mpr h
theorem g_mul {i j : Int} {P : Val → Prop} (hi : -(2 ^ 200) < i ∧ i < 2 ^ 200) (hj : -(2 ^ 200) < j ∧ j < 2 ^ 200) (q : P (.fz (.int (i * j)))) : ∃ r, fMul (.int i) (.int j) = some r ∧ P r := by
  have h1 := log2_small (i := i) (k := 200) (by omega) (by decide)
  have h2 := log2_small (i := j) (k := 200) (by omega) (by decide)
  exact ⟨_, gdO_pos (by omega), q⟩
theorem g_mulB {i j : Int} {P : Val → Prop} (hi : -(2 ^ 200) < i ∧ i < 2 ^ 200) (hj : -(2 ^ 200) < j ∧ j < 2 ^ 200) (q : P (.fz (.int (i * j)))) : ∃ r, fMulB (.int i) (.int j) = some r ∧ P r := by
  obtain ⟨r, h1, h2⟩ := g_mul hi hj q
  exact ⟨r, by unfold fMulB fMulA orO; rw [h1], h2⟩
theorem g_div {i j : Int} {P : Val → Prop} (hj : 0 < j ∧ j < 2 ^ 200) (q : P (.fz (.int (i / j)))) : ∃ r, fDiv (.int i) (.int j) = some r ∧ P r := by
  have h2 := log2_small (i := j) (k := 200) (by omega) (by decide)
  exact ⟨_, gdO_pos ⟨hj.1, by omega⟩, q⟩
theorem g_mod {i j : Int} {P : Val → Prop} (hj : 0 < j) (q : P (.fz (.int (i % j)))) : ∃ r, fMod (.int i) (.int j) = some r ∧ P r := ⟨_, gdO_pos hj, q⟩
/-- it hands back v -/
noncomputable def Ret (o : O) (v : Val) : Prop := ∃ e, o = .rt v e
/-- it hands back what P lets, and leaves at its parameter j what P lets -/
noncomputable def RetIo (o : O) (j : Nat) (P : Val → MR.D → Prop) : Prop := o.wp { rt := fun v e => ∃ a b d, e[j]? = some (.ow a b d) ∧ P v d }
noncomputable def RetP (o : O) (P : Val → Prop) : Prop := o.wp { rt := fun v _ => P v }
theorem Ret.p {o : O} {v : Val} (h : Ret o v) : RetP o (fun w => w = v) := by
  obtain ⟨e, rfl⟩ := h
  exact rfl
theorem RetP.ret {o : O} {v : Val} (h : RetP o (fun w => w = v)) : Ret o v := by
  cases o with
  | rt a e => exact ⟨e, congrArg (fun z => O.rt z e) h⟩
  | st => exact h.elim
  | nx _ => exact h.elim
  | bk _ => exact h.elim
  | ct _ => exact h.elim
  | er _ _ => exact h.elim
theorem wp_callRet {len nr : Bool} {k nn : Nat} {g : En → O} {as : List Val} {ss : List Sl} {e e1 : En} {v : Val} (hk : as.length = k) (hp : prep none none len 0 as e = .ok ss e1)
    (s : Ret (g (ss ++ List.replicate (nn - k) .un)) v) (hl : len = true → flatR v = true) (q : Q v e1) : (callK none len nr k nn g as e).wp Q X := by
  refine wp_callK (io := none) hk hp rfl ?_
  obtain ⟨ec, h⟩ := s
  rw [h]
  exact ⟨(e1, true), rfl, fun h => ⟨rfl, hl h⟩, q⟩
theorem wp_callRetP {len nr : Bool} {k nn : Nat} {g : En → O} {as : List Val} {ss : List Sl} {e e1 : En} {P : Val → Prop} (hk : as.length = k) (hp : prep none none len 0 as e = .ok ss e1)
    (s : RetP (g (ss ++ List.replicate (nn - k) .un)) P) (q : ∀ v, P v → (len = true → flatR v = true) ∧ Q v e1) : (callK none len nr k nn g as e).wp Q X :=
  wp_callK (io := none) hk hp rfl (O.wp_mono s (fun _ h => h.elim) (fun a ec h => ⟨(e1, true), rfl, fun z => ⟨rfl, (q a h).1 z⟩, (q a h).2⟩) (fun _ h => h.elim) (fun _ h => h.elim) (fun _ _ h => h.elim))
/-- a check that lets it pass -/
theorem wp_callNx {len nr : Bool} {k nn : Nat} {g : En → O} {as : List Val} {ss : List Sl} {e e1 : En} (hk : as.length = k) (hp : prep none none len 0 as e = .ok ss e1)
    (s : (g (ss ++ List.replicate (nn - k) .un)).wp { nx := fun _ => True }) (q : Q (.fz .non) e1) : (callK none len nr k nn g as e).wp Q X :=
  wp_callK (io := none) hk hp rfl (O.wp_mono s (fun ec _ => ⟨(e1, true), rfl, (fun _ => rfl), q⟩) (fun _ _ h => h.elim) (fun _ h => h.elim) (fun _ h => h.elim) (fun _ _ h => h.elim))
/-- a check that raises -/
theorem wp_callEr {len : Bool} {k nn : Nat} {g : En → O} {as : List Val} {ss : List Sl} {e e1 : En} {P : Xn → Prop} (hk : as.length = k) (hp : prep none none len 0 as e = .ok ss e1)
    (s : (g (ss ++ List.replicate (nn - k) .un)).wp { er := fun x _ => P x }) (q : ∀ x, P x → (len = true → flatXs (x.fs.map (·.2)) = true) ∧ X x e1) : (callK none len false k nn g as e).wp Q X :=
  wp_callK (io := none) hk hp rfl (O.wp_mono s (fun _ h => h.elim) (fun _ _ h => h.elim) (fun _ h => h.elim) (fun _ h => h.elim) (fun x ec h => ⟨rfl, (e1, true), rfl, (fun z => ⟨rfl, (q x h).1 z⟩), (q x h).2⟩))
theorem wp_callIo {io : Option Nat} {len nr : Bool} {k nn i j : Nat} {pa : Bool} {g : En → O} {as : List Val} {ss ss' : List Sl} {e e1 : En} {P : Val → MR.D → Prop} (hk : as.length = k) (hp : prep io (ioIx io as) len 0 as e = .ok ss e1) (hf : ioFin io (ioIx io as) ss e1 = some (some (j, i, pa), ss'))
    (s : RetIo (g (ss' ++ List.replicate (nn - k) .un)) j P) (q : ∀ v d, P v d → (len = true → flatK d = true ∧ flatR v = true) ∧ Q v (e1.set i (.ow pa false d))) : (callK io len nr k nn g as e).wp Q X :=
  wp_callK hk hp hf (O.wp_mono s (fun _ h => h.elim) (fun v ec ⟨a, b, d, h1, h2⟩ => ⟨(e1.set i (.ow pa false d), flatK d), by
    show (match ec[j]? with
      | some (.ow _ _ d) => some (e1.set i (.ow pa false d), flatK d)
      | _ => none) = _
    rw [h1], (q v d h2).1, (q v d h2).2⟩) (fun _ h => h.elim) (fun _ h => h.elim) (fun _ _ h => h.elim))
theorem wp_call2 {j1 j2 : Nat} {nr : Bool} {k nn : Nat} {g : En → O} (h : (ms e).wp (fun as e1 => (callB j1 j2 nr k nn g as e1).wp Q X) X) : (mCall2 j1 j2 nr k nn g ms e).wp Q X := R.wp_bind h
theorem wp_orI1 {mi mi' : En → R Itr} {Q : Itr → En → Prop} (h : (mi e).wp Q X) : (mOrI mi mi' e).wp Q X := by
  unfold mOrI
  cases hm : mi e with
  | st => rw [hm] at h; exact h.elim
  | ok a e1 => rw [hm] at h; exact h
  | er x e1 => rw [hm] at h; exact h
theorem wp_orI2 {mi mi' : En → R Itr} {Q : Itr → En → Prop} (h0 : mi e = .st) (h : (mi' e).wp Q X) : (mOrI mi mi' e).wp Q X := by
  unfold mOrI
  rw [h0]
  exact h
theorem wp_seqL {Q : Itr → En → Prop} (h : (mP m e).wp (fun a e1 => ∃ p ds, lkOf a e1 = some (p, .lst ds) ∧ Q ⟨ds, p⟩ e1) X) : (mSeqI m e).wp Q X :=
  wp_orI1 (R.wp_bind (R.wp_mono h fun a e1 ⟨p, ds, h1, h2⟩ => R.wp_of ⟨_, by rw [h1] <;> rfl, h2⟩))
theorem con_lk {a : Val} {e : En} {d : MR.D} {p : Option Nat × MR.D} (h1 : con a e = some d) (hl : lkOf a e = some p) : p.2 = d := by
  cases a with
  | fz d' => cases hl; exact Option.some.inj h1
  | new d' => cases hl
  | «at» i =>
    have hl : lkAt i e[i]? = some p := hl
    have h1 : conAt e[i]? = some d := h1
    unfold lkAt at hl
    split at hl
    · next d' hs => cases hl; rw [hs] at h1; exact Option.some.inj h1
    · next a d' hs => cases hl; rw [hs] at h1; exact Option.some.inj h1
    · next d' hs => cases hl; rw [hs] at h1; exact Option.some.inj h1
    · cases hl
theorem wp_seqS {Q : Itr → En → Prop} (h : (mP m e).wp (fun a e1 => ∃ z, con a e1 = some (.str z) ∧ Q ⟨z.cps.toList.map fun n => .str ⟨#[n]⟩, none⟩ e1) X) : (mSeqI m e).wp Q X := by
  cases hm : mP m e with
  | st => rw [hm] at h; exact h.elim
  | er x e1 =>
    rw [hm] at h
    refine wp_orI1 (R.wp_bind ?_)
    rw [hm]
    exact h
  | ok a e1 =>
    rw [hm] at h
    obtain ⟨z, h1, h2⟩ := h
    have e1' : mIter m e = .st := by
      unfold mIter
      rw [hm]
      show R.of ((lkOf a e1).bind _) e1 = .st
      cases hl : lkOf a e1 with
      | none => rfl
      | some p =>
        have := con_lk h1 hl
        obtain ⟨p1, p2⟩ := p
        subst this
        rfl
    have e2' : mIterT m e = .st := by
      unfold mIterT
      rw [hm]
      show R.of ((con a e1).bind _) e1 = .st
      rw [h1]
      rfl
    refine wp_orI2 e1' (wp_orI2 e2' (R.wp_bind ?_))
    rw [hm]
    exact R.wp_of ⟨_, by rw [h1] <;> rfl, h2⟩
theorem wp_range1 {Q : Itr → En → Prop} (h : (ms e).wp (fun as e1 => ∃ j, cons? as e1 = some [.int j] ∧ (-(2 ^ 62) ≤ j ∧ j < 2 ^ 62) ∧ Q ⟨rangeD 0 j.toNat, none⟩ e1) X) : (mRange1 ms e).wp Q X := by
  unfold mRange1
  exact R.wp_bind (R.wp_mono h fun as e1 ⟨j, h1, h2, q⟩ => R.wp_of ⟨_, by rw [h1] <;> exact if_pos h2, q⟩)
theorem wp_range2 {Q : Itr → En → Prop} (h : (ms e).wp (fun as e1 => ∃ i j, cons? as e1 = some [.int i, .int j] ∧ (-(2 ^ 62) ≤ i ∧ i < 2 ^ 62 ∧ -(2 ^ 62) ≤ j ∧ j < 2 ^ 62) ∧ Q ⟨rangeD i (j - i).toNat, none⟩ e1) X) : (mRange2 ms e).wp Q X := by
  unfold mRange2
  exact R.wp_bind (R.wp_mono h fun as e1 ⟨i, j, h1, h2, q⟩ => R.wp_of ⟨_, by rw [h1] <;> exact if_pos h2, q⟩)
theorem wp_save {vs : List Nat} (h1 : (vs.all fun i => plainS e[i]?) = true) (h : (m (unS e vs)).wp (fun a e2 => unAll e2 vs = true ∧ Q a (backS e e2 vs)) (fun x e2 => unAll e2 vs = true ∧ X x (backS e e2 vs))) : (mSave vs m e).wp Q X := by
  unfold mSave
  rw [if_pos h1]
  cases hm : m (unS e vs) with
  | st => rw [hm] at h; exact h.elim
  | ok a e2 =>
    rw [hm] at h
    show (if unAll e2 vs = true then _ else _ : R Val).wp Q X
    rw [if_pos h.1]
    exact h.2
  | er x e2 =>
    rw [hm] at h
    show (if unAll e2 vs = true then _ else _ : R Val).wp Q X
    rw [if_pos h.1]
    exact h.2
theorem blns_map {γ : Type} (f : γ → Bool) : ∀ xs : List γ, blns (xs.map fun x => MR.D.bl (f x)) = some (xs.map f)
  | [] => rfl
  | x :: xs => by
    show (blns (xs.map fun x => MR.D.bl (f x))).map _ = _
    rw [blns_map f xs]
    rfl
theorem g_all {γ : Type} {f : γ → Bool} {xs : List γ} {P : Val → Prop} (q : P (.fz (.bl (xs.all f)))) : ∃ r, fAll [.lst (xs.map fun x => MR.D.bl (f x))] = some r ∧ P r := ⟨_, by
  show (blns (xs.map fun x => MR.D.bl (f x))).bind _ = _
  rw [blns_map f xs]
  show bB ((xs.map f).all id) = some (.fz (.bl (xs.all f)))
  rw [List.all_map]
  rfl, q⟩
theorem g_gN {i : Nat} {d : MR.D} {P : En → Prop} (h : canSet e[i]? = true) (q : P (e.set i (.fz d))) : ∃ e1, gN i d e = some e1 ∧ P e1 := ⟨_, if_pos h, q⟩
theorem g_gs0 {P : En → Prop} (q : P e) : ∃ e1, gs0 [] e = some e1 ∧ P e1 := ⟨e, rfl, q⟩
theorem g_gs1 {g : MR.D → En → Option En} {gs : List MR.D → En → Option En} {d : MR.D} {ds : List MR.D} {P : En → Prop} (h : ∃ e1, g d e = some e1 ∧ ∃ e2, gs ds e1 = some e2 ∧ P e2) : ∃ e1, gs1 g gs (d :: ds) e = some e1 ∧ P e1 := by
  obtain ⟨e1, h1, e2, h2, q⟩ := h
  refine ⟨e2, ?_, q⟩
  show (g d e).bind _ = _
  rw [h1]
  exact h2
theorem g_gT {n : Nat} {gs : List MR.D → En → Option En} {ds : List MR.D} {P : En → Prop} (hn : ds.length = n) (h : ∃ e1, gs ds e = some e1 ∧ P e1) : ∃ e1, gT n gs (.tup ds) e = some e1 ∧ P e1 := by
  obtain ⟨e1, h1, q⟩ := h
  exact ⟨e1, (if_pos hn).trans h1, q⟩
theorem ixN_nat {n k : Nat} (h : k < n) : ixN n (k : Int) = some k := by
  unfold ixN
  rw [if_pos (Int.natCast_nonneg k), if_pos (by omega)]
  rfl
theorem atI_nat {α : Type} {xs : List α} {k : Nat} {x : α} (h : xs[k]? = some x) : atI xs (k : Int) = some x := by
  unfold atI
  rw [ixN_nat (List.getElem?_eq_some_iff.mp h).1]
  exact h
theorem g_ixL {ds : List MR.D} {k : Nat} {d : MR.D} {P : Val → Prop} (h : ds[k]? = some d) (q : P (.fz d)) : ∃ r, fIx (.lst ds) (.int (k : Int)) = some r ∧ P r := ⟨.fz d, by show (atI ds (k : Int)).map _ = _; rw [atI_nat h]; rfl, q⟩
theorem g_ixMap {γ : Type} {f : γ → MR.D} {xs : List γ} {k : Nat} {x : γ} {P : Val → Prop} (h : xs[k]? = some x) (q : P (.fz (f x))) : ∃ r, fIx (.lst (xs.map f)) (.int (k : Int)) = some r ∧ P r := g_ixL (k := k) (by rw [List.getElem?_map, h]; rfl) q
theorem g_lenS {z : Str} {P : Val → Prop} (h : z.length ≤ sizeLine) (q : P (.fz (.int (z.length : Int)))) : ∃ r, fLenB [.str z] = some r ∧ P r := ⟨_, by
  show orO (orO (fLen [.str z]) (gdO (z.length ≤ sizeLine) (vI (z.length : Int)))) _ = _
  rw [gdO_pos h]
  rfl, q⟩
theorem g_setL {ds : List MR.D} {k : Nat} {d : MR.D} {P : MR.D → Prop} (h : k < ds.length) (q : P (.lst (ds.set k d))) : ∃ r, fSetL (.lst ds) (.int (k : Int)) d = some r ∧ P r := ⟨.lst (ds.set k d), by show (ixN ds.length (k : Int)).map _ = _; rw [ixN_nat h]; rfl, q⟩
end
end MR
set_option autoImplicit false
namespace MR
open PySem PySem.Spec PyProof.Rows L2
theorem wp_genloop {mc : En → R Bool} {me : En → R Val} {mp : En → O} {Z : Po} (I : Nat → List D → En → Prop) : ∀ (k : Nat) (ds : List D) (e : En) (j : Nat), j < k → I j ds e →
    (∀ (j : Nat) (ds : List D) (e : En), I j ds e → (mc e).wp (fun t e1 => if t = true then (mD me e1).wp (fun d e2 => ds.length < sizeLine ∧ (mp e2).wp { nx := fun e3 => ∃ i, i < j ∧ I i (ds ++ [d]) e3 }) (fun _ _ => False) else Z.rt (.new (.lst ds)) e1) (fun _ _ => False)) → (genLoop mc me mp k ds e).wp Z
  | 0, _, _, _, h, _, _ => absurd h (Nat.not_lt_zero _)
  | k + 1, ds, e, j, h, hi, hs => by
    have st := hs j ds e hi
    unfold genLoop
    cases hm : mc e with
    | st => rw [hm] at st; exact st.elim
    | er x e1 => rw [hm] at st; exact st.elim
    | ok t e1 =>
      rw [hm] at st
      have st : if t = true then (mD me e1).wp (fun d e2 => ds.length < sizeLine ∧ (mp e2).wp { nx := fun e3 => ∃ i, i < j ∧ I i (ds ++ [d]) e3 }) (fun _ _ => False) else Z.rt (.new (.lst ds)) e1 := st
      cases t with
      | false =>
        rw [if_neg Bool.false_ne_true] at st
        exact st
      | true =>
        rw [if_pos rfl] at st
        dsimp only
        rw [if_pos rfl]
        cases hd : mD me e1 with
        | st => rw [hd] at st; exact st.elim
        | er x e2 => rw [hd] at st; exact st.elim
        | ok d e2 =>
          rw [hd] at st
          obtain ⟨lt, st⟩ := st
          dsimp only
          rw [if_pos lt]
          cases hp : mp e2 with
          | nx e3 =>
            rw [hp] at st
            obtain ⟨i, hij, hI⟩ := st
            exact wp_genloop I k (ds ++ [d]) e3 i (by omega) hI hs
          | st => rw [hp] at st; exact st.elim
          | rt _ _ => rw [hp] at st; exact st.elim
          | bk _ => rw [hp] at st; exact st.elim
          | ct _ => rw [hp] at st; exact st.elim
          | er _ _ => rw [hp] at st; exact st.elim
theorem wp_gen {ok : List Str} {m1 : En → O} {mc : En → R Bool} {me : En → R Val} {mp : En → O} {k : Nat} {e : En} {Z : Po}
    (h : (m1 e).wp { nx := fun e1 => (genLoop mc me mp k [] e1).wp Z, rt := fun v e1 => v = .fz .non ∧ Z.rt (.new (.lst [])) e1, er := fun x e1 => ok.contains x.n = true ∧ Z.er x e1 }) : (mGen ok m1 mc me mp k e).wp Z := by
  unfold mGen
  cases hm : m1 e with
  | nx e1 => rw [hm] at h; exact h
  | st => rw [hm] at h; exact h.elim
  | bk _ => rw [hm] at h; exact h.elim
  | ct _ => rw [hm] at h; exact h.elim
  | rt v e1 =>
    rw [hm] at h
    obtain ⟨rfl, h⟩ := h
    exact h
  | er x e1 =>
    rw [hm] at h
    obtain ⟨h1, h2⟩ := h
    dsimp only
    rw [if_pos h1]
    exact h2
end MR
namespace TM
inductive T where
  | leaf
  | node (l r : T)
namespace T
noncomputable def slots : T → Nat
  | leaf => 1
  | node l r => l.slots + r.slots
/-- the signs of its text: 40 opens, 46 is a slot, 41 shuts -/
noncomputable def text : T → List Nat
  | leaf => [46]
  | node l r => 40 :: (l.text ++ (r.text ++ [41]))
theorem slots_pos : ∀ t : T, 0 < t.slots
  | leaf => Nat.one_pos
  | node l r => by
    have := slots_pos l
    show 0 < l.slots + r.slots
    omega
end T
/-- a node: a fork or a slot, with its number -/
inductive Nd where
  | fork (n : Nat)
  | slot (n : Nat)
  deriving DecidableEq
noncomputable def T.nd (s : Nat) : T → Nd
  | .leaf => .slot s
  | .node l _ => .fork (s + l.slots - 1)
/-- a fork: its number, its sides, its span, its place in the text -/
structure Ent where
  fork : Nat
  left : Nd
  right : Nd
  first : Nat
  last : Nat
  b : Nat
  e : Nat
/-- the forks in postorder, of a tree whose first slot is s and whose text begins at a -/
noncomputable def T.ents : T → Nat → Nat → List Ent
  | .leaf, _, _ => []
  | .node l r, s, a => l.ents s (a + 1) ++ (r.ents (s + l.slots) (a + 1 + l.text.length) ++
    [⟨s + l.slots - 1, l.nd s, r.nd (s + l.slots), s, s + l.slots + r.slots - 1, a, a + 1 + l.text.length + r.text.length + 1⟩])
/-- what the reader keeps of a part: opened, or a node with its span and its begin -/
inductive Pt where
  | opn (slots at_ : Nat)
  | nd (n : Nd) (first last at_ : Nat)
noncomputable def T.pt (t : T) (s a : Nat) : Pt := .nd (t.nd s) s (s + t.slots - 1) a
structure Rd where
  forks : List Ent
  parts : List Pt
  slots : Nat
/-- one sign read; none where the reader gives up -/
noncomputable def Rd.step (r : Rd) (at_ c : Nat) : Option Rd :=
  if c = 40 then some { r with parts := r.parts ++ [.opn r.slots at_] }
  else if c = 46 then some { r with parts := r.parts ++ [.nd (.slot r.slots) r.slots r.slots at_], slots := r.slots + 1 }
  else if c = 41 then match r.parts.reverse with
    | .nd n2 f2 l2 _ :: .nd n1 f1 l1 _ :: .opn _ b :: rest => some { r with forks := r.forks ++ [⟨l1, n1, n2, f1, l2, b, at_ + 1⟩], parts := rest.reverse ++ [.nd (.fork l1) f1 l2 b] }
    | _ => none
  else none
noncomputable def Rd.run : Rd → Nat → List Nat → Option Rd
  | r, _, [] => some r
  | r, a, c :: cs => (r.step a c).bind fun r' => r'.run (a + 1) cs
/-- the path to a slot: forks and sides, true for the left one -/
noncomputable def T.path : T → Nat → Nat → List (Nat × Bool)
  | .leaf, _, _ => []
  | .node l r, s, x => if x < s + l.slots then (s + l.slots - 1, true) :: l.path s x else (s + l.slots - 1, false) :: r.path (s + l.slots) x
noncomputable def T.depths : T → Nat → List Nat
  | .leaf, d => [d]
  | .node l r, d => l.depths (d + 1) ++ r.depths (d + 1)
structure Dp where
  out : List Int
  depth : Int
noncomputable def Dp.step (d : Dp) (c : Nat) : Dp := if c = 40 then { d with depth := d.depth + 1 } else if c = 41 then { d with depth := d.depth - 1 } else { d with out := d.out ++ [d.depth] }
end TM
namespace TM
/-- first and last slot of each fork, in the forks' order; the tree's first slot is s -/
noncomputable def T.spansL : T → Nat → List (Nat × Nat)
  | .leaf, _ => []
  | .node l r, s => l.spansL s ++ (s, s + l.slots + r.slots - 1) :: r.spansL (s + l.slots)
theorem T.spansL_node (l r : T) (s : Nat) : (T.node l r).spansL s = l.spansL s ++ (s, s + l.slots + r.slots - 1) :: r.spansL (s + l.slots) := rfl
theorem T.spansL_len : ∀ (t : T) (s : Nat), (t.spansL s).length + 1 = t.slots
  | .leaf, _ => rfl
  | .node l r, s => by
    have h1 := T.spansL_len l s
    have h2 := T.spansL_len r (s + l.slots)
    show (l.spansL s ++ (s, s + l.slots + r.slots - 1) :: r.spansL (s + l.slots)).length + 1 = l.slots + r.slots
    rw [List.length_append, List.length_cons]
    omega
theorem T.spansL_in : ∀ (t : T) (s : Nat) (p : Nat × Nat), p ∈ t.spansL s → s ≤ p.1 ∧ p.1 < p.2 ∧ p.2 < s + t.slots
  | .leaf, _, _, h => by cases h
  | .node l r, s, p, h => by
    have h1 := l.slots_pos
    have h2 := r.slots_pos
    have hz : (T.node l r).slots = l.slots + r.slots := rfl
    rcases List.mem_append.mp h with h | h
    · have := T.spansL_in l s p h
      omega
    · rcases List.mem_cons.mp h with h | h
      · rw [h]
        show s ≤ s ∧ s < s + l.slots + r.slots - 1 ∧ s + l.slots + r.slots - 1 < _
        omega
      · have := T.spansL_in r _ p h
        omega
/-- the spans from l to h, in sp, are those of the tree -/
structure Fits (sp : Nat → Nat × Nat) (l h : Nat) (t : T) : Prop where
  many : t.slots = h + 1 - l
  at_ : ∀ k p, (t.spansL l)[k]? = some p → sp (l + k) = p
theorem Fits.leaf (sp : Nat → Nat × Nat) (l : Nat) : Fits sp l l .leaf := ⟨by show 1 = _; omega, fun k p h => by cases h⟩
theorem Fits.node {sp : Nat → Nat × Nat} {l f h : Nat} {a b : T} (h1 : l ≤ f) (h2 : f < h) (e : sp f = (l, h)) (ha : Fits sp l f a) (hb : Fits sp (f + 1) h b) : Fits sp l h (.node a b) := by
  have m1 := ha.many
  have m2 := hb.many
  have hz : (T.node a b).slots = a.slots + b.slots := rfl
  have la := a.spansL_len l
  refine ⟨by omega, fun k p hp => ?_⟩
  have hp : (a.spansL l ++ (l, l + a.slots + b.slots - 1) :: b.spansL (l + a.slots))[k]? = some p := hp
  by_cases hk : k < (a.spansL l).length
  · rw [List.getElem?_append_left hk] at hp
    exact ha.at_ k p hp
  · rw [List.getElem?_append_right (by omega)] at hp
    by_cases hk2 : k = (a.spansL l).length
    · rw [hk2, Nat.sub_self, List.getElem?_cons_zero] at hp
      cases hp
      rw [show l + k = f by omega, e]
      congr 1
      omega
    · obtain ⟨j, hj⟩ : ∃ j, k - (a.spansL l).length = j + 1 := ⟨k - (a.spansL l).length - 1, by omega⟩
      rw [hj, List.getElem?_cons_succ, show l + a.slots = f + 1 by omega] at hp
      have := hb.at_ j p hp
      rw [← this]
      congr 1
      omega
/-- intervals that stand apart -/
inductive Apt : List (Nat × Nat) → Prop where
  | nil : Apt []
  | cons {p : Nat × Nat} {ps : List (Nat × Nat)} (o : p.1 ≤ p.2) (h : ∀ q ∈ ps, p.2 < q.1 ∨ q.2 < p.1) (t : Apt ps) : Apt (p :: ps)
/-- a state of the making: sp as told so far, ps to be parted yet (the next one first); whatever agrees with sp on what is told and has trees for ps, has one for the whole -/
structure Making (many : Nat) (sp : Nat → Option (Nat × Nat)) (ps : List (Nat × Nat)) : Prop where
  apt : Apt ps
  top : ∀ p ∈ ps, p.2 < many
  free : ∀ p ∈ ps, ∀ k, p.1 ≤ k → k < p.2 → sp k = none
  made : ∀ sp' : Nat → Nat × Nat, (∀ k v, sp k = some v → sp' k = v) → (∀ p ∈ ps, ∃ t, Fits sp' p.1 p.2 t) → ∃ t, Fits sp' 0 (many - 1) t
theorem Making.start {many : Nat} (h : 0 < many) : Making many (fun _ => none) [(0, many - 1)] :=
  ⟨.cons (Nat.zero_le _) (fun _ h => by cases h) .nil, fun p hp => by rw [List.mem_singleton.mp hp]; show many - 1 < many; omega, fun _ _ _ _ _ => rfl, fun sp' _ h2 => h2 _ (List.mem_singleton.mpr rfl)⟩
theorem Making.leaf {many : Nat} {sp : Nat → Option (Nat × Nat)} {l : Nat} {ps : List (Nat × Nat)} (m : Making many sp ((l, l) :: ps)) : Making many sp ps := by
  cases m.apt with
  | cons o h t =>
    refine ⟨t, fun p hp => m.top p (List.mem_cons_of_mem _ hp), fun p hp => m.free p (List.mem_cons_of_mem _ hp), fun sp' h1 h2 => m.made sp' h1 fun p hp => ?_⟩
    rcases List.mem_cons.mp hp with hp | hp
    · rw [hp]
      exact ⟨.leaf, .leaf sp' l⟩
    · exact h2 p hp
theorem Making.node {many : Nat} {sp : Nat → Option (Nat × Nat)} {l h f : Nat} {ps : List (Nat × Nat)} (m : Making many sp ((l, h) :: ps)) (h1 : l ≤ f) (h2 : f < h) : Making many (fun k => if k = f then some (l, h) else sp k) ((f + 1, h) :: (l, f) :: ps) := by
  cases m.apt with
  | cons o hh t =>
    have tp := m.top (l, h) List.mem_cons_self
    refine ⟨.cons (by show f + 1 ≤ h; omega) (fun q hq => ?_) (.cons (by show l ≤ f; omega) (fun q hq => ?_) t), fun p hp => ?_, fun p hp k k1 k2 => ?_, fun sp' g1 g2 => ?_⟩
    · rcases List.mem_cons.mp hq with hq | hq
      · rw [hq]
        show h < l ∨ f < f + 1
        omega
      · have := hh q hq
        show h < q.1 ∨ q.2 < f + 1
        simp only at this
        omega
    · have := hh q hq
      show f < q.1 ∨ q.2 < l
      simp only at this
      omega
    · rcases List.mem_cons.mp hp with hp | hp
      · rw [hp]
        exact tp
      · rcases List.mem_cons.mp hp with hp | hp
        · rw [hp]
          show f < many
          simp only at tp
          omega
        · exact m.top p (List.mem_cons_of_mem _ hp)
    · have kf : k ≠ f := by
        rcases List.mem_cons.mp hp with hp | hp
        · rw [hp] at k1
          simp only at k1
          omega
        · rcases List.mem_cons.mp hp with hp | hp
          · rw [hp] at k2
            simp only at k2
            omega
          · have := hh p hp
            simp only at this
            omega
      show (if k = f then _ else _) = _
      rw [if_neg kf]
      rcases List.mem_cons.mp hp with hp | hp
      · rw [hp] at k1 k2
        simp only at k1 k2
        exact m.free (l, h) List.mem_cons_self k (by show l ≤ k; omega) k2
      · rcases List.mem_cons.mp hp with hp | hp
        · rw [hp] at k1 k2
          simp only at k1 k2
          exact m.free (l, h) List.mem_cons_self k k1 (by show k < h; omega)
        · exact m.free p (List.mem_cons_of_mem _ hp) k k1 k2
    · refine m.made sp' (fun k v hv => ?_) fun p hp => ?_
      · refine g1 k v ?_
        have kf : k ≠ f := fun z => by
          rw [z, m.free (l, h) List.mem_cons_self f h1 h2] at hv
          cases hv
        show (if k = f then _ else _) = _
        rw [if_neg kf]
        exact hv
      · rcases List.mem_cons.mp hp with hp | hp
        · obtain ⟨b, hb⟩ := g2 (f + 1, h) List.mem_cons_self
          obtain ⟨a, ha⟩ := g2 (l, f) (List.mem_cons_of_mem _ List.mem_cons_self)
          rw [hp]
          exact ⟨.node a b, .node h1 h2 (g1 f _ (by show (if f = f then _ else _) = _; rw [if_pos rfl])) ha hb⟩
        · exact g2 p (List.mem_cons_of_mem _ (List.mem_cons_of_mem _ hp))
end TM
set_option autoImplicit false
namespace MR
open PySem PySem.Spec PyProof.Rows L2 TM
noncomputable def txtS (l : List Nat) : Str := ⟨l.toArray⟩
theorem txtS_len (l : List Nat) : (txtS l).length = l.length := by simp [txtS, Str.length]
theorem txtS_list (l : List Nat) : (txtS l).cps.toList = l := by simp [txtS]
noncomputable def ndD : Nd → MR.D
  | .fork n => .tup [.str "fork", .int (n : Int)]
  | .slot n => .tup [.str "slot", .int (n : Int)]
noncomputable abbrev intN (n : Nat) : MR.D := .int (n : Int)
noncomputable def keyN (n : Nat) : Key := .inl (n : Int)
noncomputable def sidesD (E : List Ent) : MR.D := .dic (E.map fun x => (keyN x.fork, .tup [ndD x.left, ndD x.right]))
noncomputable def spansD (E : List Ent) : MR.D := .dic (E.map fun x => (keyN x.fork, .tup [intN x.first, intN x.last]))
noncomputable def placesD (E : List Ent) : MR.D := .dic (E.map fun x => (keyN x.fork, .tup [intN x.b, intN x.e]))
noncomputable def preD (E : List Ent) : MR.D := .lst ((sortP (E.map fun x => ((x.b : Int), (x.fork : Int)))).map fun p => .int p.2)
noncomputable def treeF (t : T) : List (Str × MR.D) := [("text", .str (txtS t.text)), ("_depths", .lst ((t.depths 0).map intN)), ("_sides", sidesD (t.ents 0 0)), ("_spans", spansD (t.ents 0 0)), ("_places", placesD (t.ents 0 0)), ("_postorder", .lst ((t.ents 0 0).map fun x => intN x.fork)), ("_preorder", preD (t.ents 0 0))]
noncomputable def treeD (t : T) : MR.D := .obj "Tree" (treeF t)
section
variable {t : T}
theorem f_text : sval (treeF t) "text" = some (.str (txtS t.text)) := rfl
theorem f_depths : sval (treeF t) "_depths" = some (.lst ((t.depths 0).map intN)) := rfl
theorem f_sides : sval (treeF t) "_sides" = some (sidesD (t.ents 0 0)) := rfl
theorem f_post : sval (treeF t) "_postorder" = some (.lst ((t.ents 0 0).map fun x => intN x.fork)) := rfl
theorem ins_tree : isIns? "Tree" (treeD t) = some () := gdO_pos rfl
theorem obj_path : isObj? "Tree" "path" (treeD t) = some () := gdO_pos ⟨rfl, rfl⟩
theorem obj_sides : isObj? "Tree" "sides" (treeD t) = some () := gdO_pos ⟨rfl, rfl⟩
end
theorem kb_NoneType_int : kitB "NoneType" "int" = some false := by decide +kernel
theorem kb_bool_int : kitB "bool" "int" = some true := by decide +kernel
theorem kb_int_int : kitB "int" "int" = some true := by decide +kernel
theorem kb_str_int : kitB "str" "int" = some false := by decide +kernel
theorem kb_list_int : kitB "list" "int" = some false := by decide +kernel
theorem kb_tuple_int : kitB "tuple" "int" = some false := by decide +kernel
theorem kb_NoneType_bool : kitB "NoneType" "bool" = some false := by decide +kernel
theorem kb_bool_bool : kitB "bool" "bool" = some true := by decide +kernel
theorem kb_int_bool : kitB "int" "bool" = some false := by decide +kernel
theorem kb_str_bool : kitB "str" "bool" = some false := by decide +kernel
theorem kb_list_bool : kitB "list" "bool" = some false := by decide +kernel
theorem kb_tuple_bool : kitB "tuple" "bool" = some false := by decide +kernel
theorem kb_NoneType_str : kitB "NoneType" "str" = some false := by decide +kernel
theorem kb_bool_str : kitB "bool" "str" = some false := by decide +kernel
theorem kb_int_str : kitB "int" "str" = some false := by decide +kernel
theorem kb_str_str : kitB "str" "str" = some true := by decide +kernel
theorem kb_list_str : kitB "list" "str" = some false := by decide +kernel
theorem kb_tuple_str : kitB "tuple" "str" = some false := by decide +kernel
theorem kb_NoneType_list : kitB "NoneType" "list" = some false := by decide +kernel
theorem kb_bool_list : kitB "bool" "list" = some false := by decide +kernel
theorem kb_int_list : kitB "int" "list" = some false := by decide +kernel
theorem kb_str_list : kitB "str" "list" = some false := by decide +kernel
theorem kb_list_list : kitB "list" "list" = some true := by decide +kernel
theorem kb_tuple_list : kitB "tuple" "list" = some false := by decide +kernel
theorem kb_NoneType_tuple : kitB "NoneType" "tuple" = some false := by decide +kernel
theorem kb_bool_tuple : kitB "bool" "tuple" = some false := by decide +kernel
theorem kb_int_tuple : kitB "int" "tuple" = some false := by decide +kernel
theorem kb_str_tuple : kitB "str" "tuple" = some false := by decide +kernel
theorem kb_list_tuple : kitB "list" "tuple" = some false := by decide +kernel
theorem kb_tuple_tuple : kitB "tuple" "tuple" = some true := by decide +kernel
/-- a value that isinstance takes -/
noncomputable def okV : MR.D → Bool
  | .non => true
  | .bl _ => true
  | .int _ => true
  | .str _ => true
  | .lst _ => true
  | .tup _ => true
  | _ => false
noncomputable def tInt : MR.D → Bool
  | .int _ => true
  | .bl _ => true
  | _ => false
noncomputable def tBool : MR.D → Bool
  | .bl _ => true
  | _ => false
noncomputable def tStr : MR.D → Bool
  | .str _ => true
  | _ => false
noncomputable def tList : MR.D → Bool
  | .lst _ => true
  | _ => false
noncomputable def tTup : MR.D → Bool
  | .tup _ => true
  | _ => false
theorem fIsi_int {d : MR.D} (h : okV d = true) : fIsi [d, .ty "int"] = some (.fz (.bl (tInt d))) := by
  unfold fIsi
  cases d <;> first | (cases h; done) | skip
  · show (kitB "NoneType" "int").bind bB = _
    rw [kb_NoneType_int]
    rfl
  · show (kitB "bool" "int").bind bB = _
    rw [kb_bool_int]
    rfl
  · show (kitB "int" "int").bind bB = _
    rw [kb_int_int]
    rfl
  · show (kitB "str" "int").bind bB = _
    rw [kb_str_int]
    rfl
  · show (kitB "list" "int").bind bB = _
    rw [kb_list_int]
    rfl
  · show (kitB "tuple" "int").bind bB = _
    rw [kb_tuple_int]
    rfl
theorem g_is_int {d : MR.D} {P : Val → Prop} (h : okV d = true) (q : P (.fz (.bl (tInt d)))) : ∃ r, fIsi [d, .ty "int"] = some r ∧ P r := ⟨_, fIsi_int h, q⟩
theorem fIsi_bool {d : MR.D} (h : okV d = true) : fIsi [d, .ty "bool"] = some (.fz (.bl (tBool d))) := by
  unfold fIsi
  cases d <;> first | (cases h; done) | skip
  · show (kitB "NoneType" "bool").bind bB = _
    rw [kb_NoneType_bool]
    rfl
  · show (kitB "bool" "bool").bind bB = _
    rw [kb_bool_bool]
    rfl
  · show (kitB "int" "bool").bind bB = _
    rw [kb_int_bool]
    rfl
  · show (kitB "str" "bool").bind bB = _
    rw [kb_str_bool]
    rfl
  · show (kitB "list" "bool").bind bB = _
    rw [kb_list_bool]
    rfl
  · show (kitB "tuple" "bool").bind bB = _
    rw [kb_tuple_bool]
    rfl
theorem g_is_bool {d : MR.D} {P : Val → Prop} (h : okV d = true) (q : P (.fz (.bl (tBool d)))) : ∃ r, fIsi [d, .ty "bool"] = some r ∧ P r := ⟨_, fIsi_bool h, q⟩
theorem fIsi_str {d : MR.D} (h : okV d = true) : fIsi [d, .ty "str"] = some (.fz (.bl (tStr d))) := by
  unfold fIsi
  cases d <;> first | (cases h; done) | skip
  · show (kitB "NoneType" "str").bind bB = _
    rw [kb_NoneType_str]
    rfl
  · show (kitB "bool" "str").bind bB = _
    rw [kb_bool_str]
    rfl
  · show (kitB "int" "str").bind bB = _
    rw [kb_int_str]
    rfl
  · show (kitB "str" "str").bind bB = _
    rw [kb_str_str]
    rfl
  · show (kitB "list" "str").bind bB = _
    rw [kb_list_str]
    rfl
  · show (kitB "tuple" "str").bind bB = _
    rw [kb_tuple_str]
    rfl
theorem g_is_str {d : MR.D} {P : Val → Prop} (h : okV d = true) (q : P (.fz (.bl (tStr d)))) : ∃ r, fIsi [d, .ty "str"] = some r ∧ P r := ⟨_, fIsi_str h, q⟩
theorem fIsi_list {d : MR.D} (h : okV d = true) : fIsi [d, .ty "list"] = some (.fz (.bl (tList d))) := by
  unfold fIsi
  cases d <;> first | (cases h; done) | skip
  · show (kitB "NoneType" "list").bind bB = _
    rw [kb_NoneType_list]
    rfl
  · show (kitB "bool" "list").bind bB = _
    rw [kb_bool_list]
    rfl
  · show (kitB "int" "list").bind bB = _
    rw [kb_int_list]
    rfl
  · show (kitB "str" "list").bind bB = _
    rw [kb_str_list]
    rfl
  · show (kitB "list" "list").bind bB = _
    rw [kb_list_list]
    rfl
  · show (kitB "tuple" "list").bind bB = _
    rw [kb_tuple_list]
    rfl
theorem g_is_list {d : MR.D} {P : Val → Prop} (h : okV d = true) (q : P (.fz (.bl (tList d)))) : ∃ r, fIsi [d, .ty "list"] = some r ∧ P r := ⟨_, fIsi_list h, q⟩
theorem fIsi_tuple {d : MR.D} (h : okV d = true) : fIsi [d, .ty "tuple"] = some (.fz (.bl (tTup d))) := by
  unfold fIsi
  cases d <;> first | (cases h; done) | skip
  · show (kitB "NoneType" "tuple").bind bB = _
    rw [kb_NoneType_tuple]
    rfl
  · show (kitB "bool" "tuple").bind bB = _
    rw [kb_bool_tuple]
    rfl
  · show (kitB "int" "tuple").bind bB = _
    rw [kb_int_tuple]
    rfl
  · show (kitB "str" "tuple").bind bB = _
    rw [kb_str_tuple]
    rfl
  · show (kitB "list" "tuple").bind bB = _
    rw [kb_list_tuple]
    rfl
  · show (kitB "tuple" "tuple").bind bB = _
    rw [kb_tuple_tuple]
    rfl
theorem g_is_tuple {d : MR.D} {P : Val → Prop} (h : okV d = true) (q : P (.fz (.bl (tTup d)))) : ∃ r, fIsi [d, .ty "tuple"] = some r ∧ P r := ⟨_, fIsi_tuple h, q⟩
theorem T.mem_left {l r : T} {s a : Nat} {x : Ent} (h : x ∈ l.ents s (a + 1)) : x ∈ (T.node l r).ents s a := List.mem_append_left _ h
theorem T.mem_right {l r : T} {s a : Nat} {x : Ent} (h : x ∈ r.ents (s + l.slots) (a + 1 + l.text.length)) : x ∈ (T.node l r).ents s a := List.mem_append_right _ (List.mem_append_left _ h)
noncomputable def isMade (ls : List Nat) : MR.D → Bool
  | .str z => z.cps.toList.all fun c => decide (c ∈ ls)
  | _ => false
/-- a text that is not too long, or something else that isinstance takes -/
noncomputable def okS (d : MR.D) : Prop := okV d = true ∧ ∀ z, d = .str z → z.length ≤ sizeLine
noncomputable def isNum (lo hi : Int) : MR.D → Bool
  | .int i => decide (lo ≤ i ∧ i ≤ hi)
  | _ => false
noncomputable def isKind : MR.D → Bool
  | .str z => decide (z = "hit") || decide (z = "load")
  | _ => false
noncomputable def isLine (last : Int) : MR.D → Bool
  | .tup [a, b] => isKind a && isNum 0 last b
  | _ => false
end MR
set_option autoImplicit false
namespace TM
/-- a fork's span lets the slot pass -/
noncomputable def below (sp : List (Nat × Nat)) (f s : Nat) : Bool := match sp[f]? with
  | some p => decide (p.1 ≤ s ∧ s ≤ p.2)
  | none => false
theorem spans_at_left {l r : T} {a k : Nat} (h : k + 1 < l.slots) : ((T.node l r).spansL a)[k]? = (l.spansL a)[k]? := by
  have := l.spansL_len a
  rw [T.spansL_node, List.getElem?_append_left (by omega)]
theorem spans_at_top {l r : T} {a : Nat} : ((T.node l r).spansL a)[l.slots - 1]? = some (a, a + l.slots + r.slots - 1) := by
  have := l.spansL_len a
  rw [T.spansL_node, List.getElem?_append_right (by omega), show l.slots - 1 - (l.spansL a).length = 0 by omega]
  rfl
theorem spans_at_right {l r : T} {a k : Nat} : ((T.node l r).spansL a)[l.slots + k]? = (r.spansL (a + l.slots))[k]? := by
  have := l.spansL_len a
  have := l.slots_pos
  rw [T.spansL_node, List.getElem?_append_right (by omega), show l.slots + k - (l.spansL a).length = k + 1 by omega, List.getElem?_cons_succ]
/-- the forks on a path are those whose spans hold the slot, with its sides -/
theorem path_mem : ∀ (t : T) (a s f : Nat) (b : Bool), a ≤ s → s < a + t.slots → ((f, b) ∈ t.path a s ↔ a ≤ f ∧ (∃ p, (t.spansL a)[f - a]? = some p ∧ p.1 ≤ s ∧ s ≤ p.2) ∧ b = decide (s ≤ f))
  | .leaf, a, s, f, b, h1, h2 => by
    constructor
    · intro h; cases h
    · rintro ⟨_, ⟨p, h, _⟩, _⟩; cases h
  | .node l r, a, s, f, b, h1, h2 => by
    have hl := l.slots_pos
    have hr := r.slots_pos
    have hz : (T.node l r).slots = l.slots + r.slots := rfl
    have sl := l.spansL_len a
    have sr := r.spansL_len (a + l.slots)
    have key : ∀ p, ((T.node l r).spansL a)[f - a]? = some p → a ≤ f → (f + 1 < a + l.slots ∧ (l.spansL a)[f - a]? = some p) ∨ (f + 1 = a + l.slots ∧ p = (a, a + l.slots + r.slots - 1)) ∨ (a + l.slots ≤ f ∧ (r.spansL (a + l.slots))[f - (a + l.slots)]? = some p) := by
      intro p hp hf
      by_cases c1 : f + 1 < a + l.slots
      · rw [spans_at_left (by omega)] at hp
        exact .inl ⟨c1, hp⟩
      · by_cases c2 : f + 1 = a + l.slots
        · rw [show f - a = l.slots - 1 by omega, spans_at_top] at hp
          exact .inr (.inl ⟨c2, (Option.some.inj hp).symm⟩)
        · rw [show f - a = l.slots + (f - (a + l.slots)) by omega, spans_at_right] at hp
          exact .inr (.inr ⟨by omega, hp⟩)
    by_cases hs : s < a + l.slots
    · have pe : (T.node l r).path a s = (a + l.slots - 1, true) :: l.path a s := if_pos hs
      rw [pe, List.mem_cons]
      constructor
      · rintro (h | h)
        · cases h
          refine ⟨by omega, ⟨(a, a + l.slots + r.slots - 1), ?_, by show a ≤ s; omega, by show s ≤ a + l.slots + r.slots - 1; omega⟩, (decide_eq_true (by omega)).symm⟩
          rw [show a + l.slots - 1 - a = l.slots - 1 by omega, spans_at_top]
        · obtain ⟨h3, ⟨p, h4, h5⟩, h6⟩ := (path_mem l a s f b h1 hs).mp h
          have : f - a < (l.spansL a).length := (List.getElem?_eq_some_iff.mp h4).1
          exact ⟨h3, ⟨p, by rw [spans_at_left (by omega)]; exact h4, h5⟩, h6⟩
      · rintro ⟨h3, ⟨p, h4, h5⟩, h6⟩
        rcases key p h4 h3 with ⟨c, h7⟩ | ⟨c, h7⟩ | ⟨c, h7⟩
        · exact .inr ((path_mem l a s f b h1 hs).mpr ⟨h3, ⟨p, h7, h5⟩, h6⟩)
        · left
          rw [h6, decide_eq_true (show s ≤ f by omega), show f = a + l.slots - 1 by omega]
        · have := T.spansL_in r _ p (List.mem_of_getElem? h7)
          omega
    · have pe : (T.node l r).path a s = (a + l.slots - 1, false) :: r.path (a + l.slots) s := if_neg hs
      rw [pe, List.mem_cons]
      constructor
      · rintro (h | h)
        · cases h
          refine ⟨by omega, ⟨(a, a + l.slots + r.slots - 1), ?_, by show a ≤ s; omega, by show s ≤ a + l.slots + r.slots - 1; omega⟩, (decide_eq_false (by omega)).symm⟩
          rw [show a + l.slots - 1 - a = l.slots - 1 by omega, spans_at_top]
        · obtain ⟨h3, ⟨p, h4, h5⟩, h6⟩ := (path_mem r (a + l.slots) s f b (by omega) (by omega)).mp h
          exact ⟨by omega, ⟨p, by rw [show f - a = l.slots + (f - (a + l.slots)) by omega, spans_at_right]; exact h4, h5⟩, h6⟩
      · rintro ⟨h3, ⟨p, h4, h5⟩, h6⟩
        rcases key p h4 h3 with ⟨c, h7⟩ | ⟨c, h7⟩ | ⟨c, h7⟩
        · have := T.spansL_in l _ p (List.mem_of_getElem? h7)
          omega
        · left
          rw [h6, decide_eq_false (show ¬ s ≤ f by omega), show f = a + l.slots - 1 by omega]
        · exact .inr ((path_mem r (a + l.slots) s f b (by omega) (by omega)).mpr ⟨c, ⟨p, h7, h5⟩, h6⟩)
/-- a path passes each fork once -/
theorem path_nodup : ∀ (t : T) (a s : Nat), ((t.path a s).map (·.1)).Nodup
  | .leaf, _, _ => List.nodup_nil
  | .node l r, a, s => by
    have hl := l.slots_pos
    unfold T.path
    split
    · next hs =>
      rw [List.map_cons]
      refine List.nodup_cons.mpr ⟨fun h => ?_, path_nodup l a s⟩
      obtain ⟨⟨f, b⟩, h1, h2⟩ := List.mem_map.mp h
      have : f + 1 < a + l.slots := path_lt l a s f b h1
      have h2 : f = a + l.slots - 1 := h2
      omega
    · next hs =>
      rw [List.map_cons]
      refine List.nodup_cons.mpr ⟨fun h => ?_, path_nodup r _ s⟩
      obtain ⟨⟨f, b⟩, h1, h2⟩ := List.mem_map.mp h
      have : a + l.slots ≤ f := path_ge r (a + l.slots) s f b h1
      have h2 : f = a + l.slots - 1 := h2
      omega
where
  path_lt : ∀ (t : T) (a s f : Nat) (b : Bool), (f, b) ∈ t.path a s → f + 1 < a + t.slots
    | .leaf, _, _, _, _, h => by cases h
    | .node l r, a, s, f, b, h => by
      have hl := l.slots_pos
      have hr := r.slots_pos
      have hz : (T.node l r).slots = l.slots + r.slots := rfl
      unfold T.path at h
      split at h
      · rcases List.mem_cons.mp h with h | h
        · cases h; omega
        · have := path_lt l a s f b h
          omega
      · rcases List.mem_cons.mp h with h | h
        · cases h; omega
        · have := path_lt r _ s f b h
          omega
  path_ge : ∀ (t : T) (a s f : Nat) (b : Bool), (f, b) ∈ t.path a s → a ≤ f
    | .leaf, _, _, _, _, h => by cases h
    | .node l r, a, s, f, b, h => by
      have hl := l.slots_pos
      unfold T.path at h
      split at h
      · rcases List.mem_cons.mp h with h | h
        · cases h; omega
        · exact path_ge l a s f b h
      · rcases List.mem_cons.mp h with h | h
        · cases h; omega
        · have := path_ge r _ s f b h
          omega
theorem path_below {t : T} {s f : Nat} {b : Bool} (h : s < t.slots) : (f, b) ∈ t.path 0 s ↔ below (t.spansL 0) f s = true ∧ b = decide (s ≤ f) := by
  rw [path_mem t 0 s f b (Nat.zero_le _) (by omega)]
  unfold below
  constructor
  · rintro ⟨_, ⟨p, h1, h2⟩, h3⟩
    rw [Nat.sub_zero] at h1
    rw [h1]
    exact ⟨decide_eq_true h2, h3⟩
  · rintro ⟨h1, h3⟩
    cases hp : (t.spansL 0)[f]? with
    | none => rw [hp] at h1; cases h1
    | some p =>
      rw [hp] at h1
      exact ⟨Nat.zero_le _, ⟨p, by first | rfl | exact hp, of_decide_eq_true h1⟩, h3⟩
theorem path_fork {t : T} {s f : Nat} {b : Bool} (h : (f, b) ∈ t.path 0 s) : f + 1 < t.slots := by
  have := path_nodup.path_lt t 0 s f b h
  omega
noncomputable abbrev Ln := Bool × Nat
noncomputable abbrev Pat := List (Option Bool)
/-- the program's state at the forks: the side before and the last line's index -/
noncomputable abbrev Bf := List (Option Bool × Int)
noncomputable def Bf.put (bf : Bf) (i : Nat) (p : List (Nat × Bool)) : Bf := p.foldl (fun bf x => bf.set x.1 (some x.2, (i : Int))) bf
noncomputable def Bf.bad (bf : Bf) (ln : Ln) (p : List (Nat × Bool)) : List Nat := (p.filter fun x => ln.1 && decide ((bf[x.1]?.map (·.1)) = some (some x.2))).map (·.1)
noncomputable abbrev Wr := Nat × Nat × Int
noncomputable def wpStep (t : T) (st : Bf × List Wr) (i : Nat) (ln : Ln) : Bf × List Wr :=
  let p := t.path 0 ln.2
  (st.1.put i p, match st.1.bad ln p with
    | [] => st.2
    | f :: _ => st.2 ++ [(i, f, ((st.1[f]?.map (·.2)).getD 0))])
/-- over the lines from index i -/
noncomputable def wpFrom (t : T) : Bf × List Wr → Nat → List Ln → Bf × List Wr
  | st, _, [] => st
  | st, i, ln :: lns => wpFrom t (wpStep t st i ln) (i + 1) lns
noncomputable def bf0 (p : Pat) : Bf := p.map fun o => (o, -1)
noncomputable def wp (t : T) (p : Pat) (run : List Ln) : List Wr := (wpFrom t (bf0 p, []) 0 run).2
theorem Bf.put_len (i : Nat) : ∀ (p : List (Nat × Bool)) (bf : Bf), (bf.put i p).length = bf.length
  | [], _ => rfl
  | x :: p, bf => by
    show (Bf.put (bf.set x.1 _) i p).length = _
    rw [Bf.put_len i p, List.length_set]
end TM
set_option autoImplicit false
namespace TM
theorem Bf.bad_path {bf : Bf} {ln : Ln} {p : List (Nat × Bool)} {f : Nat} (h : f ∈ bf.bad ln p) : ∃ b, (f, b) ∈ p := by
  obtain ⟨x, h1, rfl⟩ := List.mem_map.mp h
  exact ⟨x.2, (List.mem_filter.mp h1).1⟩
end TM
set_option autoImplicit false
namespace TM
/-- u stands at a within t -/
structure Sub (t u : T) (a : Nat) : Prop where
  sp : ∀ (k : Nat) (p : Nat × Nat), (u.spansL a)[k]? = some p → (t.spansL 0)[a + k]? = some p
  le : a + u.slots ≤ t.slots
theorem Sub.refl (t : T) : Sub t t 0 := ⟨fun k p h => by rw [Nat.zero_add]; exact h, by omega⟩
theorem Sub.left {t l r : T} {a : Nat} (h : Sub t (.node l r) a) : Sub t l a := by
  have hz : (T.node l r).slots = l.slots + r.slots := rfl
  refine ⟨fun k p hk => h.sp k p ?_, by have := h.le; omega⟩
  have : k < (l.spansL a).length := (List.getElem?_eq_some_iff.mp hk).1
  have := l.spansL_len a
  rw [spans_at_left (by omega)]
  exact hk
theorem Sub.right {t l r : T} {a : Nat} (h : Sub t (.node l r) a) : Sub t r (a + l.slots) := by
  have hz : (T.node l r).slots = l.slots + r.slots := rfl
  refine ⟨fun k p hk => ?_, by have := h.le; omega⟩
  rw [show a + l.slots + k = a + (l.slots + k) by omega]
  refine h.sp _ p ?_
  rw [spans_at_right]
  exact hk
theorem Sub.top {t l r : T} {a : Nat} (h : Sub t (.node l r) a) : (t.spansL 0)[a + l.slots - 1]? = some (a, a + (T.node l r).slots - 1) := by
  have hl := l.slots_pos
  have hz : (T.node l r).slots = l.slots + r.slots := rfl
  rw [show a + l.slots - 1 = a + (l.slots - 1) by omega]
  rw [h.sp _ _ spans_at_top, hz, show a + (l.slots + r.slots) - 1 = a + l.slots + r.slots - 1 by omega]
noncomputable def turnN (sp : List (Nat × Nat)) (s : Nat) : Nat → Pat → Pat
  | 0, p => p
  | k + 1, p => if below sp k s then (turnN sp s k p).set k (some (decide (s ≤ k))) else turnN sp s k p
theorem turnN_len (sp : List (Nat × Nat)) (s : Nat) : ∀ (k : Nat) (p : Pat), (turnN sp s k p).length = p.length
  | 0, _ => rfl
  | k + 1, p => by
    unfold turnN
    split
    · rw [List.length_set]
      exact turnN_len sp s k p
    · exact turnN_len sp s k p
theorem turnN_at (sp : List (Nat × Nat)) (s : Nat) : ∀ (n : Nat) (p : Pat) (k : Nat), k < p.length → (turnN sp s n p)[k]? = if k < n ∧ below sp k s = true then some (some (decide (s ≤ k))) else p[k]?
  | 0, p, k, _ => by rw [if_neg (by omega)]; rfl
  | n + 1, p, k, hk => by
    have ih := turnN_at sp s n p k hk
    have hl := turnN_len sp s n p
    unfold turnN
    by_cases hb : below sp n s = true
    · rw [if_pos hb]
      by_cases hn : k = n
      · subst hn
        rw [if_pos ⟨by omega, hb⟩, List.getElem?_set_self (by omega)]
      · rw [List.getElem?_set_ne (Ne.symm hn), ih]
        by_cases c : k < n ∧ below sp k s = true
        · rw [if_pos c, if_pos ⟨by omega, c.2⟩]
        · rw [if_neg c, if_neg fun z => c ⟨by omega, z.2⟩]
    · rw [if_neg hb, ih]
      by_cases c : k < n ∧ below sp k s = true
      · rw [if_pos c, if_pos ⟨by omega, c.2⟩]
      · rw [if_neg c, if_neg fun z => c ⟨by
          have : k ≠ n := fun y => hb (y ▸ z.2)
          omega, z.2⟩]
noncomputable def turnP (t : T) (p : Pat) (s : Nat) : Pat := turnN (t.spansL 0) s (t.slots - 1) p
/-- where the way to the victim leaves the path of the slot -/
noncomputable def leaves (p : Pat) (x : Nat × Bool) : Bool := decide (p[x.1]? = some (some false)) != x.2
noncomputable def depP (t : T) (p : Pat) (s : Nat) : Option Nat := ((t.path 0 s).find? (leaves p)).map (·.1)
end TM
set_option autoImplicit false
namespace MR
open PySem PySem.Spec PyProof.Rows L2 TM
end MR
set_option autoImplicit false
namespace MR
open PySem PySem.Spec PyProof.Rows L2 TM
theorem joinNil : ∀ ls : List (List Nat), TL.joinL [] ls = ls.flatten
  | [] => rfl
  | [p] => by
    show p = [p].flatten
    rw [List.flatten_cons, List.flatten_nil, List.append_nil]
  | p :: q :: r => by
    show p ++ ([] ++ TL.joinL [] (q :: r)) = _
    rw [List.nil_append, joinNil (q :: r)]
    rfl
theorem join_empty (ys : List Str) : (Txt.join ("" : Str) ys).cps.toList = (ys.map fun y => y.cps.toList).flatten := by
  have e := TL.tl_join ("" : Str) ys
  have e2 : TL.tl ("" : Str) = [] := rfl
  rw [e2, joinNil] at e
  rw [TL.join_eq]
  exact e
/-- joined texts that are told by their signs -/
theorem join_txt (ls : List (List Nat)) : Txt.join ("" : Str) (ls.map txtS) = txtS ls.flatten := by
  have h := join_empty (ls.map txtS)
  rw [List.map_map] at h
  have e : (ls.map ((fun y : Str => y.cps.toList) ∘ txtS)) = ls := by
    rw [show ((fun y : Str => y.cps.toList) ∘ txtS) = id from funext fun l => txtS_list l, List.map_id]
  rw [e] at h
  cases hj : Txt.join ("" : Str) (ls.map txtS) with
  | mk c =>
    rw [hj] at h
    have h : c.toList = ls.flatten := h
    unfold txtS
    rw [← h]
theorem strs_txt : ∀ ls : List (List Nat), strsD (ls.map fun l => MR.D.str (txtS l)) = some (ls.map txtS)
  | [] => rfl
  | l :: ls => by
    show (strsD (ls.map fun l => MR.D.str (txtS l))).map _ = _
    rw [strs_txt ls]
    rfl
theorem g_addS {a b : List Nat} {P : Val → Prop} (h : a.length + b.length ≤ 1000) (q : P (.fz (.str (txtS (a ++ b))))) : ∃ r, fAddA (.str (txtS a)) (.str (txtS b)) = some r ∧ P r := by
  refine ⟨_, ?_, q⟩
  show orO (fAddS (.str (txtS a)) (.str (txtS b))) _ = _
  have : fAddS (.str (txtS a)) (.str (txtS b)) = some (.fz (.str (txtS a ++ txtS b))) := gdO_pos (by rw [txtS_len, txtS_len]; exact len_ok2 h)
  rw [this]
  show some (Val.fz (.str (txtS a ++ txtS b))) = _
  congr 3
  show (⟨a.toArray ++ b.toArray⟩ : Str) = ⟨(a ++ b).toArray⟩
  simp
theorem g_ixS {z : Str} {k c : Nat} {P : Val → Prop} (hl : z.length ≤ sizeLine) (h : z.cps.toList[k]? = some c) (q : P (.fz (.str ⟨#[c]⟩))) : ∃ r, fIx (.str z) (.int (k : Int)) = some r ∧ P r := by
  refine ⟨_, ?_, q⟩
  show (if z.length ≤ sizeLine then (atI z.cps.toList (k : Int)).map (fun n => Val.fz (.str ⟨#[n]⟩)) else none) = _
  rw [if_pos hl, atI_nat h]
  rfl
end MR
set_option autoImplicit false
namespace TM
/-- the side of the first line through the fork -/
noncomputable def dirF (t : T) (run : List Ln) (f : Nat) : Option Bool := (run.find? fun ln => below (t.spansL 0) f ln.2).map fun ln => decide (ln.2 ≤ f)
noncomputable def bestAt (t : T) (p : Pat) (run : List Ln) (f : Nat) : Option Bool := match (p[f]?).join with
  | some b => some b
  | none => some (match dirF t run f with
    | some d => !d
    | none => true)
noncomputable def bestP (t : T) (p : Pat) (run : List Ln) : Pat := (List.range (t.slots - 1)).map (bestAt t p run)
noncomputable def seenB (t : T) (i s : Nat) (bef : List Int) : List Int := (List.range (t.slots - 1)).map fun f => if below (t.spansL 0) f s then (i : Int) else (bef[f]?).getD 0
/-- the law's way over the lines -/
noncomputable def lawW (t : T) : Pat → List Int → Nat → List Ln → List Wr → List Wr
  | _, _, _, [], acc => acc
  | F, bef, i, ln :: lns, acc => lawW t (turnP t F ln.2) (seenB t i ln.2 bef) (i + 1) lns (if ln.1 then (match depP t F ln.2 with
    | some f => acc ++ [(i, f, (bef[f]?).getD 0)]
    | none => acc) else acc)
structure AtF (t : T) (bf : Bf) (F : Pat) (bef : List Int) (post : List Ln) : Prop where
  l1 : bf.length = t.slots - 1
  l2 : F.length = t.slots - 1
  l3 : bef.length = t.slots - 1
  at_ : ∀ f, f + 1 < t.slots → ∃ o j, bf[f]? = some (o, j) ∧ bef[f]? = some j ∧ ∃ b, F[f]? = some (some b) ∧ (∀ c, o = some c → b = c) ∧ (o = none → ∀ d, dirF t post f = some d → b = !d)
theorem Bf.put_at (i : Nat) : ∀ (ps : List (Nat × Bool)) (bf : Bf) (f : Nat), (ps.map (·.1)).Nodup → f < bf.length → (bf.put i ps)[f]? = match ps.find? (fun x => x.1 == f) with
    | some x => some (some x.2, (i : Int))
    | none => bf[f]?
  | [], bf, f, _, _ => rfl
  | x :: ps, bf, f, hn, hf => by
    rw [List.map_cons, List.nodup_cons] at hn
    have ih := Bf.put_at i ps (bf.set x.1 (some x.2, (i : Int))) f hn.2 (by rw [List.length_set]; exact hf)
    show (Bf.put (bf.set x.1 (some x.2, (i : Int))) i ps)[f]? = _
    rw [ih]
    by_cases hx : x.1 = f
    · subst hx
      rw [List.find?_cons_of_pos (by simp)]
      have : ps.find? (fun y => y.1 == x.1) = none := by
        rw [List.find?_eq_none]
        intro y hy hz
        exact hn.1 (List.mem_map.mpr ⟨y, hy, of_decide_eq_true hz⟩)
      rw [this]
      show (bf.set x.1 (some x.2, (i : Int)))[x.1]? = _
      rw [List.getElem?_set_self hf]
    · rw [List.find?_cons_of_neg (by simpa using hx)]
      cases ps.find? (fun x => x.1 == f) with
      | some y => rfl
      | none =>
        show (bf.set x.1 (some x.2, (i : Int)))[f]? = _
        rw [List.getElem?_set_ne hx]
theorem path_find {t : T} {s f : Nat} (hs : s < t.slots) : (t.path 0 s).find? (fun x => x.1 == f) = if below (t.spansL 0) f s then some (f, decide (s ≤ f)) else none := by
  by_cases hb : below (t.spansL 0) f s = true
  · rw [if_pos hb]
    have hm := (path_below (t := t) hs).mpr ⟨hb, rfl⟩
    have h1 : ((t.path 0 s).find? fun x => x.1 == f).isSome = true := by
      rw [List.find?_isSome]
      exact ⟨_, hm, by simp⟩
    obtain ⟨x, hx⟩ := Option.isSome_iff_exists.mp h1
    have h2 := List.mem_of_find?_eq_some hx
    have h3 := List.find?_some hx
    obtain ⟨f', b'⟩ := x
    have h3 : f' = f := by simpa using h3
    subst h3
    rw [hx, ((path_below (t := t) hs).mp h2).2]
  · rw [if_neg hb, List.find?_eq_none]
    rintro ⟨f', b'⟩ h2 h3
    have h3 : f' = f := by simpa using h3
    subst h3
    exact hb ((path_below (t := t) hs).mp h2).1
theorem head_filter_find {α : Type} (q : α → Bool) : ∀ xs : List α, (xs.filter q).head? = xs.find? q
  | [] => rfl
  | x :: xs => by
    by_cases h : q x = true
    · rw [List.filter_cons_of_pos h, List.find?_cons_of_pos h]
      rfl
    · rw [List.filter_cons_of_neg h, List.find?_cons_of_neg h]
      exact head_filter_find q xs
theorem find_congr {α : Type} {q r : α → Bool} : ∀ {xs : List α}, (∀ x ∈ xs, q x = r x) → xs.find? q = xs.find? r
  | [], _ => rfl
  | x :: xs, h => by
    have h1 := h x List.mem_cons_self
    have h2 := find_congr (xs := xs) fun y hy => h y (List.mem_cons_of_mem _ hy)
    unfold List.find?
    rw [h1, h2]
theorem AtF.dep {t : T} {bf : Bf} {F : Pat} {bef : List Int} {ln : Ln} {post : List Ln} (h : AtF t bf F bef (ln :: post)) (hs : ln.2 < t.slots) (hl : ln.1 = true) : (bf.bad ln (t.path 0 ln.2)).head? = depP t F ln.2 := by
  unfold Bf.bad depP
  rw [List.head?_map, head_filter_find]
  congr 1
  refine find_congr fun x hx => ?_
  obtain ⟨f, d⟩ := x
  obtain ⟨hb, hd⟩ := (path_below (t := t) hs).mp hx
  have hf := path_fork hx
  obtain ⟨o, j, e1, e2, b, e3, e4, e5⟩ := h.at_ f hf
  unfold leaves
  rw [hl, Bool.true_and]
  dsimp only
  rw [e1, e3]
  have hdir : dirF t (ln :: post) f = some d := by
    unfold dirF
    rw [List.find?_cons_of_pos (p := fun ln : Ln => below (t.spansL 0) f ln.2) hb, hd]
    rfl
  cases o with
  | none =>
    rw [e5 rfl d hdir]
    cases d <;> rfl
  | some c =>
    rw [e4 c rfl]
    cases c <;> cases d <;> rfl
theorem AtF.step {t : T} {bf : Bf} {F : Pat} {bef : List Int} {ln : Ln} {post : List Ln} (h : AtF t bf F bef (ln :: post)) (hs : ln.2 < t.slots) (i : Nat) : AtF t (bf.put i (t.path 0 ln.2)) (turnP t F ln.2) (seenB t i ln.2 bef) post where
  l1 := by rw [Bf.put_len]; exact h.l1
  l2 := by unfold turnP; rw [turnN_len]; exact h.l2
  l3 := by unfold seenB; rw [List.length_map, List.length_range]
  at_ := fun f hf => by
    obtain ⟨o, j, e1, e2, b, e3, e4, e5⟩ := h.at_ f hf
    have p1 := Bf.put_at i (t.path 0 ln.2) bf f (path_nodup t 0 ln.2) (by rw [h.l1]; omega)
    rw [path_find hs] at p1
    have p2 : (turnP t F ln.2)[f]? = _ := turnN_at (t.spansL 0) ln.2 (t.slots - 1) F f (by rw [h.l2]; omega)
    have p3 : (seenB t i ln.2 bef)[f]? = some (if below (t.spansL 0) f ln.2 then (i : Int) else (bef[f]?).getD 0) := by
      unfold seenB
      rw [List.getElem?_map, List.getElem?_range (by omega)]
      rfl
    by_cases hb : below (t.spansL 0) f ln.2 = true
    · rw [if_pos hb] at p1 p3
      rw [if_pos ⟨by omega, hb⟩] at p2
      exact ⟨_, _, p1, p3, _, p2, fun c hc => Option.some.inj hc, fun hc => nomatch hc⟩
    · rw [if_neg hb] at p1 p3
      rw [if_neg (fun z => hb z.2), e3] at p2
      rw [e2] at p3
      refine ⟨o, j, p1.trans e1, p3, b, p2, e4, fun ho d hd => e5 ho d ?_⟩
      unfold dirF
      rw [List.find?_cons_of_neg (p := fun ln : Ln => below (t.spansL 0) f ln.2) hb]
      exact hd
theorem lawW_wp {t : T} : ∀ (post : List Ln) {bf : Bf} {F : Pat} {bef : List Int} (i : Nat) (acc : List Wr), AtF t bf F bef post → (∀ ln ∈ post, ln.2 < t.slots) → lawW t F bef i post acc = (wpFrom t (bf, acc) i post).2
  | [], _, _, _, _, _, _, _ => rfl
  | ln :: post, bf, F, bef, i, acc, h, hr => by
    have hs := hr ln List.mem_cons_self
    show lawW t (turnP t F ln.2) (seenB t i ln.2 bef) (i + 1) post _ = (wpFrom t (wpStep t (bf, acc) i ln) (i + 1) post).2
    have ih := lawW_wp post (i + 1) (wpStep t (bf, acc) i ln).2 (h.step hs i) fun x hx => hr x (List.mem_cons_of_mem _ hx)
    have e0 : wpStep t (bf, acc) i ln = (bf.put i (t.path 0 ln.2), (wpStep t (bf, acc) i ln).2) := rfl
    rw [e0, ← ih]
    congr 1
    unfold wpStep
    dsimp only
    cases hl : ln.1 with
    | false =>
      have : bf.bad ln (t.path 0 ln.2) = [] := by
        unfold Bf.bad
        rw [hl, List.filter_eq_nil_iff.mpr (fun _ _ hz => by simp at hz)]
        rfl
      rw [this]
      rfl
    | true =>
      rw [if_pos rfl, ← h.dep hs hl]
      cases hb : bf.bad ln (t.path 0 ln.2) with
      | nil => rfl
      | cons f fs =>
        have hm : f ∈ bf.bad ln (t.path 0 ln.2) := by rw [hb]; exact List.mem_cons_self
        obtain ⟨b, hp⟩ := Bf.bad_path hm
        obtain ⟨o, j, e1, e2, _⟩ := h.at_ f (path_fork hp)
        show acc ++ [(i, f, (bef[f]?).getD 0)] = acc ++ [(i, f, ((bf[f]?.map (·.2)).getD 0))]
        rw [e1, e2]
        rfl
theorem bestP_at {t : T} {p : Pat} {run : List Ln} {f : Nat} (h : f + 1 < t.slots) : (bestP t p run)[f]? = some (bestAt t p run f) := by
  unfold bestP
  rw [List.getElem?_map, List.getElem?_range (by omega)]
  rfl
theorem start_at {t : T} {p : Pat} (hp : p.length + 1 = t.slots) (run : List Ln) : AtF t (bf0 p) (bestP t p run) (List.replicate (t.slots - 1) (-1)) run := by
  refine ⟨?_, ?_, List.length_replicate, fun f hf => ?_⟩
  · unfold bf0
    rw [List.length_map]
    omega
  · unfold bestP
    rw [List.length_map, List.length_range]
  · obtain ⟨o, ho⟩ : ∃ o, p[f]? = some o := ⟨_, List.getElem?_eq_getElem (by omega)⟩
    refine ⟨o, -1, by unfold bf0; rw [List.getElem?_map, ho]; rfl, by rw [List.getElem?_replicate, if_pos (by omega)], ?_⟩
    rw [bestP_at hf]
    unfold bestAt
    rw [ho]
    cases o with
    | some b => exact ⟨b, rfl, fun c hc => Option.some.inj hc, fun hc => nomatch hc⟩
    | none =>
      refine ⟨_, rfl, (fun c hc => nomatch hc), fun _ d hd => ?_⟩
      rw [hd]
theorem wrongs_wp {t : T} {p : Pat} {run : List Ln} (hp : p.length + 1 = t.slots) (hr : ∀ ln ∈ run, ln.2 < t.slots) : lawW t (bestP t p run) (List.replicate (t.slots - 1) (-1)) 0 run [] = wp t p run := lawW_wp run 0 [] (start_at hp run) hr
end TM
set_option autoImplicit false
namespace TM
end TM
namespace MR
open PySem PySem.Spec PyProof.Rows L2 TM
end MR
set_option autoImplicit false
namespace TM
inductive Cons : Pat → Pat → Prop
  | nil : Cons [] []
  | cons {o : Option Bool} {b : Bool} {p q : Pat} (h : o ≠ some (!b)) (t : Cons p q) : Cons (o :: p) (some b :: q)
theorem Cons.len {p q : Pat} (h : Cons p q) : q.length = p.length := by
  induction h with
  | nil => rfl
  | cons _ _ ih => rw [List.length_cons, List.length_cons, ih]
theorem Cons.at_ {p q : Pat} (h : Cons p q) : ∀ (f : Nat) (c : Bool), p[f]? = some (some c) → q[f]? = some (some c) := by
  induction h with
  | nil => intro f c hf; cases hf
  | @cons o b p q hb _ ih =>
    intro f c hf
    cases f with
    | zero =>
      have hf : some o = some (some c) := hf
      cases hf
      cases b <;> cases c <;> first | rfl | exact absurd rfl hb
    | succ f => exact ih f c hf
theorem Cons.of : ∀ {p q : Pat}, q.length = p.length → (∀ f, f < p.length → ∃ b, q[f]? = some (some b) ∧ ∀ c, p[f]? = some (some c) → b = c) → Cons p q
  | [], [], _, _ => .nil
  | [], _ :: _, h, _ => nomatch h
  | _ :: _, [], h, _ => nomatch h
  | o :: p, x :: q, h, hf => by
    obtain ⟨b, h1, h2⟩ := hf 0 (by simp)
    have h1 : some x = some (some b) := h1
    cases h1
    refine .cons ?_ (Cons.of (by simpa using h) fun f hlt => hf (f + 1) (by rw [List.length_cons]; omega))
    intro hz
    subst hz
    have := h2 (!b) rfl
    cases b <;> cases this
noncomputable def OkQ (t : T) (bf : Bf) (q : Pat) : Prop := q.length + 1 = t.slots ∧ ∀ (f : Nat) (b : Bool) (j : Int), bf[f]? = some (some b, j) → q[f]? = some (some b)
theorem OkQ.step {t : T} {bf : Bf} {q : Pat} {s : Nat} (h : OkQ t bf q) (hb : bf.length = t.slots - 1) (hs : s < t.slots) (i : Nat) : OkQ t (bf.put i (t.path 0 s)) (turnP t q s) := by
  refine ⟨by unfold turnP; rw [turnN_len]; exact h.1, fun f b j hf => ?_⟩
  have hl : f < bf.length := by
    have := (List.getElem?_eq_some_iff.mp hf).1
    rw [Bf.put_len] at this
    exact this
  have p1 := Bf.put_at i (t.path 0 s) bf f (path_nodup t 0 s) hl
  rw [path_find hs, hf] at p1
  have p2 : (turnP t q s)[f]? = _ := turnN_at (t.spansL 0) s (t.slots - 1) q f (by have := h.1; omega)
  by_cases hbl : below (t.spansL 0) f s = true
  · rw [if_pos hbl] at p1
    rw [if_pos ⟨by omega, hbl⟩] at p2
    rw [p2]
    have p1 : some (some b, j) = some (some (decide (s ≤ f)), (i : Int)) := p1
    cases p1
    rfl
  · rw [if_neg hbl] at p1
    rw [if_neg (fun z => hbl z.2)] at p2
    rw [p2]
    exact h.2 f b j p1.symm
end TM
set_option autoImplicit false
namespace MR
open PySem PySem.Spec PyProof.Rows L2 TM
theorem sIx_nat (n k d : Nat) : HT.sIx n d (some (k : Int)) = min k n := by
  show (if (k : Int) < 0 then ((k : Int) + (n : Int)).toNat else min (k : Int).toNat n) = _
  rw [if_neg (by omega), Int.toNat_natCast]
theorem cut_take {α : Type} (xs : List α) (k : Nat) : cutD xs none (some (k : Int)) = xs.take k := by
  unfold cutD
  rw [sIx_nat]
  show (xs.drop 0).take (min k xs.length - 0) = _
  rw [List.drop_zero, Nat.sub_zero, ← List.take_eq_take_min]
theorem cut_drop {α : Type} (xs : List α) (k : Nat) : cutD xs (some (k : Int)) none = xs.drop k := by
  unfold cutD
  rw [sIx_nat]
  show (xs.drop (min k xs.length)).take (xs.length - min k xs.length) = _
  by_cases h : k ≤ xs.length
  · rw [Nat.min_eq_left h, List.take_of_length_le (by rw [List.length_drop]; omega)]
  · rw [Nat.min_eq_right (by omega), List.drop_length, List.drop_of_length_le (by omega), List.take_nil]
theorem cut_mid {α : Type} (xs : List α) (p l : Nat) (h : p ≤ l) (hl : l ≤ xs.length) : cutD xs (some (p : Int)) (some (l : Int)) = (xs.drop p).take (l - p) := by
  unfold cutD
  rw [sIx_nat, sIx_nat, Nat.min_eq_left (show p ≤ xs.length by omega), Nat.min_eq_left hl]
theorem nl {k : Str} {last i : Int} (h : ¬ (0 ≤ i ∧ i ≤ last)) : isLine last (.tup [.str k, .int i]) = false := by
  show (isKind (.str k) && decide (0 ≤ i ∧ i ≤ last)) = false
  rw [decide_eq_false h, Bool.and_false]
theorem nb {last : Int} {a b : MR.D} (h : isNum 0 last b = false) : isLine last (.tup [a, b]) = false := by
  show (_ && isNum 0 last b) = false
  rw [h, Bool.and_false]
end MR
set_option autoImplicit false
namespace MR
open PySem PySem.Spec PyProof.Rows L2 TM
section
variable {Q : Val → En → Prop} {X : Xn → En → Prop}
theorem wp_isE {i : Nat} (n : Str) (b : Bool) {x : Xn} {t : Tab} {e : En} (h : e[i]? = some .ex) (h1 : x.n = n) (h2 : tabGet t n = some b) (q : Q (.fz (.bl b)) e) : (mIsE i x t e).wp Q X := by
  unfold mIsE
  rw [h, h1, h2]
  exact q
theorem wp_xf {i : Nat} {n f : Str} {x : Xn} {e : En} {d : MR.D} (h : e[i]? = some .ex) (h1 : x.n = n) (h2 : x.fs.lookup f = some d) (q : Q (.fz d) e) : (mXf i n x f e).wp Q X := by
  unfold mXf
  rw [h]
  show (if x.n = n then R.of ((x.fs.lookup f).map .fz) e else .st).wp Q X
  rw [if_pos h1, h2]
  exact q
theorem callK_at {io : Option Nat} {len nr : Bool} {k nn : Nat} {g : En → O} {as : List Val} {e : En} (e2 : En) (h : e = e2) (q : (callK io len nr k nn g as e2).wp Q X) : (callK io len nr k nn g as e).wp Q X := h ▸ q
theorem ifFe {b : Bool} {A B : Prop} (h : b = false) (q : B) : if b = true then A else B := by
  rw [h]
  exact q
theorem ifTe {b : Bool} {A B : Prop} (h : b = true) (q : A) : if b = true then A else B := by
  rw [h]
  exact q
theorem cutS_txt (l : List Nat) (lo hi : Option Int) : cutS (txtS l) lo hi = txtS (MR.cutD l lo hi) := by
  show (⟨((txtS l).cps.toList.drop (HT.sIx (txtS l).length 0 lo) |>.take (HT.sIx (txtS l).length (txtS l).length hi - HT.sIx (txtS l).length 0 lo)).toArray⟩ : Str) = _
  rw [txtS_list, txtS_len]
  rfl
theorem g_slS {l : List Nat} {lo hi : Option Int} {P : Val → Prop} (h : l.length ≤ 1000) (q : P (.fz (.str (txtS (MR.cutD l lo hi))))) : ∃ r, fSl (.str (txtS l)) lo hi = some r ∧ P r := by
  refine ⟨_, ?_, q⟩
  rw [← cutS_txt]
  exact gdO_pos (by rw [txtS_len]; exact len_ok2 h)
end
end MR
set_option autoImplicit false
namespace TM
/-- where, line by line, the way to the victim leaves the path -/
noncomputable def depB (t : T) : Pat → List Nat → List Bool
  | _, [] => []
  | F, s :: ss => (depP t F s).isSome :: depB t (turnP t F s) ss
noncomputable def mendF (lns : List Ln) (ds : List Bool) : List Ln := List.zipWith (fun ln d => (ln.1 && !d, ln.2)) lns ds
theorem lawW_acc (t : T) : ∀ (post : List Ln) (F : Pat) (bef : List Int) (i : Nat) (acc : List Wr), lawW t F bef i post acc = acc ++ lawW t F bef i post []
  | [], _, _, _, acc => (List.append_nil acc).symm
  | ln :: post, F, bef, i, acc => by
    have e : ∀ a, lawW t F bef i (ln :: post) a = lawW t (turnP t F ln.2) (seenB t i ln.2 bef) (i + 1) post (if ln.1 then (match depP t F ln.2 with
      | some f => a ++ [(i, f, (bef[f]?).getD 0)]
      | none => a) else a) := fun _ => rfl
    rw [e acc, e [], lawW_acc t post _ _ _ (if ln.1 then (match depP t F ln.2 with
      | some f => acc ++ [(i, f, (bef[f]?).getD 0)]
      | none => acc) else acc), lawW_acc t post _ _ _ (if ln.1 then (match depP t F ln.2 with
      | some f => [] ++ [(i, f, (bef[f]?).getD 0)]
      | none => []) else [])]
    cases ln.1 with
    | false => simp
    | true => cases depP t F ln.2 <;> simp
theorem lawW_nil (t : T) : ∀ (post : List Ln) (F : Pat) (bef : List Int) (i : Nat), lawW t F bef i post [] = [] ↔ mendF post (depB t F (post.map (·.2))) = post
  | [], _, _, _ => ⟨fun _ => rfl, fun _ => rfl⟩
  | ln :: post, F, bef, i => by
    have ih := lawW_nil t post (turnP t F ln.2) (seenB t i ln.2 bef) (i + 1)
    have e : lawW t F bef i (ln :: post) [] = lawW t (turnP t F ln.2) (seenB t i ln.2 bef) (i + 1) post (if ln.1 then (match depP t F ln.2 with
      | some f => [] ++ [(i, f, (bef[f]?).getD 0)]
      | none => []) else []) := rfl
    have e2 : mendF (ln :: post) (depB t F ((ln :: post).map (·.2))) = (ln.1 && !(depP t F ln.2).isSome, ln.2) :: mendF post (depB t (turnP t F ln.2) (post.map (·.2))) := rfl
    rw [e, lawW_acc, e2, List.append_eq_nil_iff, ih, List.cons.injEq]
    refine and_congr ?_ Iff.rfl
    obtain ⟨x, s⟩ := ln
    cases x with
    | false => simp
    | true =>
      dsimp only
      rw [if_pos rfl]
      cases hd : depP t F s with
      | none => simp
      | some f => simp
noncomputable def mend (t : T) (p : Pat) (run : List Ln) : List Ln := mendF run (depB t (bestP t p run) (run.map (·.2)))
theorem wp_nil {t : T} {p : Pat} {run : List Ln} (hp : p.length + 1 = t.slots) (hr : ∀ ln ∈ run, ln.2 < t.slots) : wp t p run = [] ↔ mend t p run = run := by
  rw [← wrongs_wp hp hr]
  exact lawW_nil t run _ _ 0
end TM
set_option autoImplicit false
namespace TM
end TM
set_option autoImplicit false
namespace TM
end TM
set_option autoImplicit false
namespace TM
end TM
set_option autoImplicit false
namespace MR
open PySem PySem.Spec PyProof.Rows L2
end MR
namespace TM
open PySem PySem.Spec PyProof.Rows L2 MR
end TM
namespace TM
/-- what goes left, what goes right, of n loads at a fork (b: its flag shows left) -/
noncomputable def hL (b : Bool) (n : Nat) : Nat := if b then n / 2 else (n + 1) / 2
noncomputable abbrev Fl := Nat → Bool
noncomputable def T.go (fl : Fl) : T → Nat → Nat → Nat
  | .leaf, a, _ => a
  | .node l r, a, n => if (n % 2 = 0) = (fl (a + l.slots - 1) = true) then r.go fl (a + l.slots) (n / 2) else l.go fl a (n / 2)
/-- the slot that the flags leave free -/
noncomputable def T.free : T → Nat → List Bool → Nat
  | .leaf, a, _ => a
  | .node l r, a, fs => if (fs[l.slots - 1]?).getD true = true then r.free (a + l.slots) (fs.drop l.slots) else l.free a (fs.take (l.slots - 1))
end TM
namespace TM
end TM
namespace TM
open MR PySem
/-- u stands within t, its first slot is a -/
noncomputable def Sb (t u : T) (a : Nat) : Prop := (∃ b, ∀ x ∈ u.ents a b, x ∈ t.ents 0 0) ∧ a + u.slots ≤ t.slots
theorem Sb.refl (t : T) : Sb t t 0 := ⟨⟨0, fun _ h => h⟩, by omega⟩
theorem Sb.left {t l r : T} {a : Nat} (h : Sb t (.node l r) a) : Sb t l a := by
  obtain ⟨⟨b, h1⟩, h2⟩ := h
  have h2 : a + (l.slots + r.slots) ≤ t.slots := h2
  exact ⟨⟨b + 1, fun x hx => h1 x (T.mem_left hx)⟩, by omega⟩
theorem Sb.right {t l r : T} {a : Nat} (h : Sb t (.node l r) a) : Sb t r (a + l.slots) := by
  obtain ⟨⟨b, h1⟩, h2⟩ := h
  have h2 : a + (l.slots + r.slots) ≤ t.slots := h2
  exact ⟨⟨b + 1 + l.text.length, fun x hx => h1 x (T.mem_right hx)⟩, by omega⟩
theorem Sb.fork {t l r : T} {a : Nat} (h : Sb t (.node l r) a) : a + l.slots - 1 + 1 < t.slots := by
  have h2 : a + (l.slots + r.slots) ≤ t.slots := h.2
  have := l.slots_pos
  have := r.slots_pos
  omega
end TM
set_option autoImplicit false
namespace TM
open PySem PySem.Spec PyProof.Rows L2 MR
/-- the node is none of those below the one with this range -/
noncomputable def Out (a k : Nat) : Nd → Prop
  | .fork f => f < a ∨ a + k ≤ f + 1
  | .slot s => s < a ∨ a + k ≤ s
end TM
set_option autoImplicit false
namespace MR
open PySem PySem.Spec PyProof.Rows L2 TM
end MR
namespace MR
open PySem PySem.Spec PyProof.Rows L2 TM
end MR
set_option autoImplicit false
namespace MR
open PySem PySem.Spec PyProof.Rows L2
section
variable {X : Xn → En → Prop} {e : En} {m : En → R Val} {ms : En → R (List Val)} {g : Nat}
theorem wp_unG {r : R Val} {Q : Val → En → Prop} (h : r.wp (fun a e2 => notG g a = true ∧ canSet e2[g]? = true ∧ Q a (e2.set g .un)) (fun x e2 => canSet e2[g]? = true ∧ X x (e2.set g .un))) : (unG g r).wp Q X := by
  cases r with
  | st => exact h
  | ok a e2 =>
    obtain ⟨h1, h2, h3⟩ := h
    show (if notG g a = true ∧ canSet e2[g]? = true then (.ok a (e2.set g .un) : R Val) else .st).wp Q X
    rw [if_pos ⟨h1, h2⟩]
    exact h3
  | er x e2 =>
    obtain ⟨h1, h2⟩ := h
    show (if canSet e2[g]? = true then (.er x (e2.set g .un) : R Val) else .st).wp Q X
    rw [if_pos h1]
    exact h2
theorem wp_callG {io : Option Nat} {len nr : Bool} {k n : Nat} {b : En → O} {Q : Val → En → Prop} (h : (ms e).wp (fun as e1 => (callK io len nr k n b as e1).wp (fun a e2 => notG g a = true ∧ canSet e2[g]? = true ∧ Q a (e2.set g .un)) (fun x e2 => canSet e2[g]? = true ∧ X x (e2.set g .un))) X) : (mCallG g io len nr k n b ms e).wp Q X :=
  R.wp_bind (R.wp_mono h fun _ _ h => wp_unG h)
end
end MR
set_option autoImplicit false
namespace TM
open PySem
/-- Pascal's numbers -/
noncomputable def chN : Nat → Nat → Nat
  | _, 0 => 1
  | 0, _ + 1 => 0
  | n + 1, k + 1 => chN n k + chN n (k + 1)
theorem chN_zero (n : Nat) : chN n 0 = 1 := by cases n <;> rfl
theorem chN_succ (n k : Nat) : chN (n + 1) (k + 1) = chN n k + chN n (k + 1) := rfl
theorem chN_above : ∀ (n k : Nat), n < k → chN n k = 0
  | 0, k + 1, _ => rfl
  | n + 1, k + 1, h => by rw [chN_succ, chN_above n k (by omega), chN_above n (k + 1) (by omega)]
theorem chN_self : ∀ n : Nat, chN n n = 1
  | 0 => rfl
  | n + 1 => by rw [chN_succ, chN_self n, chN_above n (n + 1) (by omega)]
theorem chN_sym : ∀ (n k : Nat), k ≤ n → chN n k = chN n (n - k)
  | 0, 0, _ => rfl
  | n + 1, 0, _ => by rw [chN_zero]; exact (chN_self (n + 1)).symm
  | n + 1, k + 1, h => by
    by_cases e : k = n
    · subst e
      rw [Nat.sub_self, chN_self, chN_zero]
    · have e1 : n + 1 - (k + 1) = (n - (k + 1)) + 1 := by omega
      rw [e1, chN_succ, chN_succ, chN_sym n k (by omega), chN_sym n (k + 1) (by omega), show n - k = n - (k + 1) + 1 from by omega, Nat.add_comm]
noncomputable def fpN : Nat → Nat → Nat
  | _, 0 => 1
  | n, k + 1 => fpN n k * (n - k)
theorem fpN_eq (n : Nat) : ∀ k : Nat, k ≤ n → Builtin.Math.fallingProduct (n : Int) k = (fpN n k : Int)
  | 0, _ => rfl
  | k + 1, h => by
    have e : Builtin.Math.fallingProduct (n : Int) (k + 1) = Builtin.Math.fallingProduct (n : Int) k * ((n : Int) - (k : Int)) := by
      unfold Builtin.Math.fallingProduct
      rw [List.range_succ, List.foldl_append]
      rfl
    rw [e, fpN_eq n k (by omega)]
    show _ = ((fpN n k * (n - k) : Nat) : Int)
    rw [Int.natCast_mul, Int.ofNat_sub (by omega)]
theorem fpN_pos {n : Nat} : ∀ k : Nat, k ≤ n → 1 ≤ fpN n k
  | 0, _ => Nat.le_refl 1
  | k + 1, h => Nat.mul_le_mul (fpN_pos (n := n) k (by omega)) (show 1 ≤ n - k by omega)
/-- (n + 1) falling by k + 1 begins with n + 1 -/
theorem fpN_head (n : Nat) : ∀ k : Nat, fpN (n + 1) (k + 1) = (n + 1) * fpN n k
  | 0 => by show 1 * (n + 1 - 0) = (n + 1) * 1; omega
  | k + 1 => by
    show fpN (n + 1) (k + 1) * (n + 1 - (k + 1)) = (n + 1) * (fpN n k * (n - k))
    rw [fpN_head n k, Nat.mul_assoc, show n + 1 - (k + 1) = n - k from by omega]
theorem fp_ch : ∀ (n k : Nat), k ≤ n → fpN n k = chN n k * fpN k k
  | n, 0, _ => by rw [chN_zero]; rfl
  | n + 1, k + 1, h => by
    by_cases e : k = n
    · subst e
      rw [chN_self, Nat.one_mul]
    · have h1 := fp_ch n k (by omega)
      have h2 := fp_ch n (k + 1) (by omega)
      have h3 : fpN n (k + 1) = fpN n k * (n - k) := rfl
      rw [fpN_head n k, chN_succ, Nat.add_mul (chN n k), ← h2, h3, fpN_head k k]
      have h4 : chN n k * ((k + 1) * fpN k k) = (k + 1) * fpN n k := by
        rw [h1, Nat.mul_left_comm]
      rw [h4, Nat.mul_comm (fpN n k) (n - k), ← Nat.add_mul]
      congr 1
      omega
theorem comb_ch {n k : Nat} : PySem.W.mcComb (n : Int) (k : Int) = (chN n k : Int) := by
  by_cases h : n < k
  · rw [chN_above n k h]
    exact PySem.W.mcComb_above (by omega)
  · have hm : ∃ m : Nat, min (k : Int) ((n : Int) - (k : Int)) = (m : Int) ∧ m ≤ n ∧ chN n m = chN n k := by
      by_cases q : k ≤ n - k
      · exact ⟨k, by omega, by omega, rfl⟩
      · exact ⟨n - k, by omega, by omega, (chN_sym n k (by omega)).symm⟩
    obtain ⟨m, e, hmn, ec⟩ := hm
    rw [PySem.W.mcComb_at (m := (m : Int)) (by omega) (by omega) e, ← ec]
    show Builtin.Math.fallingProduct (n : Int) m / Builtin.Math.fallingProduct (m : Int) m = _
    rw [fpN_eq n m hmn, fpN_eq m m (Nat.le_refl m), fp_ch n m hmn, Int.natCast_mul]
    have := fpN_pos (n := m) m (Nat.le_refl m)
    exact Int.mul_ediv_cancel _ (by omega)
noncomputable def combs (n : Nat) : Nat → Nat → Nat → List (List Nat)
  | _, _, 0 => [[]]
  | 0, _, _ + 1 => []
  | w + 1, lo, k + 1 => (combs n w (lo + 1) k).map (lo :: ·) ++ combs n w (lo + 1) (k + 1)
/-- k places from lo on -/
noncomputable def upF (lo : Nat) : Nat → List Nat
  | 0 => []
  | k + 1 => lo :: upF (lo + 1) k
theorem combs_count (n : Nat) : ∀ (w lo k : Nat), (combs n w lo k).length = chN w k
  | w, lo, 0 => by rw [chN_zero]; cases w <;> rfl
  | 0, _, _ + 1 => rfl
  | w + 1, lo, k + 1 => by
    show ((combs n w (lo + 1) k).map (lo :: ·) ++ combs n w (lo + 1) (k + 1)).length = _
    rw [List.length_append, List.length_map, combs_count n w (lo + 1) k, combs_count n w (lo + 1) (k + 1), chN_succ]
/-- the next choice: the last place that can go up does, those behind it follow close -/
noncomputable def nxtC (n : Nat) : List Nat → Option (List Nat)
  | [] => none
  | a :: r => match nxtC n r with
    | some r2 => some (a :: r2)
    | none => if a + r.length + 1 < n then some (upF (a + 1) (r.length + 1)) else none
/-- L is what comes from x on -/
inductive Chn (n : Nat) : List (List Nat) → Prop
  | one {x : List Nat} (h : nxtC n x = none) : Chn n [x]
  | cons {x y : List Nat} {L : List (List Nat)} (h : nxtC n x = some y) (t : Chn n (y :: L)) : Chn n (x :: y :: L)
theorem combs_head (n : Nat) : ∀ (w lo k : Nat), k ≤ w → ∃ L, combs n w lo k = upF lo k :: L
  | w, lo, 0, _ => ⟨[], by cases w <;> rfl⟩
  | w + 1, lo, k + 1, h => by
    obtain ⟨L, e⟩ := combs_head n w (lo + 1) k (by omega)
    refine ⟨L.map (lo :: ·) ++ combs n w (lo + 1) (k + 1), ?_⟩
    show (combs n w (lo + 1) k).map (lo :: ·) ++ _ = _
    rw [e]
    rfl
theorem combs_none (n : Nat) : ∀ (w lo k : Nat), w < k → combs n w lo k = []
  | 0, lo, k + 1, _ => rfl
  | w + 1, lo, k + 1, h => by
    show (combs n w (lo + 1) k).map (lo :: ·) ++ combs n w (lo + 1) (k + 1) = []
    rw [combs_none n w (lo + 1) k (by omega), combs_none n w (lo + 1) (k + 1) (by omega)]
    rfl
theorem combs_len (n : Nat) : ∀ (w lo k : Nat) (c : List Nat), c ∈ combs n w lo k → c.length = k
  | w, lo, 0, c, h => by
    have : c = [] := by cases w <;> exact List.mem_singleton.mp h
    rw [this]; rfl
  | 0, _, _ + 1, c, h => by cases h
  | w + 1, lo, k + 1, c, h => by
    rcases List.mem_append.mp h with h | h
    · obtain ⟨d, hd, rfl⟩ := List.mem_map.mp h
      show d.length + 1 = _
      rw [combs_len n w (lo + 1) k d hd]
    · exact combs_len n w (lo + 1) (k + 1) c h
/-- a chain under a first place, another behind it -/
theorem chn_app {n lo : Nat} {B : List (List Nat)} {m : Nat} (hB : B = [] ∨ ∃ L, B = upF (lo + 1) (m + 1) :: L) (cB : B ≠ [] → Chn n B) (hn : B = [] ↔ ¬ lo + m + 1 < n) :
    ∀ {A : List (List Nat)}, Chn n A → (∀ c ∈ A, c.length = m) → Chn n (A.map (lo :: ·) ++ B) := by
  intro A h
  induction h with
  | one h =>
    rename_i x
    intro hl
    have hx : x.length = m := hl x List.mem_cons_self
    show Chn n ((lo :: x) :: B)
    rcases hB with e | ⟨L, e⟩
    · rw [e]
      refine .one ?_
      have : ¬ lo + m + 1 < n := hn.mp e
      show (match nxtC n x with | some r2 => some (lo :: r2) | none => if lo + x.length + 1 < n then some (upF (lo + 1) (x.length + 1)) else none) = none
      rw [h, hx]
      exact if_neg this
    · have ne : B ≠ [] := by rw [e]; simp
      have c := cB ne
      rw [e] at c ⊢
      refine .cons ?_ c
      have : lo + m + 1 < n := by
        by_cases q : lo + m + 1 < n
        · exact q
        · exact absurd (hn.mpr q) ne
      show (match nxtC n x with | some r2 => some (lo :: r2) | none => if lo + x.length + 1 < n then some (upF (lo + 1) (x.length + 1)) else none) = _
      rw [h, hx]
      exact if_pos this
  | cons h t ih =>
    rename_i x y L
    intro hl
    have i2 := ih fun c hc => hl c (List.mem_cons_of_mem _ hc)
    show Chn n ((lo :: x) :: (lo :: y) :: (L.map (lo :: ·) ++ B))
    refine .cons ?_ i2
    show (match nxtC n x with | some r2 => some (lo :: r2) | none => _) = _
    rw [h]
theorem combs_chn (n : Nat) : ∀ (w lo k : Nat), lo + w = n → k ≤ w → Chn n (combs n w lo k)
  | w, lo, 0, _, _ => by
    have e : combs n w lo 0 = [[]] := by cases w <;> rfl
    rw [e]
    exact .one rfl
  | w + 1, lo, k + 1, h, hk => by
    show Chn n ((combs n w (lo + 1) k).map (lo :: ·) ++ combs n w (lo + 1) (k + 1))
    refine chn_app (m := k) ?_ ?_ ?_ (combs_chn n w (lo + 1) k (by omega) (by omega)) fun c hc => combs_len n w (lo + 1) k c hc
    · by_cases q : k + 1 ≤ w
      · exact .inr (combs_head n w (lo + 1) (k + 1) q)
      · exact .inl (combs_none n w (lo + 1) (k + 1) (by omega))
    · intro ne
      by_cases q : k + 1 ≤ w
      · exact combs_chn n w (lo + 1) (k + 1) (by omega) q
      · exact absurd (combs_none n w (lo + 1) (k + 1) (by omega)) ne
    · constructor
      · intro e q
        obtain ⟨L, e2⟩ := combs_head n w (lo + 1) (k + 1) (by omega)
        rw [e] at e2
        cases e2
      · intro q
        exact combs_none n w (lo + 1) (k + 1) (by omega)
/-- c is a choice of places below n, ascending, from lo on -/
noncomputable def Asc (n : Nat) : Nat → List Nat → Prop
  | _, [] => True
  | lo, a :: r => lo ≤ a ∧ a + r.length < n ∧ Asc n (a + 1) r
theorem combs_asc (n : Nat) : ∀ (w lo k : Nat), lo + w = n → ∀ c ∈ combs n w lo k, Asc n lo c
  | w, lo, 0, _, c, h => by
    have : c = [] := by cases w <;> exact List.mem_singleton.mp h
    rw [this]; trivial
  | 0, _, _ + 1, _, c, h => by cases h
  | w + 1, lo, k + 1, e, c, h => by
    rcases List.mem_append.mp h with h | h
    · obtain ⟨d, hd, rfl⟩ := List.mem_map.mp h
      have hl := combs_len n w (lo + 1) k d hd
      refine ⟨Nat.le_refl _, ?_, combs_asc n w (lo + 1) k (by omega) d hd⟩
      rw [hl]
      by_cases q : k ≤ w
      · omega
      · rw [combs_none n w (lo + 1) k (by omega)] at hd; cases hd
    · have := combs_asc n w (lo + 1) (k + 1) (by omega) c h
      cases c with
      | nil => trivial
      | cons a r => exact ⟨by have := this.1; omega, this.2⟩
/-- all places are at their ends -/
theorem nxt_none (n : Nat) : ∀ c : List Nat, c.length ≤ n → (∀ i, i < c.length → c[i]? = some (n - c.length + i)) → nxtC n c = none
  | [], _, _ => rfl
  | a :: r, hn, h => by
    have hl : (a :: r).length = r.length + 1 := rfl
    rw [hl] at hn h
    have hr : nxtC n r = none := nxt_none n r (by omega) fun i hi => by
      have := h (i + 1) (by omega)
      rw [List.getElem?_cons_succ] at this
      rw [this]
      congr 1
      omega
    have h0 : a = n - (r.length + 1) := by
      have := h 0 (by omega)
      simpa using this
    show (match nxtC n r with | some r2 => some (a :: r2) | none => if a + r.length + 1 < n then some (upF (a + 1) (r.length + 1)) else none) = _
    rw [hr]
    exact if_neg (by omega)
/-- all places behind j are at their ends, that at j is not -/
theorem nxt_at (n : Nat) : ∀ (c : List Nat) (lo j : Nat), Asc n lo c → c.length ≤ n → j < c.length → (∀ i, j < i → i < c.length → c[i]? = some (n - c.length + i)) → c[j]? ≠ some (n - c.length + j) →
    ∃ a, c[j]? = some a ∧ nxtC n c = some (c.take j ++ upF (a + 1) (c.length - j))
  | [], _, _, _, _, h, _, _ => absurd h (Nat.not_lt_zero _)
  | a :: r, lo, j, hA, hn, hj, he, ha => by
    have hl : (a :: r).length = r.length + 1 := rfl
    rw [hl] at hn hj he ha
    obtain ⟨_, hlt, hA2⟩ := hA
    have tail : ∀ i, j < i + 1 → i < r.length → r[i]? = some (n - r.length + i) := fun i h1 h2 => by
      have := he (i + 1) h1 (by omega)
      rw [List.getElem?_cons_succ] at this
      rw [this]
      congr 1
      omega
    cases j with
    | zero =>
      refine ⟨a, rfl, ?_⟩
      have hr : nxtC n r = none := nxt_none n r (by omega) fun i hi => tail i (by omega) hi
      have ne : a ≠ n - (r.length + 1) := fun q => ha (by rw [List.getElem?_cons_zero, q]; rfl)
      show (match nxtC n r with | some r2 => some (a :: r2) | none => if a + r.length + 1 < n then some (upF (a + 1) (r.length + 1)) else none) = _
      rw [hr]
      exact if_pos (by omega)
    | succ j =>
      obtain ⟨b, hb, hx⟩ := nxt_at n r (a + 1) j hA2 (by omega) (by omega) (fun i h1 h2 => tail i (by omega) h2) fun q => ha (by
        rw [List.getElem?_cons_succ, q]
        congr 1
        omega)
      refine ⟨b, by rw [List.getElem?_cons_succ]; exact hb, ?_⟩
      show (match nxtC n r with | some r2 => some (a :: r2) | none => if a + r.length + 1 < n then some (upF (a + 1) (r.length + 1)) else none) = _
      rw [hx, hl, show r.length + 1 - (j + 1) = r.length - j from by omega]
      rfl
theorem asc_lt {n : Nat} : ∀ (c : List Nat) (lo : Nat), Asc n lo c → ∀ x ∈ c, lo ≤ x ∧ x < n
  | [], _, _, x, hx => by cases hx
  | a :: r, lo, h, x, hx => by
    obtain ⟨h1, h2, h3⟩ := h
    rcases List.mem_cons.mp hx with e | e
    · subst e; omega
    · have := asc_lt r (a + 1) h3 x e
      omega
/-- a stands before b: at the first place where they part, or a ends first -/
noncomputable def LxN : List Nat → List Nat → Prop
  | [], [] => False
  | [], _ :: _ => True
  | _ :: _, [] => False
  | a :: r, b :: t => a < b ∨ (a = b ∧ LxN r t)
theorem LxN.under {a : Nat} {r t : List Nat} (h : LxN r t) : LxN (a :: r) (a :: t) := .inr ⟨rfl, h⟩
theorem nxt_up (n : Nat) : ∀ (c d : List Nat), nxtC n c = some d → LxN c d
  | [], d, h => by cases h
  | a :: r, d, h => by
    have h : (match nxtC n r with | some r2 => some (a :: r2) | none => if a + r.length + 1 < n then some (upF (a + 1) (r.length + 1)) else none) = some d := h
    cases q : nxtC n r with
    | some r2 =>
      rw [q] at h
      cases h
      exact (nxt_up n r r2 q).under
    | none =>
      rw [q] at h
      by_cases z : a + r.length + 1 < n
      · have h : (if a + r.length + 1 < n then some (upF (a + 1) (r.length + 1)) else none) = some d := h
        rw [if_pos z] at h
        cases h
        exact .inl (Nat.lt_succ_self a)
      · have h : (if a + r.length + 1 < n then some (upF (a + 1) (r.length + 1)) else none) = some d := h
        rw [if_neg z] at h
        cases h
noncomputable def szN : Nat → List Nat → List Nat
  | _, [] => []
  | c, e :: r => (e - c) :: szN e r
/-- ends ascend from c on -/
noncomputable def Up : Nat → List Nat → Prop
  | _, [] => True
  | c, e :: r => c < e ∧ Up e r
theorem sz_lex : ∀ (E F : List Nat) (c : Nat), Up c E → Up c F → LxN E F → LxN (szN c E) (szN c F)
  | [], [], _, _, _, h => h
  | [], _ :: _, _, _, _, _ => trivial
  | _ :: _, [], _, _, _, h => h
  | e :: E, f :: F, c, hE, hF, h => by
    obtain ⟨h1, h2⟩ := hE
    obtain ⟨h3, h4⟩ := hF
    rcases h with h | ⟨h, h5⟩
    · left; show e - c < f - c; omega
    · subst h
      exact .inr ⟨rfl, sz_lex E F e h2 h4 h5⟩
noncomputable def plN : Nat → List Bool → Nat → List Nat → List Nat
  | _, [], _, _ => []
  | p, true :: w, lo, c => p :: plN (p + 1) w lo c
  | p, false :: w, lo, [] => plN (p + 1) w (lo + 1) []
  | p, false :: w, lo, a :: c => if a = lo then p :: plN (p + 1) w (lo + 1) c else plN (p + 1) w (lo + 1) (a :: c)
theorem pl_up : ∀ (w : List Bool) (p lo : Nat) (c : List Nat) (b : Nat), b < p → Up b (plN p w lo c ++ [p + w.length])
  | [], p, lo, c, b, h => ⟨h, trivial⟩
  | true :: w, p, lo, c, b, h => by
    have := pl_up w (p + 1) lo c p (by omega)
    refine ⟨h, ?_⟩
    show Up p (plN (p + 1) w lo c ++ [p + (w.length + 1)])
    rw [show p + (w.length + 1) = p + 1 + w.length from by omega]
    exact this
  | false :: w, p, lo, [], b, h => by
    have := pl_up w (p + 1) (lo + 1) [] b (by omega)
    show Up b (plN (p + 1) w (lo + 1) [] ++ [p + (w.length + 1)])
    rw [show p + (w.length + 1) = p + 1 + w.length from by omega]
    exact this
  | false :: w, p, lo, a :: c, b, h => by
    show Up b ((if a = lo then p :: plN (p + 1) w (lo + 1) c else plN (p + 1) w (lo + 1) (a :: c)) ++ [p + (w.length + 1)])
    rw [show p + (w.length + 1) = p + 1 + w.length from by omega]
    by_cases e : a = lo
    · rw [if_pos e]
      exact ⟨h, pl_up w (p + 1) (lo + 1) c p (by omega)⟩
    · rw [if_neg e]
      exact pl_up w (p + 1) (lo + 1) (a :: c) b (by omega)
theorem up_head {b : Nat} : ∀ {E : List Nat}, Up b E → E ≠ [] → ∃ e r, E = e :: r ∧ b < e
  | [], _, h => absurd rfl h
  | e :: r, h, _ => ⟨e, r, rfl, h.1⟩
theorem pl_lex {n : Nat} : ∀ (w : List Bool) (p lo : Nat) (c d : List Nat), Asc n lo c → Asc n lo d → n ≤ lo + w.count false → c.length = d.length → LxN c d →
    LxN (plN p w lo c ++ [p + w.length]) (plN p w lo d ++ [p + w.length])
  | [], p, lo, c, d, hc, hd, hn, hl, h => by
    have e1 : c = [] := by
      cases c with
      | nil => rfl
      | cons a r => have := hc.1; have := hc.2.1; have : n ≤ lo := hn; omega
    subst e1
    cases d with
    | nil => exact h.elim
    | cons a r => cases hl
  | true :: w, p, lo, c, d, hc, hd, hn, hl, h => by
    have := pl_lex w (p + 1) lo c d hc hd (by simpa using hn) hl h
    show LxN (p :: (plN (p + 1) w lo c ++ [p + (w.length + 1)])) (p :: (plN (p + 1) w lo d ++ [p + (w.length + 1)]))
    rw [show p + (w.length + 1) = p + 1 + w.length from by omega]
    exact this.under
  | false :: w, p, lo, [], d, hc, hd, hn, hl, h => by
    cases d with
    | nil => exact h.elim
    | cons a r => cases hl
  | false :: w, p, lo, a :: c, [], hc, hd, hn, hl, h => by cases hl
  | false :: w, p, lo, a :: c, b :: d, hc, hd, hn, hl, h => by
    have hn2 : n ≤ lo + 1 + w.count false := by
      have : (false :: w).count false = w.count false + 1 := by simp
      omega
    obtain ⟨c1, c2, c3⟩ := hc
    obtain ⟨d1, d2, d3⟩ := hd
    have hl2 : c.length = d.length := Nat.succ.inj hl
    have e0 : p + (false :: w).length = p + 1 + w.length := by
      show p + (w.length + 1) = _
      omega
    rw [e0]
    show LxN ((if a = lo then p :: plN (p + 1) w (lo + 1) c else plN (p + 1) w (lo + 1) (a :: c)) ++ _) ((if b = lo then p :: plN (p + 1) w (lo + 1) d else plN (p + 1) w (lo + 1) (b :: d)) ++ _)
    by_cases ea : a = lo
    · rw [if_pos ea]
      by_cases eb : b = lo
      · rw [if_pos eb]
        rcases h with h | ⟨_, h⟩
        · omega
        · subst ea
          subst eb
          exact (pl_lex w (p + 1) (_ + 1) c d c3 d3 hn2 hl2 h).under
      · rw [if_neg eb]
        obtain ⟨e, r, q, hlt⟩ := up_head (pl_up w (p + 1) (lo + 1) (b :: d) p (by omega)) (by simp)
        rw [q]
        exact .inl hlt
    · rw [if_neg ea]
      have hab : a ≤ b := by rcases h with h | ⟨h, _⟩ <;> omega
      rw [if_neg (by omega)]
      exact pl_lex w (p + 1) (lo + 1) (a :: c) (b :: d) ⟨by omega, c2, c3⟩ ⟨by omega, d2, d3⟩ hn2 hl h
end TM
set_option autoImplicit false
namespace TM
open PySem
/-- how many cuts into b blocks: w the letters (true: a load) -/
noncomputable def cutsN : List Bool → Nat → Nat
  | [], b => if b = 0 then 1 else 0
  | _ :: w, b => if b < 1 + w.count true then 0 else chN (w.count false) (b - (1 + w.count true))
theorem cuts_zero (x : Bool) (w : List Bool) : cutsN (x :: w) 0 = 0 := if_pos (by omega)
theorem cuts_one (x : Bool) (b : Nat) : cutsN [x] (b + 1) = cutsN [] b := by
  show (if b + 1 < 1 + 0 then 0 else chN 0 (b + 1 - (1 + 0))) = if b = 0 then 1 else 0
  rw [if_neg (by omega)]
  by_cases h : b = 0
  · subst h; rfl
  · rw [if_neg h]
    exact chN_above 0 _ (by omega)
theorem cuts_step (x y : Bool) (w : List Bool) (b : Nat) : cutsN (x :: w ++ [y]) (b + 1) = cutsN (x :: w) b + if y = true then 0 else cutsN (x :: w) (b + 1) := by
  show (if b + 1 < 1 + (w ++ [y]).count true then 0 else chN ((w ++ [y]).count false) (b + 1 - (1 + (w ++ [y]).count true))) = (if b < 1 + w.count true then 0 else chN (w.count false) (b - (1 + w.count true))) + if y = true then 0 else (if b + 1 < 1 + w.count true then 0 else chN (w.count false) (b + 1 - (1 + w.count true)))
  cases y with
  | true =>
    rw [if_pos rfl, Nat.add_zero, show (w ++ [true]).count true = w.count true + 1 from by simp, show (w ++ [true]).count false = w.count false from by simp]
    by_cases h : b < 1 + w.count true
    · rw [if_pos h, if_pos (by omega)]
    · rw [if_neg h, if_neg (by omega)]
      congr 1
      omega
  | false =>
    rw [if_neg Bool.false_ne_true, show (w ++ [false]).count true = w.count true from by simp, show (w ++ [false]).count false = w.count false + 1 from by simp]
    by_cases h : b < 1 + w.count true
    · by_cases h2 : b + 1 < 1 + w.count true
      · rw [if_pos h, if_pos h2, if_pos h2]
      · rw [if_pos h, if_neg h2, if_neg h2, show b + 1 - (1 + w.count true) = 0 from by omega, chN_zero, chN_zero]
    · rw [if_neg h, if_neg (by omega), if_neg (by omega), show b + 1 - (1 + w.count true) = b - (1 + w.count true) + 1 from by omega]
      rfl
theorem cuts_above (w : List Bool) (b : Nat) (h : w.length < b) : cutsN w b = 0 := by
  cases w with
  | nil => exact if_neg (by have : 0 < b := h; omega)
  | cons x w =>
    have hw : w.length + 1 < b := h
    have e : w.count true + w.count false = w.length := by
      clear h hw
      induction w with
      | nil => rfl
      | cons y w ih => cases y <;> simp <;> omega
    show (if b < 1 + w.count true then 0 else chN (w.count false) (b - (1 + w.count true))) = 0
    rw [if_neg (by omega)]
    exact chN_above _ _ (by omega)
noncomputable def posN : Nat → List Bool → Bool → List Nat
  | _, [], _ => []
  | p, x :: w, b => if x = b then p :: posN (p + 1) w b else posN (p + 1) w b
theorem pos_len : ∀ (w : List Bool) (p : Nat) (b : Bool), (posN p w b).length = w.count b
  | [], _, _ => rfl
  | x :: w, p, b => by
    show (if x = b then p :: posN (p + 1) w b else posN (p + 1) w b).length = _
    rw [List.count_cons]
    by_cases h : x = b
    · rw [if_pos h, if_pos (by simpa using h)]
      show (posN (p + 1) w b).length + 1 = _
      rw [pos_len w (p + 1) b]
    · rw [if_neg h, if_neg (by simpa using h), pos_len w (p + 1) b]; rfl
theorem pl_len {n : Nat} : ∀ (w : List Bool) (p lo : Nat) (c : List Nat), Asc n lo c → n ≤ lo + w.count false → (plN p w lo c).length = w.count true + c.length
  | [], p, lo, c, hc, hn => by
    have e1 : c = [] := by
      cases c with
      | nil => rfl
      | cons a r => have := hc.1; have := hc.2.1; have : n ≤ lo := hn; omega
    subst e1; rfl
  | true :: w, p, lo, c, hc, hn => by
    show (plN (p + 1) w lo c).length + 1 = _
    rw [pl_len w (p + 1) lo c hc (by simpa using hn)]
    simp
    omega
  | false :: w, p, lo, [], hc, hn => by
    show (plN (p + 1) w (lo + 1) []).length = _
    rw [pl_len (n := 0) w (p + 1) (lo + 1) [] trivial (by omega)]
    simp
  | false :: w, p, lo, a :: c, hc, hn => by
    have hn2 : n ≤ lo + 1 + w.count false := by
      have : (false :: w).count false = w.count false + 1 := by simp
      omega
    have e : (false :: w).count true = w.count true := by simp
    obtain ⟨c1, c2, c3⟩ := hc
    show (if a = lo then p :: plN (p + 1) w (lo + 1) c else plN (p + 1) w (lo + 1) (a :: c)).length = _
    rw [e]
    by_cases ea : a = lo
    · subst ea
      rw [if_pos rfl]
      show (plN (p + 1) w (_ + 1) c).length + 1 = _ + (c.length + 1)
      rw [pl_len w (p + 1) _ c c3 hn2]
      omega
    · rw [if_neg ea, pl_len w (p + 1) (lo + 1) (a :: c) ⟨by omega, c2, c3⟩ hn2]
theorem asc_ge {n : Nat} : ∀ (c : List Nat) (lo : Nat), Asc n lo c → ∀ i ∈ c, lo ≤ i := fun c lo h i hi => (asc_lt c lo h i hi).1
theorem free_shift {p lo : Nat} {fr : List Nat} : ∀ (c : List Nat), (∀ i ∈ c, lo + 1 ≤ i) → c.map (fun i => (p :: fr).getD (i - lo) 0) = c.map fun i => fr.getD (i - (lo + 1)) 0 := fun c h => by
  refine List.map_congr_left fun i hi => ?_
  have := h i hi
  rw [show i - lo = i - (lo + 1) + 1 from by omega, List.getD_cons_succ]
theorem pl_perm {n : Nat} : ∀ (w : List Bool) (p lo : Nat) (c : List Nat), Asc n lo c → n ≤ lo + w.count false →
    (plN p w lo c).Perm (posN p w true ++ c.map fun i => (posN p w false).getD (i - lo) 0)
  | [], p, lo, c, hc, hn => by
    have e1 : c = [] := by
      cases c with
      | nil => rfl
      | cons a r => have := hc.1; have := hc.2.1; have : n ≤ lo := hn; omega
    subst e1; exact .refl _
  | true :: w, p, lo, c, hc, hn => (pl_perm w (p + 1) lo c hc (by simpa using hn)).cons p
  | false :: w, p, lo, [], hc, hn => pl_perm (n := 0) w (p + 1) (lo + 1) [] trivial (by omega)
  | false :: w, p, lo, a :: c, hc, hn => by
    have hn2 : n ≤ lo + 1 + w.count false := by
      have : (false :: w).count false = w.count false + 1 := by simp
      omega
    obtain ⟨c1, c2, c3⟩ := hc
    show (if a = lo then p :: plN (p + 1) w (lo + 1) c else plN (p + 1) w (lo + 1) (a :: c)).Perm (posN (p + 1) w true ++ (a :: c).map fun i => (p :: posN (p + 1) w false).getD (i - lo) 0)
    by_cases ea : a = lo
    · subst ea
      rw [if_pos rfl, List.map_cons, Nat.sub_self, List.getD_cons_zero, free_shift c (asc_ge c _ c3)]
      exact ((pl_perm w (p + 1) _ c c3 hn2).cons p).trans List.perm_middle.symm
    · rw [if_neg ea, free_shift (a :: c) fun i hi => ?_]
      · exact pl_perm w (p + 1) (lo + 1) (a :: c) ⟨by omega, c2, c3⟩ hn2
      · rcases List.mem_cons.mp hi with q | q
        · omega
        · have := asc_ge c _ c3 i q
          omega
theorem up_pair : ∀ (E : List Nat) (c : Nat), Up c E → (∀ e ∈ E, c < e) ∧ E.Pairwise (· < ·)
  | [], _, _ => ⟨fun e h => (by cases h), .nil⟩
  | e :: r, c, h => by
    obtain ⟨h1, h2⟩ := h
    obtain ⟨h3, h4⟩ := up_pair r e h2
    refine ⟨fun x hx => ?_, .cons h3 h4⟩
    rcases List.mem_cons.mp hx with q | q
    · subst q; exact h1
    · have := h3 x q; omega
section
variable {α : Type} {x : List α}
noncomputable def segL (x : List α) : Nat → List Nat → List (List α)
  | _, [] => []
  | c, e :: r => (x.drop c).take (e - c) :: segL x e r
theorem seg_len : ∀ (E : List Nat) (c : Nat), (segL x c E).length = E.length
  | [], _ => rfl
  | e :: r, c => by show (segL x e r).length + 1 = _; rw [seg_len r e]; rfl
theorem seg_sizes : ∀ (E : List Nat) (c : Nat), Up c E → (∀ e ∈ E, e ≤ x.length) → (segL x c E).map List.length = szN c E
  | [], _, _, _ => rfl
  | e :: r, c, h, hl => by
    show ((x.drop c).take (e - c)).length :: (segL x e r).map List.length = (e - c) :: szN e r
    have h1 := hl e List.mem_cons_self
    have h2 := h.1
    rw [seg_sizes r e h.2 fun y hy => hl y (List.mem_cons_of_mem _ hy), List.length_take, List.length_drop]
    congr 1
    omega
theorem seg_join : ∀ (P : List Nat) (c n : Nat), Up c (P ++ [n]) → n = x.length → (segL x c (P ++ [n])).flatten = x.drop c
  | [], c, n, h, hn => by
    show (x.drop c).take (n - c) ++ [] = _
    rw [List.append_nil]
    exact List.take_of_length_le (by rw [List.length_drop]; omega)
  | e :: P, c, n, h, hn => by
    show (x.drop c).take (e - c) ++ (segL x e (P ++ [n])).flatten = _
    have h1 : c < e := h.1
    rw [seg_join P e n h.2 hn]
    have e2 : x.drop e = (x.drop c).drop (e - c) := by
      rw [List.drop_drop]
      congr 1
      omega
    rw [e2]
    exact List.take_append_drop _ _
end
/-- between the ends no load -/
noncomputable def GapF (x : List Bool) : Nat → List Nat → Prop
  | _, [] => True
  | c, e :: r => (∀ i, c < i → i < e → x[i]? = some false) ∧ GapF x e r
theorem pl_gap (x : List Bool) : ∀ (w : List Bool) (p lo : Nat) (c : List Nat) (b : Nat), x.drop p = w → b < p → (∀ i, b < i → i < p → x[i]? = some false) → GapF x b (plN p w lo c ++ [p + w.length])
  | [], p, lo, c, b, hw, hb, hg => ⟨hg, trivial⟩
  | y :: w, p, lo, c, b, hw, hb, hg => by
    have hx : x[p]? = some y := by
      have := congrArg (fun l => l[0]?) hw
      simpa using this
    have hw2 : x.drop (p + 1) = w := by
      have := congrArg List.tail hw
      simpa using this
    have e0 : p + (y :: w).length = p + 1 + w.length := by
      show p + (w.length + 1) = _
      omega
    rw [e0]
    have here : ∀ (lo : Nat) (c : List Nat), GapF x b (p :: (plN (p + 1) w lo c ++ [p + 1 + w.length])) := fun lo c => ⟨hg, pl_gap x w (p + 1) lo c p hw2 (by omega) fun i h1 h2 => by omega⟩
    have skip : y = false → ∀ (lo : Nat) (c : List Nat), GapF x b (plN (p + 1) w lo c ++ [p + 1 + w.length]) := fun q lo c => pl_gap x w (p + 1) lo c b hw2 (by omega) fun i h1 h2 => by
      by_cases z : i = p
      · subst z; rw [hx, q]
      · exact hg i h1 (by omega)
    cases y with
    | true => exact here lo c
    | false =>
      cases c with
      | nil => exact skip rfl (lo + 1) []
      | cons a c =>
        show GapF x b ((if a = lo then p :: plN (p + 1) w (lo + 1) c else plN (p + 1) w (lo + 1) (a :: c)) ++ _)
        by_cases ea : a = lo
        · rw [if_pos ea]; exact here (lo + 1) c
        · rw [if_neg ea]; exact skip rfl (lo + 1) (a :: c)
theorem seg_noload {x : List Bool} : ∀ (E : List Nat) (c : Nat), GapF x c E → Up c E → (∀ e ∈ E, e ≤ x.length) → ∀ s ∈ segL x c E, s ≠ [] ∧ true ∉ s.tail
  | [], _, _, _, _, s, h => by cases h
  | e :: r, c, hg, hu, hl, s, h => by
    obtain ⟨g1, g2⟩ := hg
    obtain ⟨u1, u2⟩ := hu
    have hle := hl e List.mem_cons_self
    rcases List.mem_cons.mp h with q | q
    · subst q
      refine ⟨fun z => ?_, fun z => ?_⟩
      · have := congrArg List.length z
        rw [List.length_take, List.length_drop] at this
        have : min (e - c) (x.length - c) = 0 := this
        omega
      · obtain ⟨j, hj⟩ := List.getElem?_of_mem z
        rw [List.getElem?_tail] at hj
        have hj2 : j + 1 < e - c := by
          by_cases q : j + 1 < e - c
          · exact q
          · rw [List.getElem?_eq_none (by rw [List.length_take]; omega)] at hj
            cases hj
        rw [List.getElem?_take_of_lt hj2, List.getElem?_drop] at hj
        rw [g1 (c + (j + 1)) (by omega) (by omega)] at hj
        cases hj
    · exact seg_noload r e g2 u2 (fun y hy => hl y (List.mem_cons_of_mem _ hy)) s q
end TM
namespace MR
theorem lenE1 {α : Type} {us : List α} (h : us.length = 1) : ∃ a : α, us = [a] := by
  match us, h with
  | [a], _ => exact ⟨a, rfl⟩
theorem lenE2 {α : Type} {us : List α} (h : us.length = 2) : ∃ a b : α, us = [a, b] := by
  match us, h with
  | [a, b], _ => exact ⟨a, b, rfl⟩
theorem lenE3 {α : Type} {us : List α} (h : us.length = 3) : ∃ a b c : α, us = [a, b, c] := by
  match us, h with
  | [a, b, c], _ => exact ⟨a, b, c, rfl⟩
theorem lenE4 {α : Type} {us : List α} (h : us.length = 4) : ∃ a b c d : α, us = [a, b, c, d] := by
  match us, h with
  | [a, b, c, d], _ => exact ⟨a, b, c, d, rfl⟩
end MR
namespace M10
open PySem PySem.Spec PyProof.Rows L2 MR
noncomputable def topS (i : Nat) : Stmt := PySem.Challenge.pw_lastside_k10_cuts.main.body.getD i (.Pass ⟨0, 0, 0, 0⟩)
noncomputable abbrev s_InvalidRow_init : Stmt := inClass (topS 6) 0
noncomputable abbrev n_InvalidRow_init : List Str := ["self", "index"]
noncomputable abbrev p_InvalidRow_init : List Str := ["self", "index"]
theorem sc_InvalidRow_init : FnScope n_InvalidRow_init p_InvalidRow_init (defScope s_InvalidRow_init) := ⟨rfl, rfl, rfl, by decide +kernel, rfl, by decide +kernel, by decide +kernel⟩
noncomputable abbrev s_InvalidNumber_init : Stmt := inClass (topS 7) 0
noncomputable abbrev n_InvalidNumber_init : List Str := ["self", "number"]
noncomputable abbrev p_InvalidNumber_init : List Str := ["self", "number"]
theorem sc_InvalidNumber_init : FnScope n_InvalidNumber_init p_InvalidNumber_init (defScope s_InvalidNumber_init) := ⟨rfl, rfl, rfl, by decide +kernel, rfl, by decide +kernel, by decide +kernel⟩
noncomputable abbrev s_is_whole : Stmt := topS 12
noncomputable abbrev n_is_whole : List Str := ["value"]
noncomputable abbrev p_is_whole : List Str := ["value"]
theorem sc_is_whole : FnScope n_is_whole p_is_whole (defScope s_is_whole) := ⟨rfl, rfl, rfl, by decide +kernel, rfl, by decide +kernel, by decide +kernel⟩
noncomputable abbrev s_is_number : Stmt := topS 13
noncomputable abbrev n_is_number : List Str := ["value", "low", "high"]
noncomputable abbrev p_is_number : List Str := ["value", "low", "high"]
theorem sc_is_number : FnScope n_is_number p_is_number (defScope s_is_number) := ⟨rfl, rfl, rfl, by decide +kernel, rfl, by decide +kernel, by decide +kernel⟩
noncomputable abbrev s_check_number : Stmt := topS 14
noncomputable abbrev n_check_number : List Str := ["value", "low", "high"]
noncomputable abbrev p_check_number : List Str := ["value", "low", "high"]
theorem sc_check_number : FnScope n_check_number p_check_number (defScope s_check_number) := ⟨rfl, rfl, rfl, by decide +kernel, rfl, by decide +kernel, by decide +kernel⟩
noncomputable abbrev s_is_made_of : Stmt := topS 15
noncomputable abbrev n_is_made_of : List Str := ["value", "letters", "letter"]
noncomputable abbrev p_is_made_of : List Str := ["value", "letters"]
theorem sc_is_made_of : FnScope n_is_made_of p_is_made_of (defScope s_is_made_of) := ⟨rfl, rfl, rfl, by decide +kernel, rfl, by decide +kernel, by decide +kernel⟩
noncomputable abbrev s_is_row : Stmt := topS 16
noncomputable abbrev n_is_row : List Str := ["value"]
noncomputable abbrev p_is_row : List Str := ["value"]
theorem sc_is_row : FnScope n_is_row p_is_row (defScope s_is_row) := ⟨rfl, rfl, rfl, by decide +kernel, rfl, by decide +kernel, by decide +kernel⟩
noncomputable abbrev s_choose : Stmt := topS 18
noncomputable abbrev n_choose : List Str := ["total", "taken"]
noncomputable abbrev p_choose : List Str := ["total", "taken"]
theorem sc_choose : FnScope n_choose p_choose (defScope s_choose) := ⟨rfl, rfl, rfl, by decide +kernel, rfl, by decide +kernel, by decide +kernel⟩
noncomputable abbrev s_block_count : Stmt := topS 19
noncomputable abbrev n_block_count : List Str := ["row"]
noncomputable abbrev p_block_count : List Str := ["row"]
theorem sc_block_count : FnScope n_block_count p_block_count (defScope s_block_count) := ⟨rfl, rfl, rfl, by decide +kernel, rfl, by decide +kernel, by decide +kernel⟩
noncomputable abbrev s_check_row : Stmt := topS 21
noncomputable abbrev n_check_row : List Str := ["row"]
noncomputable abbrev p_check_row : List Str := ["row"]
theorem sc_check_row : FnScope n_check_row p_check_row (defScope s_check_row) := ⟨rfl, rfl, rfl, by decide +kernel, rfl, by decide +kernel, by decide +kernel⟩
noncomputable abbrev s_least_blocks : Stmt := topS 22
noncomputable abbrev n_least_blocks : List Str := ["row"]
noncomputable abbrev p_least_blocks : List Str := ["row"]
theorem sc_least_blocks : FnScope n_least_blocks p_least_blocks (defScope s_least_blocks) := ⟨rfl, rfl, rfl, by decide +kernel, rfl, by decide +kernel, by decide +kernel⟩
noncomputable abbrev s_cut_count : Stmt := topS 23
noncomputable abbrev n_cut_count : List Str := ["row", "blocks", "least"]
noncomputable abbrev p_cut_count : List Str := ["row", "blocks"]
theorem sc_cut_count : FnScope n_cut_count p_cut_count (defScope s_cut_count) := ⟨rfl, rfl, rfl, by decide +kernel, rfl, by decide +kernel, by decide +kernel⟩
noncomputable abbrev s_next_choice : Stmt := topS 24
noncomputable abbrev n_next_choice : List Str := ["chosen", "total", "many", "at", "step"]
noncomputable abbrev p_next_choice : List Str := ["chosen", "total"]
theorem sc_next_choice : FnScope n_next_choice p_next_choice (defScope s_next_choice) := ⟨rfl, rfl, rfl, by decide +kernel, rfl, by decide +kernel, by decide +kernel⟩
noncomputable abbrev s_cut_at : Stmt := topS 25
noncomputable abbrev n_cut_at : List Str := ["row", "places", "ends", "begin", "end"]
noncomputable abbrev p_cut_at : List Str := ["row", "places"]
theorem sc_cut_at : FnScope n_cut_at p_cut_at (defScope s_cut_at) := ⟨rfl, rfl, rfl, by decide +kernel, rfl, by decide +kernel, by decide +kernel⟩
noncomputable abbrev s_each_cut : Stmt := topS 26
noncomputable abbrev n_each_cut : List Str := ["row", "blocks", "forced", "free", "chosen", "place", "number"]
noncomputable abbrev p_each_cut : List Str := ["row", "blocks"]
theorem sc_each_cut : GScope n_each_cut p_each_cut (defScope s_each_cut) := ⟨rfl, rfl, rfl, by decide +kernel, rfl, by decide +kernel, by decide +kernel⟩
noncomputable abbrev s__law_cell : Stmt := topS 28
noncomputable abbrev n__law_cell : List Str := ["script", "k"]
noncomputable abbrev p__law_cell : List Str := ["script", "k"]
theorem sc__law_cell : FnScope n__law_cell p__law_cell (defScope s__law_cell) := ⟨rfl, rfl, rfl, by decide +kernel, rfl, by decide +kernel, by decide +kernel⟩
noncomputable abbrev s__law_box : Stmt := topS 29
noncomputable abbrev n__law_box : List Str := ["script", "k"]
noncomputable abbrev p__law_box : List Str := ["script", "k"]
theorem sc__law_box : FnScope n__law_box p__law_box (defScope s__law_box) := ⟨rfl, rfl, rfl, by decide +kernel, rfl, by decide +kernel, by decide +kernel⟩
noncomputable abbrev s__law_take : Stmt := topS 30
noncomputable abbrev n__law_take : List Str := ["box", "size", "digit", "mixed"]
noncomputable abbrev p__law_take : List Str := ["box", "size"]
theorem sc__law_take : FnScope n__law_take p__law_take (defScope s__law_take) := ⟨rfl, rfl, rfl, by decide +kernel, rfl, by decide +kernel, by decide +kernel⟩
noncomputable abbrev s__law_row : Stmt := topS 31
noncomputable abbrev n__law_row : List Str := ["box", "letters", "way", "row", "k", "load"]
noncomputable abbrev p__law_row : List Str := ["box", "letters", "way"]
theorem sc__law_row : FnScope n__law_row p__law_row (defScope s__law_row) := ⟨rfl, rfl, rfl, by decide +kernel, rfl, by decide +kernel, by decide +kernel⟩
noncomputable abbrev s__law_ways : Stmt := topS 32
noncomputable abbrev n__law_ways : List Str := ["row", "ways", "k", "more", "blocks"]
noncomputable abbrev p__law_ways : List Str := ["row"]
theorem sc__law_ways : FnScope n__law_ways p__law_ways (defScope s__law_ways) := ⟨rfl, rfl, rfl, by decide +kernel, rfl, by decide +kernel, by decide +kernel⟩
noncomputable abbrev s__law_is_number : Stmt := topS 33
noncomputable abbrev n__law_is_number : List Str := ["actual", "due"]
noncomputable abbrev p__law_is_number : List Str := ["actual", "due"]
theorem sc__law_is_number : FnScope n__law_is_number p__law_is_number (defScope s__law_is_number) := ⟨rfl, rfl, rfl, by decide +kernel, rfl, by decide +kernel, by decide +kernel⟩
noncomputable abbrev s__law_is_cut : Stmt := topS 34
noncomputable abbrev n__law_is_cut : List Str := ["cut", "row", "blocks", "block"]
noncomputable abbrev p__law_is_cut : List Str := ["cut", "row", "blocks"]
theorem sc__law_is_cut : FnScope n__law_is_cut p__law_is_cut (defScope s__law_is_cut) := ⟨rfl, rfl, rfl, by decide +kernel, rfl, by decide +kernel, by decide +kernel⟩
noncomputable abbrev s__law_is_listing : Stmt := topS 35
noncomputable abbrev n__law_is_listing : List Str := ["cuts", "row", "blocks", "many", "before", "cut", "sizes", "block"]
noncomputable abbrev p__law_is_listing : List Str := ["cuts", "row", "blocks", "many"]
theorem sc__law_is_listing : FnScope n__law_is_listing p__law_is_listing (defScope s__law_is_listing) := ⟨rfl, rfl, rfl, by decide +kernel, rfl, by decide +kernel, by decide +kernel⟩
noncomputable abbrev s__law_counted : Stmt := topS 36
noncomputable abbrev n__law_counted : List Str := ["row", "ways", "large", "blocks"]
noncomputable abbrev p__law_counted : List Str := ["row", "ways", "large"]
theorem sc__law_counted : FnScope n__law_counted p__law_counted (defScope s__law_counted) := ⟨rfl, rfl, rfl, by decide +kernel, rfl, by decide +kernel, by decide +kernel⟩
noncomputable abbrev s__law_listed : Stmt := topS 37
noncomputable abbrev n__law_listed : List Str := ["row", "ways", "least", "asked", "spare", "blocks", "cuts", "cut"]
noncomputable abbrev p__law_listed : List Str := ["row", "ways", "least"]
theorem sc__law_listed : FnScope n__law_listed p__law_listed (defScope s__law_listed) := ⟨rfl, rfl, rfl, by decide +kernel, rfl, by decide +kernel, by decide +kernel⟩
noncomputable abbrev s__law_wrong_row : Stmt := topS 38
noncomputable abbrev n__law_wrong_row : List Str := ["box", "row", "place", "letter", "pick", "values", "k"]
noncomputable abbrev p__law_wrong_row : List Str := ["box", "row"]
theorem sc__law_wrong_row : FnScope n__law_wrong_row p__law_wrong_row (defScope s__law_wrong_row) := ⟨rfl, rfl, rfl, by decide +kernel, rfl, by decide +kernel, by decide +kernel⟩
noncomputable abbrev s__law_wrong_number : Stmt := topS 39
noncomputable abbrev n__law_wrong_number : List Str := ["box", "pick", "values"]
noncomputable abbrev p__law_wrong_number : List Str := ["box"]
theorem sc__law_wrong_number : FnScope n__law_wrong_number p__law_wrong_number (defScope s__law_wrong_number) := ⟨rfl, rfl, rfl, by decide +kernel, rfl, by decide +kernel, by decide +kernel⟩
noncomputable abbrev s__law_ask : Stmt := topS 40
noncomputable abbrev n__law_ask : List Str := ["door", "row", "blocks", "cut"]
noncomputable abbrev p__law_ask : List Str := ["door", "row", "blocks"]
theorem sc__law_ask : FnScope n__law_ask p__law_ask (defScope s__law_ask) := ⟨rfl, rfl, rfl, by decide +kernel, rfl, by decide +kernel, by decide +kernel⟩
noncomputable abbrev s__law_refusal : Stmt := topS 41
noncomputable abbrev n__law_refusal : List Str := ["door", "row", "blocks", "e", "kinds"]
noncomputable abbrev p__law_refusal : List Str := ["door", "row", "blocks"]
theorem sc__law_refusal : FnScope n__law_refusal p__law_refusal (defScope s__law_refusal) := ⟨rfl, rfl, rfl, by decide +kernel, rfl, by decide +kernel, by decide +kernel⟩
noncomputable abbrev s__law_same : Stmt := topS 42
noncomputable abbrev n__law_same : List Str := ["actual", "due"]
noncomputable abbrev p__law_same : List Str := ["actual", "due"]
theorem sc__law_same : FnScope n__law_same p__law_same (defScope s__law_same) := ⟨rfl, rfl, rfl, by decide +kernel, rfl, by decide +kernel, by decide +kernel⟩
noncomputable abbrev s__law_refused : Stmt := topS 43
noncomputable abbrev n__law_refused : List Str := ["box", "row", "wrong", "number", "door", "both", "actual"]
noncomputable abbrev p__law_refused : List Str := ["box", "row"]
theorem sc__law_refused : FnScope n__law_refused p__law_refused (defScope s__law_refused) := ⟨rfl, rfl, rfl, by decide +kernel, rfl, by decide +kernel, by decide +kernel⟩
noncomputable abbrev s_law : Stmt := topS 44
noncomputable abbrev n_law : List Str := ["script", "box", "letters", "long", "way", "row", "ways", "least", "blocks", "$0"]
noncomputable abbrev p_law : List Str := ["script"]
theorem sc_law : FnScope n_law p_law (defScope s_law) := ⟨rfl, rfl, rfl, by decide +kernel, rfl, by decide +kernel, by decide +kernel⟩
set_option genInjectivity false
set_option genSizeOfSpec false
set_option genSizeOf false
structure TX (K : PySem.W.Frag) (mg : Str → Option Value) where
  cls : Str → Addr
  a_InvalidRow_init : Addr
  d_InvalidRow_init : FuncData
  F_InvalidRow_init : Fun K "__init__" "InvalidRow.__init__" s_InvalidRow_init a_InvalidRow_init d_InvalidRow_init
  b_InvalidRow_init : Binds K d_InvalidRow_init p_InvalidRow_init []
  a_InvalidNumber_init : Addr
  d_InvalidNumber_init : FuncData
  F_InvalidNumber_init : Fun K "__init__" "InvalidNumber.__init__" s_InvalidNumber_init a_InvalidNumber_init d_InvalidNumber_init
  b_InvalidNumber_init : Binds K d_InvalidNumber_init p_InvalidNumber_init []
  a_is_whole : Addr
  d_is_whole : FuncData
  F_is_whole : Fun K "is_whole" "is_whole" s_is_whole a_is_whole d_is_whole
  m_is_whole : mg "is_whole" = some (.ref a_is_whole)
  k_is_whole : PySem.W.keepIn K (.ref a_is_whole) = true
  b_is_whole : Binds K d_is_whole p_is_whole []
  a_is_number : Addr
  d_is_number : FuncData
  F_is_number : Fun K "is_number" "is_number" s_is_number a_is_number d_is_number
  m_is_number : mg "is_number" = some (.ref a_is_number)
  k_is_number : PySem.W.keepIn K (.ref a_is_number) = true
  b_is_number : Binds K d_is_number p_is_number []
  a_check_number : Addr
  d_check_number : FuncData
  F_check_number : Fun K "check_number" "check_number" s_check_number a_check_number d_check_number
  m_check_number : mg "check_number" = some (.ref a_check_number)
  k_check_number : PySem.W.keepIn K (.ref a_check_number) = true
  b_check_number : Binds K d_check_number p_check_number []
  a_is_made_of : Addr
  d_is_made_of : FuncData
  F_is_made_of : Fun K "is_made_of" "is_made_of" s_is_made_of a_is_made_of d_is_made_of
  m_is_made_of : mg "is_made_of" = some (.ref a_is_made_of)
  k_is_made_of : PySem.W.keepIn K (.ref a_is_made_of) = true
  b_is_made_of : Binds K d_is_made_of p_is_made_of []
  a_is_row : Addr
  d_is_row : FuncData
  F_is_row : Fun K "is_row" "is_row" s_is_row a_is_row d_is_row
  m_is_row : mg "is_row" = some (.ref a_is_row)
  k_is_row : PySem.W.keepIn K (.ref a_is_row) = true
  b_is_row : Binds K d_is_row p_is_row []
  a_choose : Addr
  d_choose : FuncData
  F_choose : Fun K "choose" "choose" s_choose a_choose d_choose
  m_choose : mg "choose" = some (.ref a_choose)
  k_choose : PySem.W.keepIn K (.ref a_choose) = true
  b_choose : Binds K d_choose p_choose []
  a_block_count : Addr
  d_block_count : FuncData
  F_block_count : Fun K "block_count" "block_count" s_block_count a_block_count d_block_count
  m_block_count : mg "block_count" = some (.ref a_block_count)
  k_block_count : PySem.W.keepIn K (.ref a_block_count) = true
  b_block_count : Binds K d_block_count p_block_count []
  a_check_row : Addr
  d_check_row : FuncData
  F_check_row : Fun K "check_row" "check_row" s_check_row a_check_row d_check_row
  m_check_row : mg "check_row" = some (.ref a_check_row)
  k_check_row : PySem.W.keepIn K (.ref a_check_row) = true
  b_check_row : Binds K d_check_row p_check_row []
  a_least_blocks : Addr
  d_least_blocks : FuncData
  F_least_blocks : Fun K "least_blocks" "least_blocks" s_least_blocks a_least_blocks d_least_blocks
  m_least_blocks : mg "least_blocks" = some (.ref a_least_blocks)
  k_least_blocks : PySem.W.keepIn K (.ref a_least_blocks) = true
  b_least_blocks : Binds K d_least_blocks p_least_blocks []
  a_cut_count : Addr
  d_cut_count : FuncData
  F_cut_count : Fun K "cut_count" "cut_count" s_cut_count a_cut_count d_cut_count
  m_cut_count : mg "cut_count" = some (.ref a_cut_count)
  k_cut_count : PySem.W.keepIn K (.ref a_cut_count) = true
  b_cut_count : Binds K d_cut_count p_cut_count []
  a_next_choice : Addr
  d_next_choice : FuncData
  F_next_choice : Fun K "next_choice" "next_choice" s_next_choice a_next_choice d_next_choice
  m_next_choice : mg "next_choice" = some (.ref a_next_choice)
  k_next_choice : PySem.W.keepIn K (.ref a_next_choice) = true
  b_next_choice : Binds K d_next_choice p_next_choice []
  a_cut_at : Addr
  d_cut_at : FuncData
  F_cut_at : Fun K "cut_at" "cut_at" s_cut_at a_cut_at d_cut_at
  m_cut_at : mg "cut_at" = some (.ref a_cut_at)
  k_cut_at : PySem.W.keepIn K (.ref a_cut_at) = true
  b_cut_at : Binds K d_cut_at p_cut_at []
  a_each_cut : Addr
  d_each_cut : FuncData
  F_each_cut : Fun K "each_cut" "each_cut" s_each_cut a_each_cut d_each_cut
  m_each_cut : mg "each_cut" = some (.ref a_each_cut)
  k_each_cut : PySem.W.keepIn K (.ref a_each_cut) = true
  b_each_cut : Binds K d_each_cut p_each_cut []
  a__law_cell : Addr
  d__law_cell : FuncData
  F__law_cell : Fun K "_law_cell" "_law_cell" s__law_cell a__law_cell d__law_cell
  m__law_cell : mg "_law_cell" = some (.ref a__law_cell)
  k__law_cell : PySem.W.keepIn K (.ref a__law_cell) = true
  b__law_cell : Binds K d__law_cell p__law_cell []
  a__law_box : Addr
  d__law_box : FuncData
  F__law_box : Fun K "_law_box" "_law_box" s__law_box a__law_box d__law_box
  m__law_box : mg "_law_box" = some (.ref a__law_box)
  k__law_box : PySem.W.keepIn K (.ref a__law_box) = true
  b__law_box : Binds K d__law_box p__law_box []
  a__law_take : Addr
  d__law_take : FuncData
  F__law_take : Fun K "_law_take" "_law_take" s__law_take a__law_take d__law_take
  m__law_take : mg "_law_take" = some (.ref a__law_take)
  k__law_take : PySem.W.keepIn K (.ref a__law_take) = true
  b__law_take : Binds K d__law_take p__law_take []
  a__law_row : Addr
  d__law_row : FuncData
  F__law_row : Fun K "_law_row" "_law_row" s__law_row a__law_row d__law_row
  m__law_row : mg "_law_row" = some (.ref a__law_row)
  k__law_row : PySem.W.keepIn K (.ref a__law_row) = true
  b__law_row : Binds K d__law_row p__law_row []
  a__law_ways : Addr
  d__law_ways : FuncData
  F__law_ways : Fun K "_law_ways" "_law_ways" s__law_ways a__law_ways d__law_ways
  m__law_ways : mg "_law_ways" = some (.ref a__law_ways)
  k__law_ways : PySem.W.keepIn K (.ref a__law_ways) = true
  b__law_ways : Binds K d__law_ways p__law_ways []
  a__law_is_number : Addr
  d__law_is_number : FuncData
  F__law_is_number : Fun K "_law_is_number" "_law_is_number" s__law_is_number a__law_is_number d__law_is_number
  m__law_is_number : mg "_law_is_number" = some (.ref a__law_is_number)
  k__law_is_number : PySem.W.keepIn K (.ref a__law_is_number) = true
  b__law_is_number : Binds K d__law_is_number p__law_is_number []
  a__law_is_cut : Addr
  d__law_is_cut : FuncData
  F__law_is_cut : Fun K "_law_is_cut" "_law_is_cut" s__law_is_cut a__law_is_cut d__law_is_cut
  m__law_is_cut : mg "_law_is_cut" = some (.ref a__law_is_cut)
  k__law_is_cut : PySem.W.keepIn K (.ref a__law_is_cut) = true
  b__law_is_cut : Binds K d__law_is_cut p__law_is_cut []
  a__law_is_listing : Addr
  d__law_is_listing : FuncData
  F__law_is_listing : Fun K "_law_is_listing" "_law_is_listing" s__law_is_listing a__law_is_listing d__law_is_listing
  m__law_is_listing : mg "_law_is_listing" = some (.ref a__law_is_listing)
  k__law_is_listing : PySem.W.keepIn K (.ref a__law_is_listing) = true
  b__law_is_listing : Binds K d__law_is_listing p__law_is_listing []
  a__law_counted : Addr
  d__law_counted : FuncData
  F__law_counted : Fun K "_law_counted" "_law_counted" s__law_counted a__law_counted d__law_counted
  m__law_counted : mg "_law_counted" = some (.ref a__law_counted)
  k__law_counted : PySem.W.keepIn K (.ref a__law_counted) = true
  b__law_counted : Binds K d__law_counted p__law_counted []
  a__law_listed : Addr
  d__law_listed : FuncData
  F__law_listed : Fun K "_law_listed" "_law_listed" s__law_listed a__law_listed d__law_listed
  m__law_listed : mg "_law_listed" = some (.ref a__law_listed)
  k__law_listed : PySem.W.keepIn K (.ref a__law_listed) = true
  b__law_listed : Binds K d__law_listed p__law_listed []
  a__law_wrong_row : Addr
  d__law_wrong_row : FuncData
  F__law_wrong_row : Fun K "_law_wrong_row" "_law_wrong_row" s__law_wrong_row a__law_wrong_row d__law_wrong_row
  m__law_wrong_row : mg "_law_wrong_row" = some (.ref a__law_wrong_row)
  k__law_wrong_row : PySem.W.keepIn K (.ref a__law_wrong_row) = true
  b__law_wrong_row : Binds K d__law_wrong_row p__law_wrong_row []
  a__law_wrong_number : Addr
  d__law_wrong_number : FuncData
  F__law_wrong_number : Fun K "_law_wrong_number" "_law_wrong_number" s__law_wrong_number a__law_wrong_number d__law_wrong_number
  m__law_wrong_number : mg "_law_wrong_number" = some (.ref a__law_wrong_number)
  k__law_wrong_number : PySem.W.keepIn K (.ref a__law_wrong_number) = true
  b__law_wrong_number : Binds K d__law_wrong_number p__law_wrong_number []
  a__law_ask : Addr
  d__law_ask : FuncData
  F__law_ask : Fun K "_law_ask" "_law_ask" s__law_ask a__law_ask d__law_ask
  m__law_ask : mg "_law_ask" = some (.ref a__law_ask)
  k__law_ask : PySem.W.keepIn K (.ref a__law_ask) = true
  b__law_ask : Binds K d__law_ask p__law_ask []
  a__law_refusal : Addr
  d__law_refusal : FuncData
  F__law_refusal : Fun K "_law_refusal" "_law_refusal" s__law_refusal a__law_refusal d__law_refusal
  m__law_refusal : mg "_law_refusal" = some (.ref a__law_refusal)
  k__law_refusal : PySem.W.keepIn K (.ref a__law_refusal) = true
  b__law_refusal : Binds K d__law_refusal p__law_refusal []
  a__law_same : Addr
  d__law_same : FuncData
  F__law_same : Fun K "_law_same" "_law_same" s__law_same a__law_same d__law_same
  m__law_same : mg "_law_same" = some (.ref a__law_same)
  k__law_same : PySem.W.keepIn K (.ref a__law_same) = true
  b__law_same : Binds K d__law_same p__law_same []
  a__law_refused : Addr
  d__law_refused : FuncData
  F__law_refused : Fun K "_law_refused" "_law_refused" s__law_refused a__law_refused d__law_refused
  m__law_refused : mg "_law_refused" = some (.ref a__law_refused)
  k__law_refused : PySem.W.keepIn K (.ref a__law_refused) = true
  b__law_refused : Binds K d__law_refused p__law_refused []
  m_isinstance : mg "isinstance" = none
  m_int : mg "int" = none
  m_bool : mg "bool" = none
  m_str : mg "str" = none
  m_all : mg "all" = none
  m_len : mg "len" = none
  m_range : mg "range" = none
  m_zip : mg "zip" = none
  m_list : mg "list" = none
  m_sorted : mg "sorted" = none
  m_abs : mg "abs" = none
  m_sum : mg "sum" = none
  m_ValueError : mg "ValueError" = none
  m_min : mg "min" = none
  m_comb : mg "comb" = some (.builtin "math.comb")
  ns_InvalidNumber : PySem.W.subIn K (.ref (cls "InvalidNumber")) (.type "StopIteration") = some false
  ns_InvalidRow : PySem.W.subIn K (.ref (cls "InvalidRow")) (.type "StopIteration") = some false
  m_CacheError : mg "CacheError" = some (.ref (cls "CacheError"))
  m_InvalidFlags : mg "InvalidFlags" = some (.ref (cls "InvalidFlags"))
  m_InvalidSlot : mg "InvalidSlot" = some (.ref (cls "InvalidSlot"))
  m_InvalidLine : mg "InvalidLine" = some (.ref (cls "InvalidLine"))
  m_InvalidRow : mg "InvalidRow" = some (.ref (cls "InvalidRow"))
  m_InvalidNumber : mg "InvalidNumber" = some (.ref (cls "InvalidNumber"))
  m_InvalidText : mg "InvalidText" = some (.ref (cls "InvalidText"))
  m_TooMany : mg "TooMany" = some (.ref (cls "TooMany"))
  m_Refused : mg "Refused" = some (.ref (cls "Refused"))
  o_InvalidRow : OexC K (cls "InvalidRow")
  i_InvalidRow : PySem.W.findIn K (.ref (cls "InvalidRow")) "__init__" = some (some (.ref a_InvalidRow_init))
  t_InvalidRow : PySem.W.typeIn K (.ref a_InvalidRow_init) = some (.type "function")
  n_InvalidRow_index : PySem.W.findIn K (.ref (cls "InvalidRow")) "index" = some none
  x_InvalidRow : XfC K (cls "InvalidRow")
  o_InvalidNumber : OexC K (cls "InvalidNumber")
  i_InvalidNumber : PySem.W.findIn K (.ref (cls "InvalidNumber")) "__init__" = some (some (.ref a_InvalidNumber_init))
  t_InvalidNumber : PySem.W.typeIn K (.ref a_InvalidNumber_init) = some (.type "function")
  n_InvalidNumber_number : PySem.W.findIn K (.ref (cls "InvalidNumber")) "number" = some none
  x_InvalidNumber : XfC K (cls "InvalidNumber")
  em_InvalidNumber_CacheError : PySem.W.exmOne K (.ref (cls "InvalidNumber")) (.ref (cls "CacheError")) = some true
  em_InvalidRow_CacheError : PySem.W.exmOne K (.ref (cls "InvalidRow")) (.ref (cls "CacheError")) = some true
  xc_InvalidNumber : ExcC K (cls "InvalidNumber")
  q_InvalidNumber_InvalidRow : PySem.W.kitOne K (.ref (cls "InvalidNumber")) (.ref (cls "InvalidRow")) = some false
  xc_InvalidRow : ExcC K (cls "InvalidRow")
  q_InvalidRow_InvalidRow : PySem.W.kitOne K (.ref (cls "InvalidRow")) (.ref (cls "InvalidRow")) = some true
  q_InvalidNumber_InvalidNumber : PySem.W.kitOne K (.ref (cls "InvalidNumber")) (.ref (cls "InvalidNumber")) = some true
  q_InvalidRow_InvalidNumber : PySem.W.kitOne K (.ref (cls "InvalidRow")) (.ref (cls "InvalidNumber")) = some false
  q_InvalidNumber_InvalidFlags : PySem.W.kitOne K (.ref (cls "InvalidNumber")) (.ref (cls "InvalidFlags")) = some false
  q_InvalidRow_InvalidFlags : PySem.W.kitOne K (.ref (cls "InvalidRow")) (.ref (cls "InvalidFlags")) = some false
  q_InvalidNumber_InvalidLine : PySem.W.kitOne K (.ref (cls "InvalidNumber")) (.ref (cls "InvalidLine")) = some false
  q_InvalidRow_InvalidLine : PySem.W.kitOne K (.ref (cls "InvalidRow")) (.ref (cls "InvalidLine")) = some false
  q_InvalidNumber_InvalidSlot : PySem.W.kitOne K (.ref (cls "InvalidNumber")) (.ref (cls "InvalidSlot")) = some false
  q_InvalidRow_InvalidSlot : PySem.W.kitOne K (.ref (cls "InvalidRow")) (.ref (cls "InvalidSlot")) = some false
  q_InvalidNumber_InvalidText : PySem.W.kitOne K (.ref (cls "InvalidNumber")) (.ref (cls "InvalidText")) = some false
  q_InvalidRow_InvalidText : PySem.W.kitOne K (.ref (cls "InvalidRow")) (.ref (cls "InvalidText")) = some false
  q_InvalidNumber_Refused : PySem.W.kitOne K (.ref (cls "InvalidNumber")) (.ref (cls "Refused")) = some false
  q_InvalidRow_Refused : PySem.W.kitOne K (.ref (cls "InvalidRow")) (.ref (cls "Refused")) = some false
  q_InvalidNumber_TooMany : PySem.W.kitOne K (.ref (cls "InvalidNumber")) (.ref (cls "TooMany")) = some false
  q_InvalidRow_TooMany : PySem.W.kitOne K (.ref (cls "InvalidRow")) (.ref (cls "TooMany")) = some false
  q_InvalidNumber_ValueError : PySem.W.kitOne K (.ref (cls "InvalidNumber")) (.type "ValueError") = some true
  q_InvalidRow_ValueError : PySem.W.kitOne K (.ref (cls "InvalidRow")) (.type "ValueError") = some true
set_option genInjectivity true
set_option genSizeOfSpec true
set_option genSizeOf true
noncomputable def TX.c {K : PySem.W.Frag} {mg : Str → Option Value} (T : TX K mg) : Ctx0 := ⟨K, T.cls⟩
theorem nf_InvalidRow {K : PySem.W.Frag} {mg : Str → Option Value} (T : TX K mg) : ∀ f ∈ (["index"] : List Str), PySem.W.findIn K (.ref (T.cls "InvalidRow")) f = some none := (List.forall_mem_cons.mpr ⟨T.n_InvalidRow_index, (fun _ h => absurd h List.not_mem_nil)⟩)
theorem nf_InvalidNumber {K : PySem.W.Frag} {mg : Str → Option Value} (T : TX K mg) : ∀ f ∈ (["number"] : List Str), PySem.W.findIn K (.ref (T.cls "InvalidNumber")) f = some none := (List.forall_mem_cons.mpr ⟨T.n_InvalidNumber_number, (fun _ h => absurd h List.not_mem_nil)⟩)
noncomputable def tb_CacheError : Tab := [("InvalidNumber", true), ("InvalidRow", true)]
theorem TX.ex_CacheError {K : PySem.W.Frag} {mg : Str → Option Value} (T : TX K mg) : ∀ n b, tabGet tb_CacheError n = some b → PySem.W.exmOne K (.ref (T.cls n)) (.ref (T.cls "CacheError")) = some b := by
  intro n b h
  unfold tb_CacheError at h
  rcases tabGet_cons h with ⟨rfl, rfl⟩ | h
  · exact T.em_InvalidNumber_CacheError
  rcases tabGet_cons h with ⟨rfl, rfl⟩ | h
  · exact T.em_InvalidRow_CacheError
  cases h
noncomputable def tb_InvalidRow : Tab := [("InvalidNumber", false), ("InvalidRow", true)]
theorem TX.is_InvalidRow {K : PySem.W.Frag} {mg : Str → Option Value} (T : TX K mg) : ∀ n b, tabGet tb_InvalidRow n = some b → ExcC K (T.cls n) ∧ PySem.W.kitOne K (.ref (T.cls n)) (.ref (T.cls "InvalidRow")) = some b := by
  intro n b h
  unfold tb_InvalidRow at h
  rcases tabGet_cons h with ⟨rfl, rfl⟩ | h
  · exact ⟨T.xc_InvalidNumber, T.q_InvalidNumber_InvalidRow⟩
  rcases tabGet_cons h with ⟨rfl, rfl⟩ | h
  · exact ⟨T.xc_InvalidRow, T.q_InvalidRow_InvalidRow⟩
  cases h
noncomputable def tb_InvalidNumber : Tab := [("InvalidNumber", true), ("InvalidRow", false)]
theorem TX.is_InvalidNumber {K : PySem.W.Frag} {mg : Str → Option Value} (T : TX K mg) : ∀ n b, tabGet tb_InvalidNumber n = some b → ExcC K (T.cls n) ∧ PySem.W.kitOne K (.ref (T.cls n)) (.ref (T.cls "InvalidNumber")) = some b := by
  intro n b h
  unfold tb_InvalidNumber at h
  rcases tabGet_cons h with ⟨rfl, rfl⟩ | h
  · exact ⟨T.xc_InvalidNumber, T.q_InvalidNumber_InvalidNumber⟩
  rcases tabGet_cons h with ⟨rfl, rfl⟩ | h
  · exact ⟨T.xc_InvalidRow, T.q_InvalidRow_InvalidNumber⟩
  cases h
noncomputable def tb_InvalidFlags : Tab := [("InvalidNumber", false), ("InvalidRow", false)]
theorem TX.is_InvalidFlags {K : PySem.W.Frag} {mg : Str → Option Value} (T : TX K mg) : ∀ n b, tabGet tb_InvalidFlags n = some b → ExcC K (T.cls n) ∧ PySem.W.kitOne K (.ref (T.cls n)) (.ref (T.cls "InvalidFlags")) = some b := by
  intro n b h
  unfold tb_InvalidFlags at h
  rcases tabGet_cons h with ⟨rfl, rfl⟩ | h
  · exact ⟨T.xc_InvalidNumber, T.q_InvalidNumber_InvalidFlags⟩
  rcases tabGet_cons h with ⟨rfl, rfl⟩ | h
  · exact ⟨T.xc_InvalidRow, T.q_InvalidRow_InvalidFlags⟩
  cases h
noncomputable def tb_InvalidLine : Tab := [("InvalidNumber", false), ("InvalidRow", false)]
theorem TX.is_InvalidLine {K : PySem.W.Frag} {mg : Str → Option Value} (T : TX K mg) : ∀ n b, tabGet tb_InvalidLine n = some b → ExcC K (T.cls n) ∧ PySem.W.kitOne K (.ref (T.cls n)) (.ref (T.cls "InvalidLine")) = some b := by
  intro n b h
  unfold tb_InvalidLine at h
  rcases tabGet_cons h with ⟨rfl, rfl⟩ | h
  · exact ⟨T.xc_InvalidNumber, T.q_InvalidNumber_InvalidLine⟩
  rcases tabGet_cons h with ⟨rfl, rfl⟩ | h
  · exact ⟨T.xc_InvalidRow, T.q_InvalidRow_InvalidLine⟩
  cases h
noncomputable def tb_InvalidSlot : Tab := [("InvalidNumber", false), ("InvalidRow", false)]
theorem TX.is_InvalidSlot {K : PySem.W.Frag} {mg : Str → Option Value} (T : TX K mg) : ∀ n b, tabGet tb_InvalidSlot n = some b → ExcC K (T.cls n) ∧ PySem.W.kitOne K (.ref (T.cls n)) (.ref (T.cls "InvalidSlot")) = some b := by
  intro n b h
  unfold tb_InvalidSlot at h
  rcases tabGet_cons h with ⟨rfl, rfl⟩ | h
  · exact ⟨T.xc_InvalidNumber, T.q_InvalidNumber_InvalidSlot⟩
  rcases tabGet_cons h with ⟨rfl, rfl⟩ | h
  · exact ⟨T.xc_InvalidRow, T.q_InvalidRow_InvalidSlot⟩
  cases h
noncomputable def tb_InvalidText : Tab := [("InvalidNumber", false), ("InvalidRow", false)]
theorem TX.is_InvalidText {K : PySem.W.Frag} {mg : Str → Option Value} (T : TX K mg) : ∀ n b, tabGet tb_InvalidText n = some b → ExcC K (T.cls n) ∧ PySem.W.kitOne K (.ref (T.cls n)) (.ref (T.cls "InvalidText")) = some b := by
  intro n b h
  unfold tb_InvalidText at h
  rcases tabGet_cons h with ⟨rfl, rfl⟩ | h
  · exact ⟨T.xc_InvalidNumber, T.q_InvalidNumber_InvalidText⟩
  rcases tabGet_cons h with ⟨rfl, rfl⟩ | h
  · exact ⟨T.xc_InvalidRow, T.q_InvalidRow_InvalidText⟩
  cases h
noncomputable def tb_Refused : Tab := [("InvalidNumber", false), ("InvalidRow", false)]
theorem TX.is_Refused {K : PySem.W.Frag} {mg : Str → Option Value} (T : TX K mg) : ∀ n b, tabGet tb_Refused n = some b → ExcC K (T.cls n) ∧ PySem.W.kitOne K (.ref (T.cls n)) (.ref (T.cls "Refused")) = some b := by
  intro n b h
  unfold tb_Refused at h
  rcases tabGet_cons h with ⟨rfl, rfl⟩ | h
  · exact ⟨T.xc_InvalidNumber, T.q_InvalidNumber_Refused⟩
  rcases tabGet_cons h with ⟨rfl, rfl⟩ | h
  · exact ⟨T.xc_InvalidRow, T.q_InvalidRow_Refused⟩
  cases h
noncomputable def tb_TooMany : Tab := [("InvalidNumber", false), ("InvalidRow", false)]
theorem TX.is_TooMany {K : PySem.W.Frag} {mg : Str → Option Value} (T : TX K mg) : ∀ n b, tabGet tb_TooMany n = some b → ExcC K (T.cls n) ∧ PySem.W.kitOne K (.ref (T.cls n)) (.ref (T.cls "TooMany")) = some b := by
  intro n b h
  unfold tb_TooMany at h
  rcases tabGet_cons h with ⟨rfl, rfl⟩ | h
  · exact ⟨T.xc_InvalidNumber, T.q_InvalidNumber_TooMany⟩
  rcases tabGet_cons h with ⟨rfl, rfl⟩ | h
  · exact ⟨T.xc_InvalidRow, T.q_InvalidRow_TooMany⟩
  cases h
noncomputable def tb_ValueError : Tab := [("InvalidNumber", true), ("InvalidRow", true)]
theorem TX.is_ValueError {K : PySem.W.Frag} {mg : Str → Option Value} (T : TX K mg) : ∀ n b, tabGet tb_ValueError n = some b → ExcC K (T.cls n) ∧ PySem.W.kitOne K (.ref (T.cls n)) (.type "ValueError") = some b := by
  intro n b h
  unfold tb_ValueError at h
  rcases tabGet_cons h with ⟨rfl, rfl⟩ | h
  · exact ⟨T.xc_InvalidNumber, T.q_InvalidNumber_ValueError⟩
  rcases tabGet_cons h with ⟨rfl, rfl⟩ | h
  · exact ⟨T.xc_InvalidRow, T.q_InvalidRow_ValueError⟩
  cases h
end M10
namespace M10
open PySem PySem.Spec PyProof.Rows L2 MR
section
variable {P : Program} {w : World} {K : PySem.W.Frag} {mg : Str → Option Value} {base : Heap}
theorem G_InvalidRow_init (T : TX K mg) : FnOk P w K mg base CX0 1 T.a_InvalidRow_init T.d_InvalidRow_init p_InvalidRow_init (spInitN K (T.cls "InvalidRow") ["index"]) := by
  refine T.F_InvalidRow_init.ok sc_InvalidRow_init (fun vs H Q E h => ?_) (fun cdv A outer s H vs Q E hr h => ?_)
  · obtain ⟨a, us, rfl, hl, _⟩ := h
    show us.length + 1 = 2
    rw [hl]
    rfl
  · obtain ⟨a, us, rfl, hl, o, n, e, q⟩ := h
    match us, hl with
    | [v0], _ =>
      refine ⟨_, (pss_one (ps_ost (pv 0) (pv 1))), ?_⟩
      refine ⟨_, rfl, _, rfl, a, _, rfl, o, n "index" (by simp), .inl ⟨e, fun dx nd ne => ?_⟩⟩
      exact q dx nd ne
theorem G_InvalidNumber_init (T : TX K mg) : FnOk P w K mg base CX0 1 T.a_InvalidNumber_init T.d_InvalidNumber_init p_InvalidNumber_init (spInitN K (T.cls "InvalidNumber") ["number"]) := by
  refine T.F_InvalidNumber_init.ok sc_InvalidNumber_init (fun vs H Q E h => ?_) (fun cdv A outer s H vs Q E hr h => ?_)
  · obtain ⟨a, us, rfl, hl, _⟩ := h
    show us.length + 1 = 2
    rw [hl]
    rfl
  · obtain ⟨a, us, rfl, hl, o, n, e, q⟩ := h
    match us, hl with
    | [v0], _ =>
      refine ⟨_, (pss_one (ps_ost (pv 0) (pv 1))), ?_⟩
      refine ⟨_, rfl, _, rfl, a, _, rfl, o, n "number" (by simp), .inl ⟨e, fun dx nd ne => ?_⟩⟩
      exact q dx nd ne
@[irreducible] noncomputable def m_is_whole : En → O :=
  (mRet (mAndV (mCB fIsi (mCons (mVar 0) (mCons (mC (.ty "int")) mNil))) (mNotV (mCB fIsi (mCons (mVar 0) (mCons (mC (.ty "bool")) mNil))))))
theorem G_is_whole (T : TX K mg) : FnOk P w K mg base CX0 1 T.a_is_whole T.d_is_whole p_is_whole (spM T.c false 1 n_is_whole m_is_whole) := by
  refine fn_nox T.F_is_whole sc_is_whole fun cdv A outer s H E hr => ?_
  unfold m_is_whole
  exact ⟨_, (pss_one (ps_ret (pe_and (pe_callB (k_isi (K := K) rfl) (by rfl) T.m_isinstance (by decide +kernel) (pa_cons (pv 0) (pa_cons (pe_bltn (v := .ty "int") (by rfl) T.m_int (by decide +kernel) rfl) pa_nil))) (pe_one (pe_not (pe_callB (k_isi (K := K) rfl) (by rfl) T.m_isinstance (by decide +kernel) (pa_cons (pv 0) (pa_cons (pe_bltn (v := .ty "bool") (by rfl) T.m_bool (by decide +kernel) rfl) pa_nil)))))))),
    (s_ret (s_andV (s_cb cb_isi (s_cons (s_var 0) (s_cons (s_ty "int") s_nil))) (s_notV (s_cb cb_isi (s_cons (s_var 0) (s_cons (s_ty "bool") s_nil))))))⟩
@[irreducible] noncomputable def m_is_made_of : En → O :=
  (mRet (mAndV (mCB fIsi (mCons (mVar 0) (mCons (mC (.ty "str")) mNil))) (mCB fAll (mCons (mLc (mSeqI (mVar 0)) (gN 2) mYes (mOr2 (mOp fInA (mVar 2) (mVar 1)) (mOp fDIn (mVar 2) (mVar 1))) [2]) mNil))))
theorem G_is_made_of (T : TX K mg) : FnOk P w K mg base CX0 1 T.a_is_made_of T.d_is_made_of p_is_made_of (spM T.c false 2 n_is_made_of m_is_made_of) := by
  refine fn_nox T.F_is_made_of sc_is_made_of fun cdv A outer s H E hr => ?_
  have hu : (A.deeper (envOfC "is_made_of" (defScope s_is_made_of) s.heap.objs.size T.a_is_made_of cdv)).units + 1 < cLine := by have := hr.units; omega
  unfold m_is_made_of
  exact ⟨_, (pss_one (ps_ret (pe_and (pe_callB (k_isi (K := K) rfl) (by rfl) T.m_isinstance (by decide +kernel) (pa_cons (pv 0) (pa_cons (pe_bltn (v := .ty "str") (by rfl) T.m_str (by decide +kernel) rfl) pa_nil))) (pe_one (pe_callB (k_all (K := K) rfl rfl) (by rfl) T.m_all (by decide +kernel) (pa_cons (pe_lc (own := [("letter", 2)]) (g := gName 2) (by rfl) sc_is_made_of.nd (k_iter (K := K) rfl (pv 0)) (blkOk_by (own := [("letter", 2)]) (N := n_is_made_of) (sc := defScope s_is_made_of) (by decide +kernel)) (fun _ _ _ _ _ => (pg_name (i := 2) sc_is_made_of.nd rfl (Or.inl rfl))) (fun _ _ _ _ _ => pts_nil) (fun _ _ _ _ _ => (pe_or2 (pe_cmpR (k_in (K := K) rfl) (pv 2) (pv 1) rfl) (pe_cmp (pc_din hu (pv 2) (pv 1)))))) pa_nil)))))),
    (s_ret (s_andV (s_cb cb_isi (s_cons (s_var 0) (s_cons (s_ty "str") s_nil))) (s_cb cb_all (s_cons (s_lc (vs := [2]) (si_seq (s_var 0)) (sg_name 2) (by decide) s_yes (s_or2 (s_op o_inA (s_var 2) (s_var 1)) (s_din (s_var 2) (s_var 1)))) s_nil))))⟩
@[irreducible] noncomputable def m_choose : En → O :=
  (mSeq (mIfS (mOr (mTest (mOp fLtA (mVar 1) (mC (.int 0)))) (mTest (mOp fGt (mVar 1) (mVar 0))))
  (mRet (mC (.int 0)))
  mNext)
  (mRet (mCB f_comb (mCons (mVar 0) (mCons (mVar 1) mNil)))))
theorem G_choose (T : TX K mg) : FnOk P w K mg base CX0 1 T.a_choose T.d_choose p_choose (spM T.c false 2 n_choose m_choose) := by
  refine fn_nox T.F_choose sc_choose fun cdv A outer s H E hr => ?_
  unfold m_choose
  exact ⟨_, (pss_cons (ps_if (PW.pt (pw_or (pt_cmpR k_lt (pv 1) pe_int (nomark _)) (pw_or1 (pt_cmpR k_gt (pv 1) (pv 0) (nomark _)))))
      (pss_one (ps_ret pe_int))
      pss_nil)
      (pss_one (ps_ret (pe_callBfun k_comb (by rfl) T.m_comb (pa_cons (pv 0) (pa_cons (pv 1) pa_nil)))))),
    (s_seq (s_if (s_or (s_test (s_op o_ltA (s_var 1) (s_int 0))) (s_test (s_op o_gtI (s_var 1) (s_var 0))))
      (s_ret (s_int 0))
      s_next)
      (s_ret (s_cb cb_comb (s_cons (s_var 0) (s_cons (s_var 1) s_nil)))))⟩
@[irreducible] noncomputable def m_block_count : En → O :=
  (mRet (mOp fAddA (mRd "str" fCntT (mVar 0) (mCons (mC (.str "l")) mNil)) (mIf (mTest (mOp fEqA (mSl fSl (mVar 0) mNoPart (mPart (mC (.int 1)))) (mC (.str "h")))) (mC (.int 1)) (mC (.int 0)))))
theorem G_block_count (T : TX K mg) : FnOk P w K mg base CX0 1 T.a_block_count T.d_block_count p_block_count (spM T.c false 1 n_block_count m_block_count) := by
  refine fn_nox T.F_block_count sc_block_count fun cdv A outer s H E hr => ?_
  unfold m_block_count
  exact ⟨_, (pss_one (ps_ret (pe_op (k_add (K := K) rfl) (pe_bm PySem.F.plainAttrs_str PySem.F.slot_str_count PySem.F.type_str_count k_cntT (pv 0) (pa_cons pe_str pa_nil)) (pe_ifExp (pt_cmpR (k_eq (K := K) rfl hr.units) (pe_slice (k_sl (K := K) rfl) (pv 0) po_none (po_some pe_int)) pe_str (nomark _)) pe_int pe_int)))),
    (s_ret (s_op o_addA (s_rd (T := "str") rd_cntT (s_var 0) (s_cons (s_str "l") s_nil)) (s_ifE (s_test (s_op o_eqA (s_sl sl_ok (s_var 0) s_noPart (s_part (s_int 1))) (s_str "h"))) (s_int 1) (s_int 0))))⟩
@[irreducible] noncomputable def m_next_choice : En → O :=
  (mSeq (mSet 2 (mCB fLenB (mCons (mVar 0) mNil)))
  (mSeq (mSet 3 (mOp fSub (mVar 2) (mC (.int 1))))
  (mSeq (mWhile (mAnd (mTest (mOp fGe (mVar 3) (mC (.int 0)))) (mTest (mOp fEqA (mOr2 (mOp fIx (mVar 0) (mVar 3)) (mOp fDGet (mVar 0) (mVar 3))) (mOp fAddA (mOp fSub (mVar 1) (mVar 2)) (mVar 3)))))
  (mAug 3 fSub (mC (.int 1))) 1000)
  (mSeq (mIfS (mTest (mOp fLtA (mVar 3) (mC (.int 0))))
  (mRet (mC .non))
  mNext)
  (mRet (mOp fAddA (mSl fSl (mVar 0) mNoPart (mPart (mVar 3))) (mLc (mRange1 (mCons (mOp fSub (mVar 2) (mVar 3)) mNil)) (gN 4) mYes (mOp fAddA (mOp fAddA (mOr2 (mOp fIx (mVar 0) (mVar 3)) (mOp fDGet (mVar 0) (mVar 3))) (mC (.int 1))) (mVar 4)) [4])))))))
theorem G_next_choice (T : TX K mg) : FnOk P w K mg base CX0 1 T.a_next_choice T.d_next_choice p_next_choice (spM T.c false 2 n_next_choice m_next_choice) := by
  refine fn_nox T.F_next_choice sc_next_choice fun cdv A outer s H E hr => ?_
  have hu : (A.deeper (envOfC "next_choice" (defScope s_next_choice) s.heap.objs.size T.a_next_choice cdv)).units + 1 < cLine := by have := hr.units; omega
  unfold m_next_choice
  exact ⟨_, (pss_cons (ps_set (i := 2) sc_next_choice.nd rfl (Or.inl rfl) (pe_callB (k_len2 (K := K) rfl) (by rfl) T.m_len PySem.boot_len (pa_cons (pv 0) pa_nil)))
      (pss_cons (ps_set (i := 3) sc_next_choice.nd rfl (Or.inr rfl) (pe_op k_sub (pv 2) pe_int))
      (pss_cons (ps_while PassesOwn.never (PW.pt (pw_and (pt_cmpR k_ge (pv 3) pe_int (nomark _)) (pw_and1 (pt_cmpR (k_eq (K := K) rfl hr.units) (pe_or2 (pe_ix (k_ix (K := K) rfl) (pv 0) (pv 3) (fun _ _ => rfl)) (pe_dget hu (pv 0) (pv 3) (fun _ _ => rfl))) (pe_op (k_add (K := K) rfl) (pe_op k_sub (pv 1) (pv 2)) (pv 3)) (nomark _)))))
      (pss_one (ps_aug (i := 3) sc_next_choice.nd rfl (Or.inr rfl) pe_int ip_sub)))
      (pss_cons (ps_if (pt_cmpR k_lt (pv 3) pe_int (nomark _))
      (pss_one (ps_ret pe_non))
      pss_nil)
      (pss_one (ps_ret (pe_op (k_add (K := K) rfl) (pe_slice (k_sl (K := K) rfl) (pv 0) po_none (po_some (pv 3))) (pe_lc (own := [("step", 4)]) (g := gName 4) (by rfl) sc_next_choice.nd (pi_range1 (by rfl) T.m_range (pa_cons (pe_op k_sub (pv 2) (pv 3)) pa_nil)) (blkOk_by (own := [("step", 4)]) (N := n_next_choice) (sc := defScope s_next_choice) (by decide +kernel)) (fun _ _ _ _ _ => (pg_name (i := 4) sc_next_choice.nd rfl (Or.inl rfl))) (fun _ _ _ _ _ => pts_nil) (fun _ _ _ _ _ => (pe_op (k_add (K := K) rfl) (pe_op (k_add (K := K) rfl) (pe_or2 (pe_ix (k_ix (K := K) rfl) (pv 0) (pv 3) (fun _ _ => rfl)) (pe_dget hu (pv 0) (pv 3) (fun _ _ => rfl))) pe_int) (pv 4))))))))))),
    (s_seq (s_set 2 (s_cb cb_lenB (s_cons (s_var 0) s_nil)))
      (s_seq (s_set 3 (s_op o_subI (s_var 2) (s_int 1)))
      (s_seq (s_while 1000 (s_and (s_test (s_op o_geI (s_var 3) (s_int 0))) (s_test (s_op o_eqA (s_or2 (s_op o_ix (s_var 0) (s_var 3)) (s_dget (s_var 0) (s_var 3))) (s_op o_addA (s_op o_subI (s_var 1) (s_var 2)) (s_var 3)))))
      (s_aug (i := 3) o_ipSub (s_int 1)))
      (s_seq (s_if (s_test (s_op o_ltA (s_var 3) (s_int 0)))
      (s_ret s_non)
      s_next)
      (s_ret (s_op o_addA (s_sl sl_ok (s_var 0) s_noPart (s_part (s_var 3))) (s_lc (vs := [4]) (si_range1 (s_cons (s_op o_subI (s_var 2) (s_var 3)) s_nil)) (sg_name 4) (by decide) s_yes (s_op o_addA (s_op o_addA (s_or2 (s_op o_ix (s_var 0) (s_var 3)) (s_dget (s_var 0) (s_var 3))) (s_int 1)) (s_var 4)))))))))⟩
@[irreducible] noncomputable def m_cut_at : En → O :=
  (mSeq (mIfS (mTest (mOp fEqA (mVar 0) (mC (.str ""))))
  (mRet (mLst mNil))
  mNext)
  (mSeq (mSet 2 (mOp fAddA (mVar 1) (mLst (mCons (mCB fLenB (mCons (mVar 0) mNil)) mNil))))
  (mRet (mLc (mZip (mCons (mOp fAddA (mLst (mCons (mC (.int 0)) mNil)) (mVar 1)) (mCons (mVar 2) mNil))) (gT 2 (gs1 (gN 3) (gs1 (gN 4) gs0))) mYes (mSl fSl (mVar 0) (mPart (mVar 3)) (mPart (mVar 4))) [3, 4]))))
theorem G_cut_at (T : TX K mg) : FnOk P w K mg base CX0 1 T.a_cut_at T.d_cut_at p_cut_at (spM T.c false 2 n_cut_at m_cut_at) := by
  refine fn_nox T.F_cut_at sc_cut_at fun cdv A outer s H E hr => ?_
  unfold m_cut_at
  exact ⟨_, (pss_cons (ps_if (pt_cmpR (k_eq (K := K) rfl hr.units) (pv 0) pe_str (nomark _))
      (pss_one (ps_ret (pe_lst pa_nil)))
      pss_nil)
      (pss_cons (ps_set (i := 2) sc_cut_at.nd rfl (Or.inl rfl) (pe_op (k_add (K := K) rfl) (pv 1) (pe_lst (pa_cons (pe_callB (k_len2 (K := K) rfl) (by rfl) T.m_len PySem.boot_len (pa_cons (pv 0) pa_nil)) pa_nil))))
      (pss_one (ps_ret (pe_lc (own := [("begin", 3), ("end", 4)]) (g := gTup K 2 (gCons (gName 3) (gCons (gName 4) gNil))) (by rfl) sc_cut_at.nd (pi_zip (by rfl) T.m_zip (pa_cons (pe_op (k_add (K := K) rfl) (pe_lst (pa_cons pe_int pa_nil)) (pv 1)) (pa_cons (pv 2) pa_nil))) (blkOk_by (own := [("begin", 3), ("end", 4)]) (N := n_cut_at) (sc := defScope s_cut_at) (by decide +kernel)) (fun _ _ _ _ _ => (pg_tup rfl (pgs_cons (pg_name (i := 3) sc_cut_at.nd rfl (Or.inl rfl)) (pgs_cons (pg_name (i := 4) sc_cut_at.nd rfl (Or.inl rfl)) pgs_nil)))) (fun _ _ _ _ _ => pts_nil) (fun _ _ _ _ _ => (pe_slice (k_sl (K := K) rfl) (pv 0) (po_some (pv 3)) (po_some (pv 4))))))))),
    (s_seq (s_if (s_test (s_op o_eqA (s_var 0) (s_str "")))
      (s_ret (s_lst s_nil))
      s_next)
      (s_seq (s_set 2 (s_op o_addA (s_var 1) (s_lst (s_cons (s_cb cb_lenB (s_cons (s_var 0) s_nil)) s_nil))))
      (s_ret (s_lc (vs := [3, 4]) (si_zip (s_cons (s_op o_addA (s_lst (s_cons (s_int 0) s_nil)) (s_var 1)) (s_cons (s_var 2) s_nil))) (sg_tup 2 (sg_cons (sg_name 3) (sg_cons (sg_name 4) sg_nil))) (by decide) s_yes (s_sl sl_ok (s_var 0) (s_part (s_var 3)) (s_part (s_var 4)))))))⟩
@[irreducible] noncomputable def m__law_cell : En → O :=
  (mSeq (mIfS (mTest (mOp fLtA (mVar 1) (mCB fLenB (mCons (mVar 0) mNil))))
  (mRet (mCB fAbs (mCons (mOr2 (mOp fIx (mVar 0) (mVar 1)) (mOp fDGet (mVar 0) (mVar 1))) mNil)))
  mNext)
  (mRet (mOp fAddA (mOp fMulB (mC (.int 7919)) (mOp fAddA (mVar 1) (mC (.int 1)))) (mOp fMod (mCB fInt (mCons (mCB fSum (mCons (mVar 0) mNil)) mNil)) (mC (.int 1000003))))))
theorem G__law_cell (T : TX K mg) : FnOk P w K mg base CX0 1 T.a__law_cell T.d__law_cell p__law_cell (spM T.c false 2 n__law_cell m__law_cell) := by
  refine fn_nox T.F__law_cell sc__law_cell fun cdv A outer s H E hr => ?_
  have hu : (A.deeper (envOfC "_law_cell" (defScope s__law_cell) s.heap.objs.size T.a__law_cell cdv)).units + 1 < cLine := by have := hr.units; omega
  unfold m__law_cell
  exact ⟨_, (pss_cons (ps_if (pt_cmpR k_lt (pv 1) (pe_callB (k_len2 (K := K) rfl) (by rfl) T.m_len PySem.boot_len (pa_cons (pv 0) pa_nil)) (nomark _))
      (pss_one (ps_ret (pe_callB k_abs (by rfl) T.m_abs (by decide +kernel) (pa_cons (pe_or2 (pe_ix (k_ix (K := K) rfl) (pv 0) (pv 1) (fun _ _ => rfl)) (pe_dget hu (pv 0) (pv 1) (fun _ _ => rfl))) pa_nil))))
      pss_nil)
      (pss_one (ps_ret (pe_op (k_add (K := K) rfl) (pe_op k_mul2 pe_int (pe_op (k_add (K := K) rfl) (pv 1) pe_int)) (pe_op k_mod (pe_callTy k_int (by rfl) T.m_int (by decide +kernel) (pa_cons (pe_callB (k_sum (K := K) rfl rfl) (by rfl) T.m_sum (by decide +kernel) (pa_cons (pv 0) pa_nil)) pa_nil)) pe_int))))),
    (s_seq (s_if (s_test (s_op o_ltA (s_var 1) (s_cb cb_lenB (s_cons (s_var 0) s_nil))))
      (s_ret (s_cb cb_absI (s_cons (s_or2 (s_op o_ix (s_var 0) (s_var 1)) (s_dget (s_var 0) (s_var 1))) s_nil)))
      s_next)
      (s_ret (s_op o_addA (s_op o_mulB (s_int 7919) (s_op o_addA (s_var 1) (s_int 1))) (s_op o_modI (s_cb cb_intA (s_cons (s_cb cb_sum (s_cons (s_var 0) s_nil)) s_nil)) (s_int 1000003)))))⟩
@[irreducible] noncomputable def m__law_take : En → O :=
  (mSeq (mIfS (mTest (mOp fGe (mOp fIx (mVar 0) (mC (.int 0))) (mOp fPow (mC (.int 10)) (mC (.int 18)))))
  (mSeq (mSet 2 (mOp fMod (mCB fInt (mCons (mOp fIx (mVar 0) (mC (.int 0))) mNil)) (mVar 1)))
  (mSeq (mStore 0 fSetL (mC (.int 0)) (mOp fDiv (mOp fIx (mVar 0) (mC (.int 0))) (mVar 1)))
  (mRet (mVar 2))))
  mNext)
  (mSeq (mStore 0 fSetL (mC (.int 1)) (mOp fAddA (mOp fIx (mVar 0) (mC (.int 1))) (mC (.int 1))))
  (mSeq (mSet 3 (mOp fMod (mCB fInt (mCons (mOp fAddA (mOp fMulB (mOp fIx (mVar 0) (mC (.int 0))) (mC (.int 48271))) (mOp fMulB (mOp fIx (mVar 0) (mC (.int 1))) (mC (.int 7368787)))) mNil)) (mC (.int 2147483647))))
  (mSeq (mSet 3 (mOp fMod (mCB fInt (mCons (mOp fAddA (mOp fAddA (mOp fMulB (mVar 3) (mVar 3)) (mOp fDiv (mVar 3) (mC (.int 127)))) (mOp fIx (mVar 0) (mC (.int 1)))) mNil)) (mC (.int 2147483629))))
  (mRet (mOp fMod (mOp fDiv (mOp fMod (mCB fInt (mCons (mOp fAddA (mOp fMulB (mVar 3) (mC (.int 69621))) (mOp fDiv (mVar 3) (mC (.int 8191)))) mNil)) (mC (.int 2147483587))) (mC (.int 11))) (mVar 1)))))))
theorem G__law_take (T : TX K mg) : FnOk P w K mg base CX0 1 T.a__law_take T.d__law_take p__law_take (spM T.c false 2 n__law_take m__law_take) := by
  refine fn_nox T.F__law_take sc__law_take fun cdv A outer s H E hr => ?_
  unfold m__law_take
  exact ⟨_, (pss_cons (ps_if (pt_cmpR k_ge (pe_ix (k_ix (K := K) rfl) (pv 0) pe_int (fun _ _ => rfl)) (pe_op k_pow pe_int pe_int) (nomark _))
      (pss_cons (ps_set (i := 2) sc__law_take.nd rfl (Or.inl rfl) (pe_op k_mod (pe_callTy k_int (by rfl) T.m_int (by decide +kernel) (pa_cons (pe_ix (k_ix (K := K) rfl) (pv 0) pe_int (fun _ _ => rfl)) pa_nil)) (pv 1)))
      (pss_cons (ps_asg (pe_op k_div (pe_ix (k_ix (K := K) rfl) (pv 0) pe_int (fun _ _ => rfl)) (pv 1)) (pg_sub (pv 0) pe_int set_list))
      (pss_one (ps_ret (pv 2)))))
      pss_nil)
      (pss_cons (ps_asg (pe_op (k_add (K := K) rfl) (pe_ix (k_ix (K := K) rfl) (pv 0) pe_int (fun _ _ => rfl)) pe_int) (pg_sub (pv 0) pe_int set_list))
      (pss_cons (ps_set (i := 3) sc__law_take.nd rfl (Or.inl rfl) (pe_op k_mod (pe_callTy k_int (by rfl) T.m_int (by decide +kernel) (pa_cons (pe_op (k_add (K := K) rfl) (pe_op k_mul2 (pe_ix (k_ix (K := K) rfl) (pv 0) pe_int (fun _ _ => rfl)) pe_int) (pe_op k_mul2 (pe_ix (k_ix (K := K) rfl) (pv 0) pe_int (fun _ _ => rfl)) pe_int)) pa_nil)) pe_int))
      (pss_cons (ps_set (i := 3) sc__law_take.nd rfl (Or.inl rfl) (pe_op k_mod (pe_callTy k_int (by rfl) T.m_int (by decide +kernel) (pa_cons (pe_op (k_add (K := K) rfl) (pe_op (k_add (K := K) rfl) (pe_op k_mul2 (pv 3) (pv 3)) (pe_op k_div (pv 3) pe_int)) (pe_ix (k_ix (K := K) rfl) (pv 0) pe_int (fun _ _ => rfl))) pa_nil)) pe_int))
      (pss_one (ps_ret (pe_op k_mod (pe_op k_div (pe_op k_mod (pe_callTy k_int (by rfl) T.m_int (by decide +kernel) (pa_cons (pe_op (k_add (K := K) rfl) (pe_op k_mul2 (pv 3) pe_int) (pe_op k_div (pv 3) pe_int)) pa_nil)) pe_int) pe_int) (pv 1)))))))),
    (s_seq (s_if (s_test (s_op o_geI (s_op o_ix (s_var 0) (s_int 0)) (s_op o_powI (s_int 10) (s_int 18))))
      (s_seq (s_set 2 (s_op o_modI (s_cb cb_intA (s_cons (s_op o_ix (s_var 0) (s_int 0)) s_nil)) (s_var 1)))
      (s_seq (s_store (i := 0) st_list (s_int 0) (s_op o_divI (s_op o_ix (s_var 0) (s_int 0)) (s_var 1)))
      (s_ret (s_var 2))))
      s_next)
      (s_seq (s_store (i := 0) st_list (s_int 1) (s_op o_addA (s_op o_ix (s_var 0) (s_int 1)) (s_int 1)))
      (s_seq (s_set 3 (s_op o_modI (s_cb cb_intA (s_cons (s_op o_addA (s_op o_mulB (s_op o_ix (s_var 0) (s_int 0)) (s_int 48271)) (s_op o_mulB (s_op o_ix (s_var 0) (s_int 1)) (s_int 7368787))) s_nil)) (s_int 2147483647)))
      (s_seq (s_set 3 (s_op o_modI (s_cb cb_intA (s_cons (s_op o_addA (s_op o_addA (s_op o_mulB (s_var 3) (s_var 3)) (s_op o_divI (s_var 3) (s_int 127))) (s_op o_ix (s_var 0) (s_int 1))) s_nil)) (s_int 2147483629)))
      (s_ret (s_op o_modI (s_op o_divI (s_op o_modI (s_cb cb_intA (s_cons (s_op o_addA (s_op o_mulB (s_var 3) (s_int 69621)) (s_op o_divI (s_var 3) (s_int 8191))) s_nil)) (s_int 2147483587)) (s_int 11)) (s_var 1)))))))⟩
@[irreducible] noncomputable def m__law_ways : En → O :=
  (mSeq (mSet 1 (mOp fAddA (mLst (mCons (mC (.int 1)) mNil)) (mOp fMulB (mLst (mCons (mC (.int 0)) mNil)) (mOp fAddA (mCB fLenB (mCons (mVar 0) mNil)) (mC (.int 3))))))
  (mSeq (mFor (mRange1 (mCons (mCB fLenB (mCons (mVar 0) mNil)) mNil)) (gN 2)
  (mSeq (mSet 3 (mOp fMulB (mLst (mCons (mC (.int 0)) mNil)) (mOp fAddA (mCB fLenB (mCons (mVar 0) mNil)) (mC (.int 4)))))
  (mSeq (mFor (mRange2 (mCons (mC (.int 1)) (mCons (mOp fAddA (mCB fLenB (mCons (mVar 0) mNil)) (mC (.int 1))) mNil))) (gN 4)
  (mSeq (mStore 3 fSetL (mVar 4) (mOr2 (mOp fIx (mVar 1) (mOp fSub (mVar 4) (mC (.int 1)))) (mOp fDGet (mVar 1) (mOp fSub (mVar 4) (mC (.int 1))))))
  (mIfS (mAnd (mTest (mOp fGt (mVar 2) (mC (.int 0)))) (mTest (mOp fEqA (mOr2 (mOp fIx (mVar 0) (mVar 2)) (mOp fDGet (mVar 0) (mVar 2))) (mC (.str "h")))))
  (mStore 3 fSetL (mVar 4) (mOp fAddA (mOp fIx (mVar 3) (mVar 4)) (mOr2 (mOp fIx (mVar 1) (mVar 4)) (mOp fDGet (mVar 1) (mVar 4)))))
  mNext)))
  (mSet 1 (mVar 3)))))
  (mRet (mVar 1))))
theorem G__law_ways (T : TX K mg) : FnOk P w K mg base CX0 1 T.a__law_ways T.d__law_ways p__law_ways (spM T.c false 1 n__law_ways m__law_ways) := by
  refine fn_nox T.F__law_ways sc__law_ways fun cdv A outer s H E hr => ?_
  have hu : (A.deeper (envOfC "_law_ways" (defScope s__law_ways) s.heap.objs.size T.a__law_ways cdv)).units + 1 < cLine := by have := hr.units; omega
  unfold m__law_ways
  exact ⟨_, (pss_cons (ps_set (i := 1) sc__law_ways.nd rfl (Or.inl rfl) (pe_op (k_add (K := K) rfl) (pe_lst (pa_cons pe_int pa_nil)) (pe_op k_mul2 (pe_lst (pa_cons pe_int pa_nil)) (pe_op (k_add (K := K) rfl) (pe_callB (k_len2 (K := K) rfl) (by rfl) T.m_len PySem.boot_len (pa_cons (pv 0) pa_nil)) pe_int))))
      (pss_cons (ps_for PassesOwn.never rfl (pi_range1 (by rfl) T.m_range (pa_cons (pe_callB (k_len2 (K := K) rfl) (by rfl) T.m_len PySem.boot_len (pa_cons (pv 0) pa_nil)) pa_nil)) (pg_name (i := 2) sc__law_ways.nd rfl (Or.inl rfl))
      (pss_cons (ps_set (i := 3) sc__law_ways.nd rfl (Or.inl rfl) (pe_op k_mul2 (pe_lst (pa_cons pe_int pa_nil)) (pe_op (k_add (K := K) rfl) (pe_callB (k_len2 (K := K) rfl) (by rfl) T.m_len PySem.boot_len (pa_cons (pv 0) pa_nil)) pe_int)))
      (pss_cons (ps_for PassesOwn.never rfl (pi_range2 (by rfl) T.m_range (pa_cons pe_int (pa_cons (pe_op (k_add (K := K) rfl) (pe_callB (k_len2 (K := K) rfl) (by rfl) T.m_len PySem.boot_len (pa_cons (pv 0) pa_nil)) pe_int) pa_nil))) (pg_name (i := 4) sc__law_ways.nd rfl (Or.inl rfl))
      (pss_cons (ps_asg (pe_or2 (pe_ix (k_ix (K := K) rfl) (pv 1) (pe_op k_sub (pv 4) pe_int) (fun _ _ => rfl)) (pe_dget hu (pv 1) (pe_op k_sub (pv 4) pe_int) (fun _ _ => rfl))) (pg_sub (pv 3) (pv 4) set_list))
      (pss_one (ps_if (PW.pt (pw_and (pt_cmpR k_gt (pv 2) pe_int (nomark _)) (pw_and1 (pt_cmpR (k_eq (K := K) rfl hr.units) (pe_or2 (pe_ix (k_ix (K := K) rfl) (pv 0) (pv 2) (fun _ _ => rfl)) (pe_dget hu (pv 0) (pv 2) (fun _ _ => rfl))) pe_str (nomark _)))))
      (pss_one (ps_asg (pe_op (k_add (K := K) rfl) (pe_ix (k_ix (K := K) rfl) (pv 3) (pv 4) (fun _ _ => rfl)) (pe_or2 (pe_ix (k_ix (K := K) rfl) (pv 1) (pv 4) (fun _ _ => rfl)) (pe_dget hu (pv 1) (pv 4) (fun _ _ => rfl)))) (pg_sub (pv 3) (pv 4) set_list)))
      pss_nil))))
      (pss_one (ps_set (i := 1) sc__law_ways.nd rfl (Or.inl rfl) (pv 3))))))
      (pss_one (ps_ret (pv 1))))),
    (s_seq (s_set 1 (s_op o_addA (s_lst (s_cons (s_int 1) s_nil)) (s_op o_mulB (s_lst (s_cons (s_int 0) s_nil)) (s_op o_addA (s_cb cb_lenB (s_cons (s_var 0) s_nil)) (s_int 3)))))
      (s_seq (s_for (si_range1 (s_cons (s_cb cb_lenB (s_cons (s_var 0) s_nil)) s_nil)) (sg_name 2)
      (s_seq (s_set 3 (s_op o_mulB (s_lst (s_cons (s_int 0) s_nil)) (s_op o_addA (s_cb cb_lenB (s_cons (s_var 0) s_nil)) (s_int 4))))
      (s_seq (s_for (si_range2 (s_cons (s_int 1) (s_cons (s_op o_addA (s_cb cb_lenB (s_cons (s_var 0) s_nil)) (s_int 1)) s_nil))) (sg_name 4)
      (s_seq (s_store (i := 3) st_list (s_var 4) (s_or2 (s_op o_ix (s_var 1) (s_op o_subI (s_var 4) (s_int 1))) (s_dget (s_var 1) (s_op o_subI (s_var 4) (s_int 1)))))
      (s_if (s_and (s_test (s_op o_gtI (s_var 2) (s_int 0))) (s_test (s_op o_eqA (s_or2 (s_op o_ix (s_var 0) (s_var 2)) (s_dget (s_var 0) (s_var 2))) (s_str "h"))))
      (s_store (i := 3) st_list (s_var 4) (s_op o_addA (s_op o_ix (s_var 3) (s_var 4)) (s_or2 (s_op o_ix (s_var 1) (s_var 4)) (s_dget (s_var 1) (s_var 4)))))
      s_next)))
      (s_set 1 (s_var 3)))))
      (s_ret (s_var 1))))⟩
@[irreducible] noncomputable def m__law_is_number : En → O :=
  (mRet (mAndV (mCB fIsi (mCons (mVar 0) (mCons (mC (.ty "int")) mNil))) (mAndV (mNotV (mCB fIsi (mCons (mVar 0) (mCons (mC (.ty "bool")) mNil)))) (mOp fEqA (mVar 0) (mVar 1)))))
theorem G__law_is_number (T : TX K mg) : FnOk P w K mg base CX0 1 T.a__law_is_number T.d__law_is_number p__law_is_number (spM T.c false 2 n__law_is_number m__law_is_number) := by
  refine fn_nox T.F__law_is_number sc__law_is_number fun cdv A outer s H E hr => ?_
  unfold m__law_is_number
  exact ⟨_, (pss_one (ps_ret (pe_and (pe_callB (k_isi (K := K) rfl) (by rfl) T.m_isinstance (by decide +kernel) (pa_cons (pv 0) (pa_cons (pe_bltn (v := .ty "int") (by rfl) T.m_int (by decide +kernel) rfl) pa_nil))) (pe_and (pe_not (pe_callB (k_isi (K := K) rfl) (by rfl) T.m_isinstance (by decide +kernel) (pa_cons (pv 0) (pa_cons (pe_bltn (v := .ty "bool") (by rfl) T.m_bool (by decide +kernel) rfl) pa_nil)))) (pe_one (pe_cmpR (k_eq (K := K) rfl hr.units) (pv 0) (pv 1) (nomark _))))))),
    (s_ret (s_andV (s_cb cb_isi (s_cons (s_var 0) (s_cons (s_ty "int") s_nil))) (s_andV (s_notV (s_cb cb_isi (s_cons (s_var 0) (s_cons (s_ty "bool") s_nil)))) (s_op o_eqA (s_var 0) (s_var 1)))))⟩
@[irreducible] noncomputable def m__law_is_cut : En → O :=
  (mSeq (mIfS (mOr (mNot (mTru (mCB fIsi (mCons (mVar 0) (mCons (mC (.ty "list")) mNil))))) (mTest (mOp fNeA (mCB fLenB (mCons (mVar 0) mNil)) (mVar 2))))
  (mRet (mC (.bl false)))
  mNext)
  (mSeq (mFor (mSeqI (mVar 0)) (gN 3)
  (mIfS (mOr (mNot (mTru (mCB fIsi (mCons (mVar 3) (mCons (mC (.ty "str")) mNil))))) (mOr (mTest (mOp fEqA (mVar 3) (mC (.str "")))) (mTest (mOp fInA (mC (.str "l")) (mSl fSl (mVar 3) (mPart (mC (.int 1))) mNoPart)))))
  (mRet (mC (.bl false)))
  mNext))
  (mRet (mOp fEqA (mJoin (mC (.str "")) (mVar 0)) (mVar 1)))))
theorem G__law_is_cut (T : TX K mg) : FnOk P w K mg base CX0 1 T.a__law_is_cut T.d__law_is_cut p__law_is_cut (spM T.c false 3 n__law_is_cut m__law_is_cut) := by
  refine fn_nox T.F__law_is_cut sc__law_is_cut fun cdv A outer s H E hr => ?_
  unfold m__law_is_cut
  exact ⟨_, (pss_cons (ps_if (PW.pt (pw_or (pt_not (k_truth (K := K) rfl (pe_callB (k_isi (K := K) rfl) (by rfl) T.m_isinstance (by decide +kernel) (pa_cons (pv 0) (pa_cons (pe_bltn (v := .ty "list") (by rfl) T.m_list (by decide +kernel) rfl) pa_nil))))) (pw_or1 (pt_cmpR (k_ne (K := K) rfl hr.units) (pe_callB (k_len2 (K := K) rfl) (by rfl) T.m_len PySem.boot_len (pa_cons (pv 0) pa_nil)) (pv 2) (nomark _)))))
      (pss_one (ps_ret pe_bl))
      pss_nil)
      (pss_cons (ps_for PassesOwn.never rfl (k_iter (K := K) rfl (pv 0)) (pg_name (i := 3) sc__law_is_cut.nd rfl (Or.inl rfl))
      (pss_one (ps_if (PW.pt (pw_or (pt_not (k_truth (K := K) rfl (pe_callB (k_isi (K := K) rfl) (by rfl) T.m_isinstance (by decide +kernel) (pa_cons (pv 3) (pa_cons (pe_bltn (v := .ty "str") (by rfl) T.m_str (by decide +kernel) rfl) pa_nil))))) (pw_or (pt_cmpR (k_eq (K := K) rfl hr.units) (pv 3) pe_str (nomark _)) (pw_or1 (pt_cmpR (k_in (K := K) rfl) pe_str (pe_slice (k_sl (K := K) rfl) (pv 3) (po_some pe_int) po_none) rfl)))))
      (pss_one (ps_ret pe_bl))
      pss_nil)))
      (pss_one (ps_ret (pe_cmpR (k_eq (K := K) rfl hr.units) (k_join (K := K) rfl pe_str (pv 0)) (pv 1) (nomark _)))))),
    (s_seq (s_if (s_or (s_not (s_tru (s_cb cb_isi (s_cons (s_var 0) (s_cons (s_ty "list") s_nil))))) (s_test (s_op o_neA (s_cb cb_lenB (s_cons (s_var 0) s_nil)) (s_var 2))))
      (s_ret (s_bl false))
      s_next)
      (s_seq (s_for (si_seq (s_var 0)) (sg_name 3)
      (s_if (s_or (s_not (s_tru (s_cb cb_isi (s_cons (s_var 3) (s_cons (s_ty "str") s_nil))))) (s_or (s_test (s_op o_eqA (s_var 3) (s_str ""))) (s_test (s_op o_inA (s_str "l") (s_sl sl_ok (s_var 3) (s_part (s_int 1)) s_noPart)))))
      (s_ret (s_bl false))
      s_next))
      (s_ret (s_op o_eqA (s_join (s_str "") (s_var 0)) (s_var 1)))))⟩
@[irreducible] noncomputable def m__law_same : En → O :=
  (mRet (mAndV (mOp fEqA (mCB fIsi (mCons (mVar 0) (mCons (mC (.ty "bool")) mNil))) (mCB fIsi (mCons (mVar 1) (mCons (mC (.ty "bool")) mNil)))) (mOp fEqA (mVar 0) (mVar 1))))
theorem G__law_same (T : TX K mg) : FnOk P w K mg base CX0 1 T.a__law_same T.d__law_same p__law_same (spM T.c false 2 n__law_same m__law_same) := by
  refine fn_nox T.F__law_same sc__law_same fun cdv A outer s H E hr => ?_
  unfold m__law_same
  exact ⟨_, (pss_one (ps_ret (pe_and (pe_cmpR (k_eq (K := K) rfl hr.units) (pe_callB (k_isi (K := K) rfl) (by rfl) T.m_isinstance (by decide +kernel) (pa_cons (pv 0) (pa_cons (pe_bltn (v := .ty "bool") (by rfl) T.m_bool (by decide +kernel) rfl) pa_nil))) (pe_callB (k_isi (K := K) rfl) (by rfl) T.m_isinstance (by decide +kernel) (pa_cons (pv 1) (pa_cons (pe_bltn (v := .ty "bool") (by rfl) T.m_bool (by decide +kernel) rfl) pa_nil))) (nomark _)) (pe_one (pe_cmpR (k_eq (K := K) rfl hr.units) (pv 0) (pv 1) (nomark _)))))),
    (s_ret (s_andV (s_op o_eqA (s_cb cb_isi (s_cons (s_var 0) (s_cons (s_ty "bool") s_nil))) (s_cb cb_isi (s_cons (s_var 1) (s_cons (s_ty "bool") s_nil)))) (s_op o_eqA (s_var 0) (s_var 1))))⟩
@[irreducible] noncomputable def m_is_number : En → O :=
  (mRet (mAndV (mCall none false true 1 1 m_is_whole (mCons (mVar 0) mNil)) (mAndV (mOp fLe (mVar 1) (mVar 0)) (mOrV (mOp fIsN (mVar 2) (mC .non)) (mOp fLe (mVar 0) (mVar 2))))))
theorem G_is_number (T : TX K mg) : FnOk P w K mg base CX0 2 T.a_is_number T.d_is_number p_is_number (spM T.c false 3 n_is_number m_is_number) := by
  have G_is_whole := G_is_whole (P := P) (w := w) (base := base) T
  refine fn_nox T.F_is_number sc_is_number fun cdv A outer s H E hr => ?_
  unfold m_is_number
  exact ⟨_, (pss_one (ps_ret (pe_and (pe_call G_is_whole (hr.mono (by decide)) (by rfl) T.m_is_whole T.k_is_whole T.b_is_whole .nil pass0 (pa_cons (pv 0) pa_nil)) (pe_and (pe_cmpR k_le (pv 1) (pv 0) (nomark _)) (pe_one (pe_or (pe_cmpR k_isN (pv 2) pe_non (nomark _)) (pe_one (pe_cmpR k_le (pv 0) (pv 2) (nomark _))))))))),
    (s_ret (s_andV (s_call (io := none) (len := false) (nr := true) (k := 1) (N := n_is_whole) (m := m_is_whole) (.inr ⟨rfl, .inl rfl⟩) (s_cons (s_var 0) s_nil)) (s_andV (s_op o_leI (s_var 1) (s_var 0)) (s_orV (s_op o_isNI (s_var 2) s_non) (s_op o_leI (s_var 0) (s_var 2))))))⟩
@[irreducible] noncomputable def m_is_row : En → O :=
  (mRet (mCall none false true 2 3 m_is_made_of (mCons (mVar 0) (mCons (mC (.str "hl")) mNil))))
theorem G_is_row (T : TX K mg) : FnOk P w K mg base CX0 2 T.a_is_row T.d_is_row p_is_row (spM T.c false 1 n_is_row m_is_row) := by
  have G_is_made_of := G_is_made_of (P := P) (w := w) (base := base) T
  refine fn_nox T.F_is_row sc_is_row fun cdv A outer s H E hr => ?_
  unfold m_is_row
  exact ⟨_, (pss_one (ps_ret (pe_call G_is_made_of (hr.mono (by decide)) (by rfl) T.m_is_made_of T.k_is_made_of T.b_is_made_of .nil pass0 (pa_cons (pv 0) (pa_cons pe_str pa_nil))))),
    (s_ret (s_call (io := none) (len := false) (nr := true) (k := 2) (N := n_is_made_of) (m := m_is_made_of) (.inr ⟨rfl, .inl rfl⟩) (s_cons (s_var 0) (s_cons (s_str "hl") s_nil))))⟩
@[irreducible] noncomputable def m__law_box : En → O :=
  (mRet (mLst (mCons (mCall none false true 2 2 m__law_cell (mCons (mVar 0) (mCons (mVar 1) mNil))) (mCons (mC (.int 0)) mNil))))
theorem G__law_box (T : TX K mg) : FnOk P w K mg base CX0 2 T.a__law_box T.d__law_box p__law_box (spM T.c false 2 n__law_box m__law_box) := by
  have G__law_cell := G__law_cell (P := P) (w := w) (base := base) T
  refine fn_nox T.F__law_box sc__law_box fun cdv A outer s H E hr => ?_
  unfold m__law_box
  exact ⟨_, (pss_one (ps_ret (pe_lst (pa_cons (pe_call G__law_cell (hr.mono (by decide)) (by rfl) T.m__law_cell T.k__law_cell T.b__law_cell .nil pass0 (pa_cons (pv 0) (pa_cons (pv 1) pa_nil))) (pa_cons pe_int pa_nil))))),
    (s_ret (s_lst (s_cons (s_call (io := none) (len := false) (nr := true) (k := 2) (N := n__law_cell) (m := m__law_cell) (.inr ⟨rfl, .inl rfl⟩) (s_cons (s_var 0) (s_cons (s_var 1) s_nil))) (s_cons (s_int 0) s_nil))))⟩
@[irreducible] noncomputable def m__law_row : En → O :=
  (mSeq (mSet 3 (mC (.str "")))
  (mSeq (mFor (mRange1 (mCons (mVar 1) mNil)) (gN 4)
  (mSeq (mSet 5 (mOp fEqA (mCall (some 0) false true 2 4 m__law_take (mCons (mVar 0) (mCons (mOp fIx (mLst (mCons (mC (.int 2)) (mCons (mC (.int 3)) (mCons (mC (.int 5)) (mCons (mC (.int 8)) (mCons (mC (.int 2)) (mCons (mC (.int 2)) (mCons (mC (.int 2)) (mCons (mC (.int 2)) (mCons (mC (.int 8)) mNil)))))))))) (mVar 2)) mNil))) (mC (.int 0))))
  (mSeq (mIfS (mOr (mTest (mOp fEqA (mVar 2) (mC (.int 3)))) (mTest (mOp fEqA (mVar 2) (mC (.int 8)))))
  (mSet 5 (mNotV (mVar 5)))
  mNext)
  (mSeq (mIfS (mTest (mOp fEqA (mVar 2) (mC (.int 4))))
  (mSet 5 (mOp fEqA (mVar 4) (mC (.int 0))))
  mNext)
  (mSeq (mIfS (mOr (mTest (mOp fEqA (mVar 2) (mC (.int 5)))) (mTest (mOp fEqA (mVar 2) (mC (.int 6)))))
  (mSet 5 (mOp fEqA (mVar 2) (mC (.int 5))))
  mNext)
  (mSet 3 (mOp fAddA (mVar 3) (mIf (mTru (mVar 5)) (mC (.str "l")) (mC (.str "h"))))))))))
  (mRet (mVar 3))))
theorem G__law_row (T : TX K mg) : FnOk P w K mg base CX0 2 T.a__law_row T.d__law_row p__law_row (spM T.c false 3 n__law_row m__law_row) := by
  have G__law_take := G__law_take (P := P) (w := w) (base := base) T
  refine fn_nox T.F__law_row sc__law_row fun cdv A outer s H E hr => ?_
  unfold m__law_row
  exact ⟨_, (pss_cons (ps_set (i := 3) sc__law_row.nd rfl (Or.inl rfl) pe_str)
      (pss_cons (ps_for PassesOwn.never rfl (pi_range1 (by rfl) T.m_range (pa_cons (pv 1) pa_nil)) (pg_name (i := 4) sc__law_row.nd rfl (Or.inl rfl))
      (pss_cons (ps_set (i := 5) sc__law_row.nd rfl (Or.inl rfl) (pe_cmpR (k_eq (K := K) rfl hr.units) (pe_call G__law_take (hr.mono (by decide)) (by rfl) T.m__law_take T.k__law_take T.b__law_take .nil pass0 (pa_cons (pv 0) (pa_cons (pe_ix (k_ix (K := K) rfl) (pe_lst (pa_cons pe_int (pa_cons pe_int (pa_cons pe_int (pa_cons pe_int (pa_cons pe_int (pa_cons pe_int (pa_cons pe_int (pa_cons pe_int (pa_cons pe_int pa_nil)))))))))) (pv 2) (fun _ _ => rfl)) pa_nil))) pe_int (nomark _)))
      (pss_cons (ps_if (PW.pt (pw_or (pt_cmpR (k_eq (K := K) rfl hr.units) (pv 2) pe_int (nomark _)) (pw_or1 (pt_cmpR (k_eq (K := K) rfl hr.units) (pv 2) pe_int (nomark _)))))
      (pss_one (ps_set (i := 5) sc__law_row.nd rfl (Or.inl rfl) (pe_not (pv 5))))
      pss_nil)
      (pss_cons (ps_if (pt_cmpR (k_eq (K := K) rfl hr.units) (pv 2) pe_int (nomark _))
      (pss_one (ps_set (i := 5) sc__law_row.nd rfl (Or.inl rfl) (pe_cmpR (k_eq (K := K) rfl hr.units) (pv 4) pe_int (nomark _))))
      pss_nil)
      (pss_cons (ps_if (PW.pt (pw_or (pt_cmpR (k_eq (K := K) rfl hr.units) (pv 2) pe_int (nomark _)) (pw_or1 (pt_cmpR (k_eq (K := K) rfl hr.units) (pv 2) pe_int (nomark _)))))
      (pss_one (ps_set (i := 5) sc__law_row.nd rfl (Or.inl rfl) (pe_cmpR (k_eq (K := K) rfl hr.units) (pv 2) pe_int (nomark _))))
      pss_nil)
      (pss_one (ps_set (i := 3) sc__law_row.nd rfl (Or.inl rfl) (pe_op (k_add (K := K) rfl) (pv 3) (pe_ifExp (k_truth (K := K) rfl (pv 5)) pe_str pe_str)))))))))
      (pss_one (ps_ret (pv 3))))),
    (s_seq (s_set 3 (s_str ""))
      (s_seq (s_for (si_range1 (s_cons (s_var 1) s_nil)) (sg_name 4)
      (s_seq (s_set 5 (s_op o_eqA (s_call (io := (some 0)) (len := false) (nr := true) (k := 2) (N := n__law_take) (m := m__law_take) (.inr ⟨rfl, .inl rfl⟩) (s_cons (s_var 0) (s_cons (s_op o_ix (s_lst (s_cons (s_int 2) (s_cons (s_int 3) (s_cons (s_int 5) (s_cons (s_int 8) (s_cons (s_int 2) (s_cons (s_int 2) (s_cons (s_int 2) (s_cons (s_int 2) (s_cons (s_int 8) s_nil)))))))))) (s_var 2)) s_nil))) (s_int 0)))
      (s_seq (s_if (s_or (s_test (s_op o_eqA (s_var 2) (s_int 3))) (s_test (s_op o_eqA (s_var 2) (s_int 8))))
      (s_set 5 (s_notV (s_var 5)))
      s_next)
      (s_seq (s_if (s_test (s_op o_eqA (s_var 2) (s_int 4)))
      (s_set 5 (s_op o_eqA (s_var 4) (s_int 0)))
      s_next)
      (s_seq (s_if (s_or (s_test (s_op o_eqA (s_var 2) (s_int 5))) (s_test (s_op o_eqA (s_var 2) (s_int 6))))
      (s_set 5 (s_op o_eqA (s_var 2) (s_int 5)))
      s_next)
      (s_set 3 (s_op o_addA (s_var 3) (s_ifE (s_tru (s_var 5)) (s_str "l") (s_str "h")))))))))
      (s_ret (s_var 3))))⟩
@[irreducible] noncomputable def m__law_is_listing : En → O :=
  (mSeq (mIfS (mTest (mOp fNeA (mCB fLenB (mCons (mVar 0) mNil)) (mVar 3)))
  (mRet (mC (.bl false)))
  mNext)
  (mSeq (mSet 4 (mLst mNil))
  (mSeq (mFor (mSeqI (mVar 0)) (gN 5)
  (mSeq (mIfS (mNot (mTru (mCall none false true 3 4 m__law_is_cut (mCons (mVar 5) (mCons (mVar 1) (mCons (mVar 2) mNil))))))
  (mRet (mC (.bl false)))
  mNext)
  (mSeq (mSet 6 (mLc (mSeqI (mVar 5)) (gN 7) mYes (mCB fLenB (mCons (mVar 7) mNil)) [7]))
  (mSeq (mIfS (mAnd (mTest (mOp fNeA (mVar 4) (mLst mNil))) (mNot (mTest (mOp fLtB (mOp fIx (mVar 4) (mC (.int 0))) (mVar 6)))))
  (mRet (mC (.bl false)))
  mNext)
  (mSet 4 (mLst (mCons (mVar 6) mNil)))))))
  (mRet (mC (.bl true))))))
theorem G__law_is_listing (T : TX K mg) : FnOk P w K mg base CX0 2 T.a__law_is_listing T.d__law_is_listing p__law_is_listing (spM T.c false 4 n__law_is_listing m__law_is_listing) := by
  have G__law_is_cut := G__law_is_cut (P := P) (w := w) (base := base) T
  refine fn_nox T.F__law_is_listing sc__law_is_listing fun cdv A outer s H E hr => ?_
  have hu : (A.deeper (envOfC "_law_is_listing" (defScope s__law_is_listing) s.heap.objs.size T.a__law_is_listing cdv)).units + 1 < cLine := by have := hr.units; omega
  unfold m__law_is_listing
  exact ⟨_, (pss_cons (ps_if (pt_cmpR (k_ne (K := K) rfl hr.units) (pe_callB (k_len2 (K := K) rfl) (by rfl) T.m_len PySem.boot_len (pa_cons (pv 0) pa_nil)) (pv 3) (nomark _))
      (pss_one (ps_ret pe_bl))
      pss_nil)
      (pss_cons (ps_set (i := 4) sc__law_is_listing.nd rfl (Or.inl rfl) (pe_lst pa_nil))
      (pss_cons (ps_for PassesOwn.never rfl (k_iter (K := K) rfl (pv 0)) (pg_name (i := 5) sc__law_is_listing.nd rfl (Or.inl rfl))
      (pss_cons (ps_if (pt_not (k_truth (K := K) rfl (pe_call G__law_is_cut (hr.mono (by decide)) (by rfl) T.m__law_is_cut T.k__law_is_cut T.b__law_is_cut .nil pass0 (pa_cons (pv 5) (pa_cons (pv 1) (pa_cons (pv 2) pa_nil))))))
      (pss_one (ps_ret pe_bl))
      pss_nil)
      (pss_cons (ps_setLc (i := 6) (own := [("block", 7)]) (g := gName 7) (by rfl) sc__law_is_listing.nd rfl rfl (sw_true rfl rfl rfl (by decide +kernel)) (k_iter (K := K) rfl (pv 5)) (blkOk_by (own := [("block", 7)]) (N := n__law_is_listing) (sc := defScope s__law_is_listing) (by decide +kernel)) (fun _ _ _ _ _ => (pg_name (i := 7) sc__law_is_listing.nd rfl (Or.inl rfl))) (fun _ _ _ _ _ => pts_nil) (fun _ _ _ _ _ => (pe_callB (k_len2 (K := K) rfl) (by rfl) T.m_len PySem.boot_len (pa_cons (pv 7) pa_nil))))
      (pss_cons (ps_if (PW.pt (pw_and (pt_cmpR (k_ne (K := K) rfl hr.units) (pv 4) (pe_lst pa_nil) (nomark _)) (pw_and1 (pt_not (pt_cmpR (k_ltB (K := K) rfl (Nat.lt_of_succ_lt hu)) (pe_ix (k_ix (K := K) rfl) (pv 4) pe_int (fun _ _ => rfl)) (pv 6) (nomark _))))))
      (pss_one (ps_ret pe_bl))
      pss_nil)
      (pss_one (ps_set (i := 4) sc__law_is_listing.nd rfl (Or.inl rfl) (pe_lst (pa_cons (pv 6) pa_nil))))))))
      (pss_one (ps_ret pe_bl))))),
    (s_seq (s_if (s_test (s_op o_neA (s_cb cb_lenB (s_cons (s_var 0) s_nil)) (s_var 3)))
      (s_ret (s_bl false))
      s_next)
      (s_seq (s_set 4 (s_lst s_nil))
      (s_seq (s_for (si_seq (s_var 0)) (sg_name 5)
      (s_seq (s_if (s_not (s_tru (s_call (io := none) (len := false) (nr := true) (k := 3) (N := n__law_is_cut) (m := m__law_is_cut) (.inr ⟨rfl, .inl rfl⟩) (s_cons (s_var 5) (s_cons (s_var 1) (s_cons (s_var 2) s_nil))))))
      (s_ret (s_bl false))
      s_next)
      (s_seq (s_set 6 (s_lc (vs := [7]) (si_seq (s_var 5)) (sg_name 7) (by decide) s_yes (s_cb cb_lenB (s_cons (s_var 7) s_nil))))
      (s_seq (s_if (s_and (s_test (s_op o_neA (s_var 4) (s_lst s_nil))) (s_not (s_test (s_op o_ltB (s_op o_ix (s_var 4) (s_int 0)) (s_var 6)))))
      (s_ret (s_bl false))
      s_next)
      (s_set 4 (s_lst (s_cons (s_var 6) s_nil)))))))
      (s_ret (s_bl true)))))⟩
@[irreducible] noncomputable def m__law_wrong_row : En → O :=
  (mSeq (mSet 2 (mCall (some 0) false true 2 4 m__law_take (mCons (mVar 0) (mCons (mOp fAddA (mCB fLenB (mCons (mVar 1) mNil)) (mC (.int 1))) mNil))))
  (mSeq (mSet 3 (mOp fIx (mLst (mCons (mC (.str "x")) (mCons (mC (.str "H")) (mCons (mC (.str " ")) (mCons (mC (.str "R")) (mCons (mC (.str "?")) (mCons (mC (.str "L")) mNil))))))) (mCall (some 0) false true 2 4 m__law_take (mCons (mVar 0) (mCons (mC (.int 6)) mNil)))))
  (mSeq (mSet 4 (mCall (some 0) false true 2 4 m__law_take (mCons (mVar 0) (mCons (mC (.int 10)) mNil))))
  (mSeq (mSet 5 (mLst (mCons (mC .non) (mCons (mC (.int 3)) (mCons (mC (.bl true)) (mCons (mLst (mCons (mVar 1) mNil)) (mCons (mLst (mCons (mC (.str "h")) mNil)) (mCons (mTup (mCons (mC (.str "h")) mNil)) mNil))))))))
  (mSeq (mIfS (mTest (mOp fLtA (mVar 4) (mC (.int 6))))
  (mRet (mOp fIx (mVar 5) (mVar 4)))
  mNext)
  (mSeq (mIfS (mAnd (mTest (mOp fEqA (mVar 4) (mC (.int 6)))) (mTest (mOp fNeA (mVar 1) (mC (.str "")))))
  (mRet (mLc (mRange1 (mCons (mCB fLenB (mCons (mVar 1) mNil)) mNil)) (gN 6) mYes (mOr2 (mOp fIx (mVar 1) (mVar 6)) (mOp fDGet (mVar 1) (mVar 6))) [6]))
  mNext)
  (mRet (mOp fAddA (mOp fAddA (mSl fSl (mVar 1) mNoPart (mPart (mVar 2))) (mVar 3)) (mSl fSl (mVar 1) (mPart (mVar 2)) mNoPart)))))))))
theorem G__law_wrong_row (T : TX K mg) : FnOk P w K mg base CX0 2 T.a__law_wrong_row T.d__law_wrong_row p__law_wrong_row (spM T.c false 2 n__law_wrong_row m__law_wrong_row) := by
  have G__law_take := G__law_take (P := P) (w := w) (base := base) T
  refine fn_nox T.F__law_wrong_row sc__law_wrong_row fun cdv A outer s H E hr => ?_
  have hu : (A.deeper (envOfC "_law_wrong_row" (defScope s__law_wrong_row) s.heap.objs.size T.a__law_wrong_row cdv)).units + 1 < cLine := by have := hr.units; omega
  unfold m__law_wrong_row
  exact ⟨_, (pss_cons (ps_set (i := 2) sc__law_wrong_row.nd rfl (Or.inl rfl) (pe_call G__law_take (hr.mono (by decide)) (by rfl) T.m__law_take T.k__law_take T.b__law_take .nil pass0 (pa_cons (pv 0) (pa_cons (pe_op (k_add (K := K) rfl) (pe_callB (k_len2 (K := K) rfl) (by rfl) T.m_len PySem.boot_len (pa_cons (pv 1) pa_nil)) pe_int) pa_nil))))
      (pss_cons (ps_set (i := 3) sc__law_wrong_row.nd rfl (Or.inl rfl) (pe_ix (k_ix (K := K) rfl) (pe_lst (pa_cons pe_str (pa_cons pe_str (pa_cons pe_str (pa_cons pe_str (pa_cons pe_str (pa_cons pe_str pa_nil))))))) (pe_call G__law_take (hr.mono (by decide)) (by rfl) T.m__law_take T.k__law_take T.b__law_take .nil pass0 (pa_cons (pv 0) (pa_cons pe_int pa_nil))) (fun _ _ => rfl)))
      (pss_cons (ps_set (i := 4) sc__law_wrong_row.nd rfl (Or.inl rfl) (pe_call G__law_take (hr.mono (by decide)) (by rfl) T.m__law_take T.k__law_take T.b__law_take .nil pass0 (pa_cons (pv 0) (pa_cons pe_int pa_nil))))
      (pss_cons (ps_set (i := 5) sc__law_wrong_row.nd rfl (Or.inl rfl) (pe_lst (pa_cons pe_non (pa_cons pe_int (pa_cons pe_bl (pa_cons (pe_lst (pa_cons (pv 1) pa_nil)) (pa_cons (pe_lst (pa_cons pe_str pa_nil)) (pa_cons (pe_tup (pa_cons pe_str pa_nil)) pa_nil))))))))
      (pss_cons (ps_if (pt_cmpR k_lt (pv 4) pe_int (nomark _))
      (pss_one (ps_ret (pe_ix (k_ix (K := K) rfl) (pv 5) (pv 4) (fun _ _ => rfl))))
      pss_nil)
      (pss_cons (ps_if (PW.pt (pw_and (pt_cmpR (k_eq (K := K) rfl hr.units) (pv 4) pe_int (nomark _)) (pw_and1 (pt_cmpR (k_ne (K := K) rfl hr.units) (pv 1) pe_str (nomark _)))))
      (pss_one (ps_ret (pe_lc (own := [("k", 6)]) (g := gName 6) (by rfl) sc__law_wrong_row.nd (pi_range1 (by rfl) T.m_range (pa_cons (pe_callB (k_len2 (K := K) rfl) (by rfl) T.m_len PySem.boot_len (pa_cons (pv 1) pa_nil)) pa_nil)) (blkOk_by (own := [("k", 6)]) (N := n__law_wrong_row) (sc := defScope s__law_wrong_row) (by decide +kernel)) (fun _ _ _ _ _ => (pg_name (i := 6) sc__law_wrong_row.nd rfl (Or.inl rfl))) (fun _ _ _ _ _ => pts_nil) (fun _ _ _ _ _ => (pe_or2 (pe_ix (k_ix (K := K) rfl) (pv 1) (pv 6) (fun _ _ => rfl)) (pe_dget hu (pv 1) (pv 6) (fun _ _ => rfl)))))))
      pss_nil)
      (pss_one (ps_ret (pe_op (k_add (K := K) rfl) (pe_op (k_add (K := K) rfl) (pe_slice (k_sl (K := K) rfl) (pv 1) po_none (po_some (pv 2))) (pv 3)) (pe_slice (k_sl (K := K) rfl) (pv 1) (po_some (pv 2)) po_none)))))))))),
    (s_seq (s_set 2 (s_call (io := (some 0)) (len := false) (nr := true) (k := 2) (N := n__law_take) (m := m__law_take) (.inr ⟨rfl, .inl rfl⟩) (s_cons (s_var 0) (s_cons (s_op o_addA (s_cb cb_lenB (s_cons (s_var 1) s_nil)) (s_int 1)) s_nil))))
      (s_seq (s_set 3 (s_op o_ix (s_lst (s_cons (s_str "x") (s_cons (s_str "H") (s_cons (s_str " ") (s_cons (s_str "R") (s_cons (s_str "?") (s_cons (s_str "L") s_nil))))))) (s_call (io := (some 0)) (len := false) (nr := true) (k := 2) (N := n__law_take) (m := m__law_take) (.inr ⟨rfl, .inl rfl⟩) (s_cons (s_var 0) (s_cons (s_int 6) s_nil)))))
      (s_seq (s_set 4 (s_call (io := (some 0)) (len := false) (nr := true) (k := 2) (N := n__law_take) (m := m__law_take) (.inr ⟨rfl, .inl rfl⟩) (s_cons (s_var 0) (s_cons (s_int 10) s_nil))))
      (s_seq (s_set 5 (s_lst (s_cons s_non (s_cons (s_int 3) (s_cons (s_bl true) (s_cons (s_lst (s_cons (s_var 1) s_nil)) (s_cons (s_lst (s_cons (s_str "h") s_nil)) (s_cons (s_tup (s_cons (s_str "h") s_nil)) s_nil))))))))
      (s_seq (s_if (s_test (s_op o_ltA (s_var 4) (s_int 6)))
      (s_ret (s_op o_ix (s_var 5) (s_var 4)))
      s_next)
      (s_seq (s_if (s_and (s_test (s_op o_eqA (s_var 4) (s_int 6))) (s_test (s_op o_neA (s_var 1) (s_str ""))))
      (s_ret (s_lc (vs := [6]) (si_range1 (s_cons (s_cb cb_lenB (s_cons (s_var 1) s_nil)) s_nil)) (sg_name 6) (by decide) s_yes (s_or2 (s_op o_ix (s_var 1) (s_var 6)) (s_dget (s_var 1) (s_var 6)))))
      s_next)
      (s_ret (s_op o_addA (s_op o_addA (s_sl sl_ok (s_var 1) s_noPart (s_part (s_var 2))) (s_var 3)) (s_sl sl_ok (s_var 1) (s_part (s_var 2)) s_noPart)))))))))⟩
@[irreducible] noncomputable def m__law_wrong_number : En → O :=
  (mSeq (mSet 1 (mCall (some 0) false true 2 4 m__law_take (mCons (mVar 0) (mCons (mC (.int 8)) mNil))))
  (mSeq (mSet 2 (mLst (mCons (mC (.bl true)) (mCons (mC (.bl false)) (mCons (mC .non) (mCons (mC (.str "1")) (mCons (mLst (mCons (mC (.int 1)) mNil)) (mCons (mTup (mCons (mC (.int 1)) mNil)) mNil))))))))
  (mSeq (mIfS (mTest (mOp fLtA (mVar 1) (mC (.int 6))))
  (mRet (mOp fIx (mVar 2) (mVar 1)))
  mNext)
  (mSeq (mIfS (mTest (mOp fEqA (mVar 1) (mC (.int 6))))
  (mRet (mUn fNeg (mC (.int 1))))
  mNext)
  (mRet (mOp fSub (mUn fNeg (mC (.int 2))) (mOp fMulB (mCall (some 0) false true 2 4 m__law_take (mCons (mVar 0) (mCons (mC (.int 1000000)) mNil))) (mOp fPow (mC (.int 10)) (mC (.int 30))))))))))
theorem G__law_wrong_number (T : TX K mg) : FnOk P w K mg base CX0 2 T.a__law_wrong_number T.d__law_wrong_number p__law_wrong_number (spM T.c false 1 n__law_wrong_number m__law_wrong_number) := by
  have G__law_take := G__law_take (P := P) (w := w) (base := base) T
  refine fn_nox T.F__law_wrong_number sc__law_wrong_number fun cdv A outer s H E hr => ?_
  unfold m__law_wrong_number
  exact ⟨_, (pss_cons (ps_set (i := 1) sc__law_wrong_number.nd rfl (Or.inl rfl) (pe_call G__law_take (hr.mono (by decide)) (by rfl) T.m__law_take T.k__law_take T.b__law_take .nil pass0 (pa_cons (pv 0) (pa_cons pe_int pa_nil))))
      (pss_cons (ps_set (i := 2) sc__law_wrong_number.nd rfl (Or.inl rfl) (pe_lst (pa_cons pe_bl (pa_cons pe_bl (pa_cons pe_non (pa_cons pe_str (pa_cons (pe_lst (pa_cons pe_int pa_nil)) (pa_cons (pe_tup (pa_cons pe_int pa_nil)) pa_nil))))))))
      (pss_cons (ps_if (pt_cmpR k_lt (pv 1) pe_int (nomark _))
      (pss_one (ps_ret (pe_ix (k_ix (K := K) rfl) (pv 2) (pv 1) (fun _ _ => rfl))))
      pss_nil)
      (pss_cons (ps_if (pt_cmpR (k_eq (K := K) rfl hr.units) (pv 1) pe_int (nomark _))
      (pss_one (ps_ret (pe_un k_neg pe_int)))
      pss_nil)
      (pss_one (ps_ret (pe_op k_sub (pe_un k_neg pe_int) (pe_op k_mul2 (pe_call G__law_take (hr.mono (by decide)) (by rfl) T.m__law_take T.k__law_take T.b__law_take .nil pass0 (pa_cons (pv 0) (pa_cons pe_int pa_nil))) (pe_op k_pow pe_int pe_int))))))))),
    (s_seq (s_set 1 (s_call (io := (some 0)) (len := false) (nr := true) (k := 2) (N := n__law_take) (m := m__law_take) (.inr ⟨rfl, .inl rfl⟩) (s_cons (s_var 0) (s_cons (s_int 8) s_nil))))
      (s_seq (s_set 2 (s_lst (s_cons (s_bl true) (s_cons (s_bl false) (s_cons s_non (s_cons (s_str "1") (s_cons (s_lst (s_cons (s_int 1) s_nil)) (s_cons (s_tup (s_cons (s_int 1) s_nil)) s_nil))))))))
      (s_seq (s_if (s_test (s_op o_ltA (s_var 1) (s_int 6)))
      (s_ret (s_op o_ix (s_var 2) (s_var 1)))
      s_next)
      (s_seq (s_if (s_test (s_op o_eqA (s_var 1) (s_int 6)))
      (s_ret (s_un u_negI (s_int 1)))
      s_next)
      (s_ret (s_op o_subI (s_un u_negI (s_int 2)) (s_op o_mulB (s_call (io := (some 0)) (len := false) (nr := true) (k := 2) (N := n__law_take) (m := m__law_take) (.inr ⟨rfl, .inl rfl⟩) (s_cons (s_var 0) (s_cons (s_int 1000000) s_nil))) (s_op o_powI (s_int 10) (s_int 30)))))))))⟩
@[irreducible] noncomputable def m_check_number : En → O :=
  (mIfS (mNot (mTru (mCall none false true 3 3 m_is_number (mCons (mVar 0) (mCons (mVar 1) (mCons (mVar 2) mNil))))))
  (mRaise "InvalidNumber" ["number"] (mCons (mVar 0) mNil))
  mNext)
theorem G_check_number (T : TX K mg) : FnOk P w K mg base CX0 3 T.a_check_number T.d_check_number p_check_number (spM T.c false 3 n_check_number m_check_number) := by
  have G_is_number := G_is_number (P := P) (w := w) (base := base) T
  refine fn_nox T.F_check_number sc_check_number fun cdv A outer s H E hr => ?_
  unfold m_check_number
  exact ⟨_, (pss_one (ps_if (pt_not (k_truth (K := K) rfl (pe_call G_is_number (hr.mono (by decide)) (by rfl) T.m_is_number T.k_is_number T.b_is_number .nil pass0 (pa_cons (pv 0) (pa_cons (pv 1) (pa_cons (pv 2) pa_nil))))))
      (pss_one ps_never)
      pss_nil)),
    (s_if (s_not (s_tru (s_call (io := none) (len := false) (nr := true) (k := 3) (N := n_is_number) (m := m_is_number) (.inr ⟨rfl, .inl rfl⟩) (s_cons (s_var 0) (s_cons (s_var 1) (s_cons (s_var 2) s_nil))))))
      s_never
      s_next)⟩
theorem GX_check_number (T : TX K mg) : FnOk P w K mg base (L2.CX P w) 3 T.a_check_number T.d_check_number p_check_number (spM T.c true 3 n_check_number m_check_number) := by
  have G_is_number := G_is_number (P := P) (w := w) (base := base) T
  have G_InvalidNumber_init := G_InvalidNumber_init (P := P) (w := w) (base := base) T
  refine fn_x T.F_check_number sc_check_number fun cdv A outer s H E hr => ?_
  unfold m_check_number
  exact ⟨_, (pss_one (ps_if (pt_not (k_truth (K := K) rfl (pe_call G_is_number (hr.mono (by decide)) (by rfl) T.m_is_number T.k_is_number T.b_is_number .nil pass0 (pa_cons (pv 0) (pa_cons (pv 1) (pa_cons (pv 2) pa_nil))))))
      (pss_one (ps_raise rfl (takes_of rfl rfl rfl rfl) (pmk_oex T.o_InvalidNumber T.i_InvalidNumber T.t_InvalidNumber G_InvalidNumber_init (hr.mono (by decide)) T.b_InvalidNumber_init .nil pass0 (by rfl) T.m_InvalidNumber (pa_cons (pv 0) pa_nil))))
      pss_nil)),
    (s_if (s_not (s_tru (s_call (io := none) (len := false) (nr := true) (k := 3) (N := n_is_number) (m := m_is_number) (.inr ⟨rfl, .inl rfl⟩) (s_cons (s_var 0) (s_cons (s_var 1) (s_cons (s_var 2) s_nil))))))
      (s_raise (n := "InvalidNumber") (fs := ["number"]) T.o_InvalidNumber (nf_InvalidNumber T) (by decide) rfl (s_cons (s_var 0) s_nil))
      s_next)⟩
@[irreducible] noncomputable def m_check_row : En → O :=
  (mIfS (mNot (mTru (mCall none false true 1 1 m_is_row (mCons (mVar 0) mNil))))
  (mRaise "InvalidRow" ["index"] (mCons (mC (.int 0)) mNil))
  mNext)
theorem G_check_row (T : TX K mg) : FnOk P w K mg base CX0 3 T.a_check_row T.d_check_row p_check_row (spM T.c false 1 n_check_row m_check_row) := by
  have G_is_row := G_is_row (P := P) (w := w) (base := base) T
  refine fn_nox T.F_check_row sc_check_row fun cdv A outer s H E hr => ?_
  unfold m_check_row
  exact ⟨_, (pss_one (ps_if (pt_not (k_truth (K := K) rfl (pe_call G_is_row (hr.mono (by decide)) (by rfl) T.m_is_row T.k_is_row T.b_is_row .nil pass0 (pa_cons (pv 0) pa_nil))))
      (pss_one ps_never)
      pss_nil)),
    (s_if (s_not (s_tru (s_call (io := none) (len := false) (nr := true) (k := 1) (N := n_is_row) (m := m_is_row) (.inr ⟨rfl, .inl rfl⟩) (s_cons (s_var 0) s_nil))))
      s_never
      s_next)⟩
theorem GX_check_row (T : TX K mg) : FnOk P w K mg base (L2.CX P w) 3 T.a_check_row T.d_check_row p_check_row (spM T.c true 1 n_check_row m_check_row) := by
  have G_is_row := G_is_row (P := P) (w := w) (base := base) T
  have G_InvalidRow_init := G_InvalidRow_init (P := P) (w := w) (base := base) T
  refine fn_x T.F_check_row sc_check_row fun cdv A outer s H E hr => ?_
  unfold m_check_row
  exact ⟨_, (pss_one (ps_if (pt_not (k_truth (K := K) rfl (pe_call G_is_row (hr.mono (by decide)) (by rfl) T.m_is_row T.k_is_row T.b_is_row .nil pass0 (pa_cons (pv 0) pa_nil))))
      (pss_one (ps_raise rfl (takes_of rfl rfl rfl rfl) (pmk_oex T.o_InvalidRow T.i_InvalidRow T.t_InvalidRow G_InvalidRow_init (hr.mono (by decide)) T.b_InvalidRow_init .nil pass0 (by rfl) T.m_InvalidRow (pa_cons pe_int pa_nil))))
      pss_nil)),
    (s_if (s_not (s_tru (s_call (io := none) (len := false) (nr := true) (k := 1) (N := n_is_row) (m := m_is_row) (.inr ⟨rfl, .inl rfl⟩) (s_cons (s_var 0) s_nil))))
      (s_raise (n := "InvalidRow") (fs := ["index"]) T.o_InvalidRow (nf_InvalidRow T) (by decide) rfl (s_cons (s_int 0) s_nil))
      s_next)⟩
@[irreducible] noncomputable def m_least_blocks : En → O :=
  (mSeq (mDrop (mCall none false false 1 1 m_check_row (mCons (mVar 0) mNil)))
  (mRet (mCall none false true 1 1 m_block_count (mCons (mVar 0) mNil))))
theorem G_least_blocks (T : TX K mg) : FnOk P w K mg base CX0 4 T.a_least_blocks T.d_least_blocks p_least_blocks (spM T.c false 1 n_least_blocks m_least_blocks) := by
  have G_check_row := G_check_row (P := P) (w := w) (base := base) T
  have G_block_count := G_block_count (P := P) (w := w) (base := base) T
  refine fn_nox T.F_least_blocks sc_least_blocks fun cdv A outer s H E hr => ?_
  unfold m_least_blocks
  exact ⟨_, (pss_cons (ps_expr (pe_call G_check_row (hr.mono (by decide)) (by rfl) T.m_check_row T.k_check_row T.b_check_row .nil pass0 (pa_cons (pv 0) pa_nil)))
      (pss_one (ps_ret (pe_call G_block_count (hr.mono (by decide)) (by rfl) T.m_block_count T.k_block_count T.b_block_count .nil pass0 (pa_cons (pv 0) pa_nil))))),
    (s_seq (s_drop (s_call (io := none) (len := false) (nr := false) (k := 1) (N := n_check_row) (m := m_check_row) (.inr ⟨rfl, .inr rfl⟩) (s_cons (s_var 0) s_nil)))
      (s_ret (s_call (io := none) (len := false) (nr := true) (k := 1) (N := n_block_count) (m := m_block_count) (.inr ⟨rfl, .inl rfl⟩) (s_cons (s_var 0) s_nil))))⟩
theorem GX_least_blocks (T : TX K mg) : FnOk P w K mg base (L2.CX P w) 4 T.a_least_blocks T.d_least_blocks p_least_blocks (spM T.c true 1 n_least_blocks m_least_blocks) := by
  have GX_check_row := GX_check_row (P := P) (w := w) (base := base) T
  have G_block_count := G_block_count (P := P) (w := w) (base := base) T
  refine fn_x T.F_least_blocks sc_least_blocks fun cdv A outer s H E hr => ?_
  unfold m_least_blocks
  exact ⟨_, (pss_cons (ps_expr (pe_call GX_check_row (hr.mono (by decide)) (by rfl) T.m_check_row T.k_check_row T.b_check_row .nil (passes_call (takes_of rfl rfl rfl rfl) (fun _ _ _ _ h => h)) (pa_cons (pv 0) pa_nil)))
      (pss_one (ps_ret (pe_call G_block_count (hr.mono (by decide)) (by rfl) T.m_block_count T.k_block_count T.b_block_count .nil pass0 (pa_cons (pv 0) pa_nil))))),
    (s_seq (s_drop (s_call (io := none) (len := false) (nr := false) (k := 1) (N := n_check_row) (m := m_check_row) (.inl ⟨rfl, rfl⟩) (s_cons (s_var 0) s_nil)))
      (s_ret (s_call (io := none) (len := false) (nr := true) (k := 1) (N := n_block_count) (m := m_block_count) (.inr ⟨rfl, .inl rfl⟩) (s_cons (s_var 0) s_nil))))⟩
@[irreducible] noncomputable def m_cut_count : En → O :=
  (mSeq (mDrop (mCall none false false 1 1 m_check_row (mCons (mVar 0) mNil)))
  (mSeq (mDrop (mCall none false false 3 3 m_check_number (mCons (mVar 1) (mCons (mC (.int 0)) (mCons (mC .non) mNil)))))
  (mSeq (mSet 2 (mCall none false true 1 1 m_block_count (mCons (mVar 0) mNil)))
  (mRet (mCall none false true 2 2 m_choose (mCons (mOp fSub (mCB fLenB (mCons (mVar 0) mNil)) (mVar 2)) (mCons (mOp fSub (mVar 1) (mVar 2)) mNil)))))))
theorem G_cut_count (T : TX K mg) : FnOk P w K mg base CX0 4 T.a_cut_count T.d_cut_count p_cut_count (spM T.c false 2 n_cut_count m_cut_count) := by
  have G_check_row := G_check_row (P := P) (w := w) (base := base) T
  have G_check_number := G_check_number (P := P) (w := w) (base := base) T
  have G_block_count := G_block_count (P := P) (w := w) (base := base) T
  have G_choose := G_choose (P := P) (w := w) (base := base) T
  refine fn_nox T.F_cut_count sc_cut_count fun cdv A outer s H E hr => ?_
  unfold m_cut_count
  exact ⟨_, (pss_cons (ps_expr (pe_call G_check_row (hr.mono (by decide)) (by rfl) T.m_check_row T.k_check_row T.b_check_row .nil pass0 (pa_cons (pv 0) pa_nil)))
      (pss_cons (ps_expr (pe_call G_check_number (hr.mono (by decide)) (by rfl) T.m_check_number T.k_check_number T.b_check_number .nil pass0 (pa_cons (pv 1) (pa_cons pe_int (pa_cons pe_non pa_nil)))))
      (pss_cons (ps_set (i := 2) sc_cut_count.nd rfl (Or.inl rfl) (pe_call G_block_count (hr.mono (by decide)) (by rfl) T.m_block_count T.k_block_count T.b_block_count .nil pass0 (pa_cons (pv 0) pa_nil)))
      (pss_one (ps_ret (pe_call G_choose (hr.mono (by decide)) (by rfl) T.m_choose T.k_choose T.b_choose .nil pass0 (pa_cons (pe_op k_sub (pe_callB (k_len2 (K := K) rfl) (by rfl) T.m_len PySem.boot_len (pa_cons (pv 0) pa_nil)) (pv 2)) (pa_cons (pe_op k_sub (pv 1) (pv 2)) pa_nil)))))))),
    (s_seq (s_drop (s_call (io := none) (len := false) (nr := false) (k := 1) (N := n_check_row) (m := m_check_row) (.inr ⟨rfl, .inr rfl⟩) (s_cons (s_var 0) s_nil)))
      (s_seq (s_drop (s_call (io := none) (len := false) (nr := false) (k := 3) (N := n_check_number) (m := m_check_number) (.inr ⟨rfl, .inr rfl⟩) (s_cons (s_var 1) (s_cons (s_int 0) (s_cons s_non s_nil)))))
      (s_seq (s_set 2 (s_call (io := none) (len := false) (nr := true) (k := 1) (N := n_block_count) (m := m_block_count) (.inr ⟨rfl, .inl rfl⟩) (s_cons (s_var 0) s_nil)))
      (s_ret (s_call (io := none) (len := false) (nr := true) (k := 2) (N := n_choose) (m := m_choose) (.inr ⟨rfl, .inl rfl⟩) (s_cons (s_op o_subI (s_cb cb_lenB (s_cons (s_var 0) s_nil)) (s_var 2)) (s_cons (s_op o_subI (s_var 1) (s_var 2)) s_nil)))))))⟩
theorem GX_cut_count (T : TX K mg) : FnOk P w K mg base (L2.CX P w) 4 T.a_cut_count T.d_cut_count p_cut_count (spM T.c true 2 n_cut_count m_cut_count) := by
  have GX_check_row := GX_check_row (P := P) (w := w) (base := base) T
  have GX_check_number := GX_check_number (P := P) (w := w) (base := base) T
  have G_block_count := G_block_count (P := P) (w := w) (base := base) T
  have G_choose := G_choose (P := P) (w := w) (base := base) T
  refine fn_x T.F_cut_count sc_cut_count fun cdv A outer s H E hr => ?_
  unfold m_cut_count
  exact ⟨_, (pss_cons (ps_expr (pe_call GX_check_row (hr.mono (by decide)) (by rfl) T.m_check_row T.k_check_row T.b_check_row .nil (passes_call (takes_of rfl rfl rfl rfl) (fun _ _ _ _ h => h)) (pa_cons (pv 0) pa_nil)))
      (pss_cons (ps_expr (pe_call GX_check_number (hr.mono (by decide)) (by rfl) T.m_check_number T.k_check_number T.b_check_number .nil (passes_call (takes_of rfl rfl rfl rfl) (fun _ _ _ _ h => h)) (pa_cons (pv 1) (pa_cons pe_int (pa_cons pe_non pa_nil)))))
      (pss_cons (ps_set (i := 2) sc_cut_count.nd rfl (Or.inl rfl) (pe_call G_block_count (hr.mono (by decide)) (by rfl) T.m_block_count T.k_block_count T.b_block_count .nil pass0 (pa_cons (pv 0) pa_nil)))
      (pss_one (ps_ret (pe_call G_choose (hr.mono (by decide)) (by rfl) T.m_choose T.k_choose T.b_choose .nil pass0 (pa_cons (pe_op k_sub (pe_callB (k_len2 (K := K) rfl) (by rfl) T.m_len PySem.boot_len (pa_cons (pv 0) pa_nil)) (pv 2)) (pa_cons (pe_op k_sub (pv 1) (pv 2)) pa_nil)))))))),
    (s_seq (s_drop (s_call (io := none) (len := false) (nr := false) (k := 1) (N := n_check_row) (m := m_check_row) (.inl ⟨rfl, rfl⟩) (s_cons (s_var 0) s_nil)))
      (s_seq (s_drop (s_call (io := none) (len := false) (nr := false) (k := 3) (N := n_check_number) (m := m_check_number) (.inl ⟨rfl, rfl⟩) (s_cons (s_var 1) (s_cons (s_int 0) (s_cons s_non s_nil)))))
      (s_seq (s_set 2 (s_call (io := none) (len := false) (nr := true) (k := 1) (N := n_block_count) (m := m_block_count) (.inr ⟨rfl, .inl rfl⟩) (s_cons (s_var 0) s_nil)))
      (s_ret (s_call (io := none) (len := false) (nr := true) (k := 2) (N := n_choose) (m := m_choose) (.inr ⟨rfl, .inl rfl⟩) (s_cons (s_op o_subI (s_cb cb_lenB (s_cons (s_var 0) s_nil)) (s_var 2)) (s_cons (s_op o_subI (s_var 1) (s_var 2)) s_nil)))))))⟩
@[irreducible] noncomputable def m__law_counted : En → O :=
  (mSeq (mFor (mRange1 (mCons (mOp fAddA (mCB fLenB (mCons (mVar 0) mNil)) (mC (.int 4))) mNil)) (gN 3)
  (mIfS (mNot (mTru (mCall none false true 2 2 m__law_is_number (mCons (mCall none false false 2 3 m_cut_count (mCons (mVar 0) (mCons (mVar 3) mNil))) (mCons (mOr2 (mOp fIx (mVar 1) (mVar 3)) (mOp fDGet (mVar 1) (mVar 3))) mNil)))))
  (mRet (mC (.bl false)))
  mNext))
  (mSeq (mIfS (mNot (mTru (mCall none false true 2 2 m__law_is_number (mCons (mCall none false false 2 3 m_cut_count (mCons (mVar 0) (mCons (mOp fAddA (mVar 2) (mOp fPow (mC (.int 10)) (mC (.int 31)))) mNil))) (mCons (mC (.int 0)) mNil)))))
  (mRet (mC (.bl false)))
  mNext)
  (mRet (mCall none false true 2 2 m__law_is_number (mCons (mCall none false false 2 3 m_cut_count (mCons (mVar 0) (mCons (mVar 2) mNil))) (mCons (mC (.int 0)) mNil))))))
theorem G__law_counted (T : TX K mg) : FnOk P w K mg base CX0 5 T.a__law_counted T.d__law_counted p__law_counted (spM T.c false 3 n__law_counted m__law_counted) := by
  have G__law_is_number := G__law_is_number (P := P) (w := w) (base := base) T
  have G_cut_count := G_cut_count (P := P) (w := w) (base := base) T
  refine fn_nox T.F__law_counted sc__law_counted fun cdv A outer s H E hr => ?_
  have hu : (A.deeper (envOfC "_law_counted" (defScope s__law_counted) s.heap.objs.size T.a__law_counted cdv)).units + 1 < cLine := by have := hr.units; omega
  unfold m__law_counted
  exact ⟨_, (pss_cons (ps_for PassesOwn.never rfl (pi_range1 (by rfl) T.m_range (pa_cons (pe_op (k_add (K := K) rfl) (pe_callB (k_len2 (K := K) rfl) (by rfl) T.m_len PySem.boot_len (pa_cons (pv 0) pa_nil)) pe_int) pa_nil)) (pg_name (i := 3) sc__law_counted.nd rfl (Or.inl rfl))
      (pss_one (ps_if (pt_not (k_truth (K := K) rfl (pe_call G__law_is_number (hr.mono (by decide)) (by rfl) T.m__law_is_number T.k__law_is_number T.b__law_is_number .nil pass0 (pa_cons (pe_call G_cut_count (hr.mono (by decide)) (by rfl) T.m_cut_count T.k_cut_count T.b_cut_count .nil pass0 (pa_cons (pv 0) (pa_cons (pv 3) pa_nil))) (pa_cons (pe_or2 (pe_ix (k_ix (K := K) rfl) (pv 1) (pv 3) (fun _ _ => rfl)) (pe_dget hu (pv 1) (pv 3) (fun _ _ => rfl))) pa_nil)))))
      (pss_one (ps_ret pe_bl))
      pss_nil)))
      (pss_cons (ps_if (pt_not (k_truth (K := K) rfl (pe_call G__law_is_number (hr.mono (by decide)) (by rfl) T.m__law_is_number T.k__law_is_number T.b__law_is_number .nil pass0 (pa_cons (pe_call G_cut_count (hr.mono (by decide)) (by rfl) T.m_cut_count T.k_cut_count T.b_cut_count .nil pass0 (pa_cons (pv 0) (pa_cons (pe_op (k_add (K := K) rfl) (pv 2) (pe_op k_pow pe_int pe_int)) pa_nil))) (pa_cons pe_int pa_nil)))))
      (pss_one (ps_ret pe_bl))
      pss_nil)
      (pss_one (ps_ret (pe_call G__law_is_number (hr.mono (by decide)) (by rfl) T.m__law_is_number T.k__law_is_number T.b__law_is_number .nil pass0 (pa_cons (pe_call G_cut_count (hr.mono (by decide)) (by rfl) T.m_cut_count T.k_cut_count T.b_cut_count .nil pass0 (pa_cons (pv 0) (pa_cons (pv 2) pa_nil))) (pa_cons pe_int pa_nil))))))),
    (s_seq (s_for (si_range1 (s_cons (s_op o_addA (s_cb cb_lenB (s_cons (s_var 0) s_nil)) (s_int 4)) s_nil)) (sg_name 3)
      (s_if (s_not (s_tru (s_call (io := none) (len := false) (nr := true) (k := 2) (N := n__law_is_number) (m := m__law_is_number) (.inr ⟨rfl, .inl rfl⟩) (s_cons (s_call (io := none) (len := false) (nr := false) (k := 2) (N := n_cut_count) (m := m_cut_count) (.inr ⟨rfl, .inr rfl⟩) (s_cons (s_var 0) (s_cons (s_var 3) s_nil))) (s_cons (s_or2 (s_op o_ix (s_var 1) (s_var 3)) (s_dget (s_var 1) (s_var 3))) s_nil)))))
      (s_ret (s_bl false))
      s_next))
      (s_seq (s_if (s_not (s_tru (s_call (io := none) (len := false) (nr := true) (k := 2) (N := n__law_is_number) (m := m__law_is_number) (.inr ⟨rfl, .inl rfl⟩) (s_cons (s_call (io := none) (len := false) (nr := false) (k := 2) (N := n_cut_count) (m := m_cut_count) (.inr ⟨rfl, .inr rfl⟩) (s_cons (s_var 0) (s_cons (s_op o_addA (s_var 2) (s_op o_powI (s_int 10) (s_int 31))) s_nil))) (s_cons (s_int 0) s_nil)))))
      (s_ret (s_bl false))
      s_next)
      (s_ret (s_call (io := none) (len := false) (nr := true) (k := 2) (N := n__law_is_number) (m := m__law_is_number) (.inr ⟨rfl, .inl rfl⟩) (s_cons (s_call (io := none) (len := false) (nr := false) (k := 2) (N := n_cut_count) (m := m_cut_count) (.inr ⟨rfl, .inr rfl⟩) (s_cons (s_var 0) (s_cons (s_var 2) s_nil))) (s_cons (s_int 0) s_nil))))))⟩
@[irreducible] noncomputable def m_each_cut : En → O :=
  mGen ["InvalidNumber", "InvalidRow"]
  (mSeq (mIfS (mTest (mOp fEqA (mCall none false false 2 3 m_cut_count (mCons (mVar 0) (mCons (mVar 1) mNil))) (mC (.int 0))))
  mRetN
  mNext)
  (mSeq (mSet 2 (mLc (mRange2 (mCons (mC (.int 1)) (mCons (mCB fLenB (mCons (mVar 0) mNil)) mNil))) (gN 5) (mTest (mOp fEqA (mOr2 (mOp fIx (mVar 0) (mVar 5)) (mOp fDGet (mVar 0) (mVar 5))) (mC (.str "l")))) (mVar 5) [5]))
  (mSeq (mSet 3 (mLc (mRange2 (mCons (mC (.int 1)) (mCons (mCB fLenB (mCons (mVar 0) mNil)) mNil))) (gN 5) (mTest (mOp fEqA (mOr2 (mOp fIx (mVar 0) (mVar 5)) (mOp fDGet (mVar 0) (mVar 5))) (mC (.str "h")))) (mVar 5) [5]))
  (mSet 4 (mUn fRgL1 (mOp fSub (mVar 1) (mCall none false true 1 1 m_block_count (mCons (mVar 0) mNil))))))))
  (mTest (mOp fNotN (mVar 4) (mC .non)))
  (mCall none false true 2 5 m_cut_at (mCons (mVar 0) (mCons (mCB fSorted (mCons (mOp fAddA (mVar 2) (mLc (mSeqI (mVar 4)) (gN 6) mYes (mOp fIx (mVar 3) (mVar 6)) [6])) mNil)) mNil)))
  (mSet 4 (mCall none false true 2 5 m_next_choice (mCons (mVar 4) (mCons (mCB fLenB (mCons (mVar 3) mNil)) mNil)))) 1000
theorem GZ_each_cut (T : TX K mg) : ZFn P w K mg base 5 T.a_each_cut T.d_each_cut p_each_cut (spM T.c true 2 n_each_cut m_each_cut) := by
  have GX_cut_count := GX_cut_count (P := P) (w := w) (base := base) T
  have G_block_count := G_block_count (P := P) (w := w) (base := base) T
  have G_cut_at := G_cut_at (P := P) (w := w) (base := base) T
  have G_next_choice := G_next_choice (P := P) (w := w) (base := base) T
  unfold m_each_cut
  refine gen_fn (k := 4) (pre := (defBody s_each_cut).dropLast) T.F_each_cut sc_each_cut rfl (List.forall_mem_cons.mpr ⟨T.ns_InvalidNumber, (List.forall_mem_cons.mpr ⟨T.ns_InvalidRow, (fun _ h => nomatch h)⟩)⟩) (fun cdv A outer s H E pn hr tk => ?_) (fun cdv A outer s H hr => ⟨rfl, fun pn => ?_⟩)
  · have hu : (A.deeper (envOfC "each_cut" (defScope s_each_cut) s.heap.objs.size T.a_each_cut cdv)).units + 1 < cLine := by have := hr.units; omega
    exact ⟨_, (pss_cons (ps_if (pt_cmpR (k_eq (K := K) rfl hr.units) (pe_call GX_cut_count (hr.mono (by decide)) (by rfl) T.m_cut_count T.k_cut_count T.b_cut_count .nil (passes_call tk (fun _ _ _ _ h => h)) (pa_cons (pv 0) (pa_cons (pv 1) pa_nil))) pe_int (nomark _))
      (pss_one ps_retN)
      pss_nil)
      (pss_cons (ps_setLc (i := 2) (own := [("place", 5)]) (g := gName 5) (by rfl) sc_each_cut.nd rfl rfl (sw_true rfl rfl rfl (by decide +kernel)) (pi_range2 (by rfl) T.m_range (pa_cons pe_int (pa_cons (pe_callB (k_len2 (K := K) rfl) (by rfl) T.m_len PySem.boot_len (pa_cons (pv 0) pa_nil)) pa_nil))) (blkOk_by (own := [("place", 5)]) (N := n_each_cut) (sc := defScope s_each_cut) (by decide +kernel)) (fun _ _ _ _ _ => (pg_name (i := 5) sc_each_cut.nd rfl (Or.inl rfl))) (fun _ _ _ _ _ => pts_one (pt_cmpR (k_eq (K := K) rfl hr.units) (pe_or2 (pe_ix (k_ix (K := K) rfl) (pv 0) (pv 5) (fun _ _ => rfl)) (pe_dget hu (pv 0) (pv 5) (fun _ _ => rfl))) pe_str (nomark _))) (fun _ _ _ _ _ => (pv 5)))
      (pss_cons (ps_set (i := 3) sc_each_cut.nd rfl (Or.inr rfl) (pe_lc (own := [("place", 5)]) (g := gName 5) (by rfl) sc_each_cut.nd (pi_range2 (by rfl) T.m_range (pa_cons pe_int (pa_cons (pe_callB (k_len2 (K := K) rfl) (by rfl) T.m_len PySem.boot_len (pa_cons (pv 0) pa_nil)) pa_nil))) (blkOk_by (own := [("place", 5)]) (N := n_each_cut) (sc := defScope s_each_cut) (by decide +kernel)) (fun _ _ _ _ _ => (pg_name (i := 5) sc_each_cut.nd rfl (Or.inl rfl))) (fun _ _ _ _ _ => pts_one (pt_cmpR (k_eq (K := K) rfl hr.units) (pe_or2 (pe_ix (k_ix (K := K) rfl) (pv 0) (pv 5) (fun _ _ => rfl)) (pe_dget hu (pv 0) (pv 5) (fun _ _ => rfl))) pe_str (nomark _))) (fun _ _ _ _ _ => (pv 5))))
      (pss_one (ps_set (i := 4) sc_each_cut.nd rfl (Or.inl rfl) (k_rgL1 rfl (by rfl) T.m_list (by rfl) T.m_range (pe_op k_sub (pv 1) (pe_call G_block_count (hr.mono (by decide)) (by rfl) T.m_block_count T.k_block_count T.b_block_count .nil pass0 (pa_cons (pv 0) pa_nil))))))))),
    (s_seq (s_if (s_test (s_op o_eqA (s_call (io := none) (len := false) (nr := false) (k := 2) (N := n_cut_count) (m := m_cut_count) (.inl ⟨rfl, rfl⟩) (s_cons (s_var 0) (s_cons (s_var 1) s_nil))) (s_int 0)))
      s_retN
      s_next)
      (s_seq (s_set 2 (s_lc (vs := [5]) (si_range2 (s_cons (s_int 1) (s_cons (s_cb cb_lenB (s_cons (s_var 0) s_nil)) s_nil))) (sg_name 5) (by decide) (s_test (s_op o_eqA (s_or2 (s_op o_ix (s_var 0) (s_var 5)) (s_dget (s_var 0) (s_var 5))) (s_str "l"))) (s_var 5)))
      (s_seq (s_set 3 (s_lc (vs := [5]) (si_range2 (s_cons (s_int 1) (s_cons (s_cb cb_lenB (s_cons (s_var 0) s_nil)) s_nil))) (sg_name 5) (by decide) (s_test (s_op o_eqA (s_or2 (s_op o_ix (s_var 0) (s_var 5)) (s_dget (s_var 0) (s_var 5))) (s_str "h"))) (s_var 5)))
      (s_set 4 (s_un u_rgL1 (s_op o_subI (s_var 1) (s_call (io := none) (len := false) (nr := true) (k := 1) (N := n_block_count) (m := m_block_count) (.inr ⟨rfl, .inl rfl⟩) (s_cons (s_var 0) s_nil))))))))⟩
  · have hu : (A.deeper (envOfC "each_cut" (defScope s_each_cut) s.heap.objs.size T.a_each_cut cdv)).units + 1 < cLine := by have := hr.units; omega
    exact ⟨_, _, _, (pt_cmpR k_notN (pv 4) pe_non (nomark _)),
    (pe_call G_cut_at (hr.mono (by decide)) (by rfl) T.m_cut_at T.k_cut_at T.b_cut_at .nil pass0 (pa_cons (pv 0) (pa_cons (pe_callB (k_sorted (K := K) rfl) (by rfl) T.m_sorted (by decide +kernel) (pa_cons (pe_op (k_add (K := K) rfl) (pv 2) (pe_lc (own := [("number", 6)]) (g := gName 6) (by rfl) sc_each_cut.nd (k_iter (K := K) rfl (pv 4)) (blkOk_by (own := [("number", 6)]) (N := n_each_cut) (sc := defScope s_each_cut) (by decide +kernel)) (fun _ _ _ _ _ => (pg_name (i := 6) sc_each_cut.nd rfl (Or.inl rfl))) (fun _ _ _ _ _ => pts_nil) (fun _ _ _ _ _ => (pe_ix (k_ix (K := K) rfl) (pv 3) (pv 6) (fun _ _ => rfl))))) pa_nil)) pa_nil))),
    (pss_one (ps_set (i := 4) sc_each_cut.nd rfl (Or.inl rfl) (pe_call G_next_choice (hr.mono (by decide)) (by rfl) T.m_next_choice T.k_next_choice T.b_next_choice .nil pass0 (pa_cons (pv 4) (pa_cons (pe_callB (k_len2 (K := K) rfl) (by rfl) T.m_len PySem.boot_len (pa_cons (pv 3) pa_nil)) pa_nil))))),
    (s_test (s_op o_notNI (s_var 4) s_non)),
    (s_call (io := none) (len := false) (nr := true) (k := 2) (N := n_cut_at) (m := m_cut_at) (.inr ⟨rfl, .inl rfl⟩) (s_cons (s_var 0) (s_cons (s_cb cb_sorted (s_cons (s_op o_addA (s_var 2) (s_lc (vs := [6]) (si_seq (s_var 4)) (sg_name 6) (by decide) s_yes (s_op o_ix (s_var 3) (s_var 6)))) s_nil)) s_nil))),
    (s_set 4 (s_call (io := none) (len := false) (nr := true) (k := 2) (N := n_next_choice) (m := m_next_choice) (.inr ⟨rfl, .inl rfl⟩) (s_cons (s_var 4) (s_cons (s_cb cb_lenB (s_cons (s_var 3) s_nil)) s_nil))))⟩
@[irreducible] noncomputable def m__law_listed : En → O :=
  (mSeq (mSet 3 (mSave [5] (mLc (mRange1 (mCons (mOp fAddA (mCB fLenB (mCons (mVar 0) mNil)) (mC (.int 3))) mNil)) (gN 5) mYes (mVar 5) [5])))
  (mSeq (mIfS (mTest (mOp fGt (mCB fLenB (mCons (mVar 0) mNil)) (mC (.int 10))))
  (mSeq (mSet 4 (mOp fSub (mCB fLenB (mCons (mVar 0) mNil)) (mVar 2)))
  (mSeq (mSet 3 (mLst (mCons (mC (.int 0)) (mCons (mOp fSub (mVar 2) (mC (.int 1))) (mCons (mVar 2) (mCons (mOp fAddA (mVar 2) (mOp fDiv (mVar 4) (mC (.int 2)))) (mCons (mCB fLenB (mCons (mVar 0) mNil)) (mCons (mOp fAddA (mCB fLenB (mCons (mVar 0) mNil)) (mC (.int 1))) mNil))))))))
  (mIfS (mTest (mOp fGt (mVar 4) (mC (.int 9))))
  (mSet 3 (mLst (mCons (mOp fSub (mVar 2) (mC (.int 1))) (mCons (mVar 2) (mCons (mCB fLenB (mCons (mVar 0) mNil)) (mCons (mOp fAddA (mCB fLenB (mCons (mVar 0) mNil)) (mC (.int 1))) mNil))))))
  mNext)))
  mNext)
  (mSeq (mFor (mSeqI (mVar 3)) (gN 5)
  (mSeq (mSet 6 (mCall none false false 2 7 m_each_cut (mCons (mVar 0) (mCons (mVar 5) mNil))))
  (mIfS (mNot (mTru (mCall none false true 4 8 m__law_is_listing (mCons (mVar 6) (mCons (mVar 0) (mCons (mVar 5) (mCons (mOr2 (mOp fIx (mVar 1) (mVar 5)) (mOp fDGet (mVar 1) (mVar 5))) mNil)))))))
  (mRet (mC (.bl false)))
  mNext)))
  (mRet (mC (.bl true))))))
theorem G__law_listed (T : TX K mg) : FnOk P w K mg base CX0 7 T.a__law_listed T.d__law_listed p__law_listed (spM T.c false 3 n__law_listed m__law_listed) := by
  have GZ_each_cut := GZ_each_cut (P := P) (w := w) (base := base) T
  have G__law_is_listing := G__law_is_listing (P := P) (w := w) (base := base) T
  refine fn_nox T.F__law_listed sc__law_listed fun cdv A outer s H E hr => ?_
  have hu : (A.deeper (envOfC "_law_listed" (defScope s__law_listed) s.heap.objs.size T.a__law_listed cdv)).units + 1 < cLine := by have := hr.units; omega
  unfold m__law_listed
  exact ⟨_, (pss_cons (ps_setLc (i := 3) (own := [("blocks", 5)]) (g := gName 5) (by rfl) sc__law_listed.nd rfl rfl (sw_true rfl rfl rfl (by decide +kernel)) (pi_range1 (by rfl) T.m_range (pa_cons (pe_op (k_add (K := K) rfl) (pe_callB (k_len2 (K := K) rfl) (by rfl) T.m_len PySem.boot_len (pa_cons (pv 0) pa_nil)) pe_int) pa_nil)) (blkOk_by (own := [("blocks", 5)]) (N := n__law_listed) (sc := defScope s__law_listed) (by decide +kernel)) (fun _ _ _ _ _ => (pg_name (i := 5) sc__law_listed.nd rfl (Or.inl rfl))) (fun _ _ _ _ _ => pts_nil) (fun _ _ _ _ _ => (pv 5)))
      (pss_cons (ps_if (pt_cmpR k_gt (pe_callB (k_len2 (K := K) rfl) (by rfl) T.m_len PySem.boot_len (pa_cons (pv 0) pa_nil)) pe_int (nomark _))
      (pss_cons (ps_set (i := 4) sc__law_listed.nd rfl (Or.inl rfl) (pe_op k_sub (pe_callB (k_len2 (K := K) rfl) (by rfl) T.m_len PySem.boot_len (pa_cons (pv 0) pa_nil)) (pv 2)))
      (pss_cons (ps_set (i := 3) sc__law_listed.nd rfl (Or.inl rfl) (pe_lst (pa_cons pe_int (pa_cons (pe_op k_sub (pv 2) pe_int) (pa_cons (pv 2) (pa_cons (pe_op (k_add (K := K) rfl) (pv 2) (pe_op k_div (pv 4) pe_int)) (pa_cons (pe_callB (k_len2 (K := K) rfl) (by rfl) T.m_len PySem.boot_len (pa_cons (pv 0) pa_nil)) (pa_cons (pe_op (k_add (K := K) rfl) (pe_callB (k_len2 (K := K) rfl) (by rfl) T.m_len PySem.boot_len (pa_cons (pv 0) pa_nil)) pe_int) pa_nil))))))))
      (pss_one (ps_if (pt_cmpR k_gt (pv 4) pe_int (nomark _))
      (pss_one (ps_set (i := 3) sc__law_listed.nd rfl (Or.inl rfl) (pe_lst (pa_cons (pe_op k_sub (pv 2) pe_int) (pa_cons (pv 2) (pa_cons (pe_callB (k_len2 (K := K) rfl) (by rfl) T.m_len PySem.boot_len (pa_cons (pv 0) pa_nil)) (pa_cons (pe_op (k_add (K := K) rfl) (pe_callB (k_len2 (K := K) rfl) (by rfl) T.m_len PySem.boot_len (pa_cons (pv 0) pa_nil)) pe_int) pa_nil)))))))
      pss_nil))))
      pss_nil)
      (pss_cons (ps_for PassesOwn.never rfl (k_iter (K := K) rfl (pv 3)) (pg_name (i := 5) sc__law_listed.nd rfl (Or.inl rfl))
      (pss_cons (ps_setCompZ (i := 6) sc__law_listed.nd rfl rfl (sw_true rfl rfl rfl (by decide +kernel)) (pz_call (E := fun _ _ _ => False) (zfn_false GZ_each_cut) (hr.mono (by decide)) (by rfl) T.m_each_cut T.k_each_cut T.b_each_cut .nil (pa_cons (pv 0) (pa_cons (pv 5) pa_nil))) (hr.mono (by decide)) comp_pass0 (blkOk_by (own := [("cut", 7)]) (N := n__law_listed) (sc := defScope s__law_listed) (by decide +kernel)) (by decide) rfl)
      (pss_one (ps_if (pt_not (k_truth (K := K) rfl (pe_call G__law_is_listing (hr.mono (by decide)) (by rfl) T.m__law_is_listing T.k__law_is_listing T.b__law_is_listing .nil pass0 (pa_cons (pv 6) (pa_cons (pv 0) (pa_cons (pv 5) (pa_cons (pe_or2 (pe_ix (k_ix (K := K) rfl) (pv 1) (pv 5) (fun _ _ => rfl)) (pe_dget hu (pv 1) (pv 5) (fun _ _ => rfl))) pa_nil)))))))
      (pss_one (ps_ret pe_bl))
      pss_nil))))
      (pss_one (ps_ret pe_bl))))),
    (s_seq (s_set 3 (s_save (vs := [5]) (s_lc (vs := [5]) (si_range1 (s_cons (s_op o_addA (s_cb cb_lenB (s_cons (s_var 0) s_nil)) (s_int 3)) s_nil)) (sg_name 5) (by decide) s_yes (s_var 5))))
      (s_seq (s_if (s_test (s_op o_gtI (s_cb cb_lenB (s_cons (s_var 0) s_nil)) (s_int 10)))
      (s_seq (s_set 4 (s_op o_subI (s_cb cb_lenB (s_cons (s_var 0) s_nil)) (s_var 2)))
      (s_seq (s_set 3 (s_lst (s_cons (s_int 0) (s_cons (s_op o_subI (s_var 2) (s_int 1)) (s_cons (s_var 2) (s_cons (s_op o_addA (s_var 2) (s_op o_divI (s_var 4) (s_int 2))) (s_cons (s_cb cb_lenB (s_cons (s_var 0) s_nil)) (s_cons (s_op o_addA (s_cb cb_lenB (s_cons (s_var 0) s_nil)) (s_int 1)) s_nil))))))))
      (s_if (s_test (s_op o_gtI (s_var 4) (s_int 9)))
      (s_set 3 (s_lst (s_cons (s_op o_subI (s_var 2) (s_int 1)) (s_cons (s_var 2) (s_cons (s_cb cb_lenB (s_cons (s_var 0) s_nil)) (s_cons (s_op o_addA (s_cb cb_lenB (s_cons (s_var 0) s_nil)) (s_int 1)) s_nil))))))
      s_next)))
      s_next)
      (s_seq (s_for (si_seq (s_var 3)) (sg_name 5)
      (s_seq (s_set 6 (s_call (io := none) (len := false) (nr := false) (k := 2) (N := n_each_cut) (m := m_each_cut) (.inr ⟨rfl, .inr rfl⟩) (s_cons (s_var 0) (s_cons (s_var 5) s_nil))))
      (s_if (s_not (s_tru (s_call (io := none) (len := false) (nr := true) (k := 4) (N := n__law_is_listing) (m := m__law_is_listing) (.inr ⟨rfl, .inl rfl⟩) (s_cons (s_var 6) (s_cons (s_var 0) (s_cons (s_var 5) (s_cons (s_or2 (s_op o_ix (s_var 1) (s_var 5)) (s_dget (s_var 1) (s_var 5))) s_nil)))))))
      (s_ret (s_bl false))
      s_next)))
      (s_ret (s_bl true)))))⟩
@[irreducible] noncomputable def m__law_ask : En → O :=
  (mSeq (mIfS (mTest (mOp fEqA (mVar 0) (mC (.int 0))))
  (mRet (mLst (mCons (mCall none false false 1 1 m_least_blocks (mCons (mVar 1) mNil)) mNil)))
  mNext)
  (mSeq (mIfS (mTest (mOp fEqA (mVar 0) (mC (.int 1))))
  (mRet (mLst (mCons (mCall none false false 2 3 m_cut_count (mCons (mVar 1) (mCons (mVar 2) mNil))) mNil)))
  mNext)
  (mRet (mCall none false false 2 7 m_each_cut (mCons (mVar 1) (mCons (mVar 2) mNil))))))
theorem GX__law_ask (T : TX K mg) : FnOk P w K mg base (L2.CX P w) 7 T.a__law_ask T.d__law_ask p__law_ask (spM T.c true 3 n__law_ask m__law_ask) := by
  have GX_least_blocks := GX_least_blocks (P := P) (w := w) (base := base) T
  have GX_cut_count := GX_cut_count (P := P) (w := w) (base := base) T
  have GZ_each_cut := GZ_each_cut (P := P) (w := w) (base := base) T
  refine fn_x T.F__law_ask sc__law_ask fun cdv A outer s H E hr => ?_
  unfold m__law_ask
  exact ⟨_, (pss_cons (ps_if (pt_cmpR (k_eq (K := K) rfl hr.units) (pv 0) pe_int (nomark _))
      (pss_one (ps_ret (pe_lst (pa_cons (pe_call GX_least_blocks (hr.mono (by decide)) (by rfl) T.m_least_blocks T.k_least_blocks T.b_least_blocks .nil (passes_call (takes_of rfl rfl rfl rfl) (fun _ _ _ _ h => h)) (pa_cons (pv 1) pa_nil)) pa_nil))))
      pss_nil)
      (pss_cons (ps_if (pt_cmpR (k_eq (K := K) rfl hr.units) (pv 0) pe_int (nomark _))
      (pss_one (ps_ret (pe_lst (pa_cons (pe_call GX_cut_count (hr.mono (by decide)) (by rfl) T.m_cut_count T.k_cut_count T.b_cut_count .nil (passes_call (takes_of rfl rfl rfl rfl) (fun _ _ _ _ h => h)) (pa_cons (pv 1) (pa_cons (pv 2) pa_nil))) pa_nil))))
      pss_nil)
      (pss_one (ps_ret (pe_compZ (pz_call GZ_each_cut (hr.mono (by decide)) (by rfl) T.m_each_cut T.k_each_cut T.b_each_cut .nil (pa_cons (pv 1) (pa_cons (pv 2) pa_nil))) (hr.mono (by decide)) (comp_pass (takes_of rfl rfl rfl rfl) rfl rfl (fun _ _ _ _ h => h)) (blkOk_by (own := [("cut", 3)]) (N := n__law_ask) (sc := defScope s__law_ask) (by decide +kernel)) (by decide) rfl))))),
    (s_seq (s_if (s_test (s_op o_eqA (s_var 0) (s_int 0)))
      (s_ret (s_lst (s_cons (s_call (io := none) (len := false) (nr := false) (k := 1) (N := n_least_blocks) (m := m_least_blocks) (.inl ⟨rfl, rfl⟩) (s_cons (s_var 1) s_nil)) s_nil)))
      s_next)
      (s_seq (s_if (s_test (s_op o_eqA (s_var 0) (s_int 1)))
      (s_ret (s_lst (s_cons (s_call (io := none) (len := false) (nr := false) (k := 2) (N := n_cut_count) (m := m_cut_count) (.inl ⟨rfl, rfl⟩) (s_cons (s_var 1) (s_cons (s_var 2) s_nil))) s_nil)))
      s_next)
      (s_ret (s_call (io := none) (len := false) (nr := false) (k := 2) (N := n_each_cut) (m := m_each_cut) (.inl ⟨rfl, rfl⟩) (s_cons (s_var 1) (s_cons (s_var 2) s_nil))))))⟩
@[irreducible] noncomputable def m__law_refusal : En → O :=
  (mSeq (mTry 3 tb_CacheError (mDrop (mCall none false false 3 4 m__law_ask (mCons (mVar 0) (mCons (mVar 1) (mCons (mVar 2) mNil)))))
  (fun x => (mSeq (mSet 4 (mLst (mCons (mIsE 3 x tb_InvalidRow) (mCons (mIsE 3 x tb_InvalidNumber) (mCons (mIsE 3 x tb_InvalidFlags) mNil)))))
  (mSeq (mSet 4 (mOp fAddA (mVar 4) (mLst (mCons (mIsE 3 x tb_InvalidLine) (mCons (mIsE 3 x tb_InvalidSlot) (mCons (mIsE 3 x tb_InvalidText) mNil))))))
  (mSeq (mSet 4 (mOp fAddA (mVar 4) (mLst (mCons (mIsE 3 x tb_Refused) (mCons (mIsE 3 x tb_TooMany) mNil)))))
  (mSeq (mIfS (mOr (mNot (mTru (mIsE 3 x tb_ValueError))) (mTest (mOp fNeA (mRd "list" fCntL (mVar 4) (mCons (mC (.bl true)) mNil)) (mC (.int 1)))))
  (mRet (mTup (mCons (mC (.str "several classes")) (mCons (mC (.int 0)) mNil))))
  mNext)
  (mSeq (mIfS (mTru (mOp fIx (mVar 4) (mC (.int 0))))
  (mRet (mTup (mCons (mC (.str "row")) (mCons (mXf 3 "InvalidRow" x "index") mNil))))
  mNext)
  (mSeq (mIfS (mTru (mOp fIx (mVar 4) (mC (.int 1))))
  (mRet (mTup (mCons (mC (.str "number")) (mCons (mXf 3 "InvalidNumber" x "number") mNil))))
  mNext)
  (mRet (mTup (mCons (mC (.str "another class")) (mCons (mC (.int 0)) mNil))))))))))))
  (mRet (mTup (mCons (mC (.str "no error")) (mCons (mC (.int 0)) mNil)))))
theorem G__law_refusal (T : TX K mg) : FnOk P w K mg base CX0 8 T.a__law_refusal T.d__law_refusal p__law_refusal (spM T.c false 3 n__law_refusal m__law_refusal) := by
  have GX__law_ask := GX__law_ask (P := P) (w := w) (base := base) T
  refine fn_nox T.F__law_refusal sc__law_refusal fun cdv A outer s H E hr => ?_
  unfold m__law_refusal
  exact ⟨_, (pss_cons (ps_try_as (i := 3)
      rfl rfl sc__law_refusal.nd rfl rfl ⟨rfl, by decide, Or.inl T.m_CacheError⟩ takes0
      (fun W pn xe tk po => (pss_one (ps_expr (pe_callS GX__law_ask (hr.mono (by decide)) (by rfl) T.m__law_ask T.k__law_ask T.b__law_ask (fun σ => passAt tk σ) (pa_cons (pv 0) (pa_cons (pv 1) (pa_cons (pv 2) pa_nil)))))))
      (fun a oe cls d pn hz hf => (pss_cons (ps_set (i := 4) sc__law_refusal.nd rfl (Or.inl rfl) (pe_lst (pa_cons (pe_callB (call_isX hz hf) (by rfl) T.m_isinstance (by decide +kernel) (pa_cons (pv 3) (pa_cons (pe_glob (v := .ref (T.cls "InvalidRow")) (by rfl) T.m_InvalidRow rfl) pa_nil))) (pa_cons (pe_callB (call_isX hz hf) (by rfl) T.m_isinstance (by decide +kernel) (pa_cons (pv 3) (pa_cons (pe_glob (v := .ref (T.cls "InvalidNumber")) (by rfl) T.m_InvalidNumber rfl) pa_nil))) (pa_cons (pe_callB (call_isX hz hf) (by rfl) T.m_isinstance (by decide +kernel) (pa_cons (pv 3) (pa_cons (pe_glob (v := .ref (T.cls "InvalidFlags")) (by rfl) T.m_InvalidFlags rfl) pa_nil))) pa_nil)))))
      (pss_cons (ps_set (i := 4) sc__law_refusal.nd rfl (Or.inl rfl) (pe_op (k_add (K := K) rfl) (pv 4) (pe_lst (pa_cons (pe_callB (call_isX hz hf) (by rfl) T.m_isinstance (by decide +kernel) (pa_cons (pv 3) (pa_cons (pe_glob (v := .ref (T.cls "InvalidLine")) (by rfl) T.m_InvalidLine rfl) pa_nil))) (pa_cons (pe_callB (call_isX hz hf) (by rfl) T.m_isinstance (by decide +kernel) (pa_cons (pv 3) (pa_cons (pe_glob (v := .ref (T.cls "InvalidSlot")) (by rfl) T.m_InvalidSlot rfl) pa_nil))) (pa_cons (pe_callB (call_isX hz hf) (by rfl) T.m_isinstance (by decide +kernel) (pa_cons (pv 3) (pa_cons (pe_glob (v := .ref (T.cls "InvalidText")) (by rfl) T.m_InvalidText rfl) pa_nil))) pa_nil))))))
      (pss_cons (ps_set (i := 4) sc__law_refusal.nd rfl (Or.inl rfl) (pe_op (k_add (K := K) rfl) (pv 4) (pe_lst (pa_cons (pe_callB (call_isX hz hf) (by rfl) T.m_isinstance (by decide +kernel) (pa_cons (pv 3) (pa_cons (pe_glob (v := .ref (T.cls "Refused")) (by rfl) T.m_Refused rfl) pa_nil))) (pa_cons (pe_callB (call_isX hz hf) (by rfl) T.m_isinstance (by decide +kernel) (pa_cons (pv 3) (pa_cons (pe_glob (v := .ref (T.cls "TooMany")) (by rfl) T.m_TooMany rfl) pa_nil))) pa_nil)))))
      (pss_cons (ps_if (PW.pt (pw_or (pt_not (k_truth (K := K) rfl (pe_callB (call_isX hz hf) (by rfl) T.m_isinstance (by decide +kernel) (pa_cons (pv 3) (pa_cons (pe_bltn (v := .ty "ValueError") (by rfl) T.m_ValueError (by decide +kernel) rfl) pa_nil))))) (pw_or1 (pt_cmpR (k_ne (K := K) rfl hr.units) (pe_bmK (K := K) rfl PySem.F.plainAttrs_list PySem.F.slot_list_count PySem.F.type_list_count (k_cntL (K := K) rfl) (pv 4) (pa_cons pe_bl pa_nil)) pe_int (nomark _)))))
      (pss_one (ps_ret (pe_tup (pa_cons pe_str (pa_cons pe_int pa_nil)))))
      pss_nil)
      (pss_cons (ps_if (k_truth (K := K) rfl (pe_ix (k_ix (K := K) rfl) (pv 4) pe_int (fun _ _ => rfl)))
      (pss_one (ps_ret (pe_tup (pa_cons pe_str (pa_cons (pe_xf (X := (cxOf CX0 P w K mg base n__law_refusal "_law_refusal" (defScope s__law_refusal) T.a__law_refusal cdv A outer s H E).nox) (a := a) (pn := pn) (C := T.cls "InvalidRow") T.x_InvalidRow T.n_InvalidRow_index hz hf (pv 3)) pa_nil)))))
      pss_nil)
      (pss_cons (ps_if (k_truth (K := K) rfl (pe_ix (k_ix (K := K) rfl) (pv 4) pe_int (fun _ _ => rfl)))
      (pss_one (ps_ret (pe_tup (pa_cons pe_str (pa_cons (pe_xf (X := (cxOf CX0 P w K mg base n__law_refusal "_law_refusal" (defScope s__law_refusal) T.a__law_refusal cdv A outer s H E).nox) (a := a) (pn := pn) (C := T.cls "InvalidNumber") T.x_InvalidNumber T.n_InvalidNumber_number hz hf (pv 3)) pa_nil)))))
      pss_nil)
      (pss_one (ps_ret (pe_tup (pa_cons pe_str (pa_cons pe_int pa_nil)))))))))))))
      (pss_one (ps_ret (pe_tup (pa_cons pe_str (pa_cons pe_int pa_nil)))))),
    (s_seq (s_try (i := 3) (t := tb_CacheError) (.inl rfl) T.ex_CacheError (fun W => (s_drop (s_callS (io := none) (len := false) (nr := false) (k := 3) (N := n__law_ask) (m := m__law_ask) rfl (s_cons (s_var 0) (s_cons (s_var 1) (s_cons (s_var 2) s_nil))))))
      (fun a cls d x => (s_seq (s_set 4 (s_lst (s_cons (s_isX (i := 3) (vc := (.ref (T.cls "InvalidRow"))) (cv := (.ref (T.cls "InvalidRow"))) (t := tb_InvalidRow) (fun _ h => h) T.is_InvalidRow) (s_cons (s_isX (i := 3) (vc := (.ref (T.cls "InvalidNumber"))) (cv := (.ref (T.cls "InvalidNumber"))) (t := tb_InvalidNumber) (fun _ h => h) T.is_InvalidNumber) (s_cons (s_isX (i := 3) (vc := (.ref (T.cls "InvalidFlags"))) (cv := (.ref (T.cls "InvalidFlags"))) (t := tb_InvalidFlags) (fun _ h => h) T.is_InvalidFlags) s_nil)))))
      (s_seq (s_set 4 (s_op o_addA (s_var 4) (s_lst (s_cons (s_isX (i := 3) (vc := (.ref (T.cls "InvalidLine"))) (cv := (.ref (T.cls "InvalidLine"))) (t := tb_InvalidLine) (fun _ h => h) T.is_InvalidLine) (s_cons (s_isX (i := 3) (vc := (.ref (T.cls "InvalidSlot"))) (cv := (.ref (T.cls "InvalidSlot"))) (t := tb_InvalidSlot) (fun _ h => h) T.is_InvalidSlot) (s_cons (s_isX (i := 3) (vc := (.ref (T.cls "InvalidText"))) (cv := (.ref (T.cls "InvalidText"))) (t := tb_InvalidText) (fun _ h => h) T.is_InvalidText) s_nil))))))
      (s_seq (s_set 4 (s_op o_addA (s_var 4) (s_lst (s_cons (s_isX (i := 3) (vc := (.ref (T.cls "Refused"))) (cv := (.ref (T.cls "Refused"))) (t := tb_Refused) (fun _ h => h) T.is_Refused) (s_cons (s_isX (i := 3) (vc := (.ref (T.cls "TooMany"))) (cv := (.ref (T.cls "TooMany"))) (t := tb_TooMany) (fun _ h => h) T.is_TooMany) s_nil)))))
      (s_seq (s_if (s_or (s_not (s_tru (s_isX (i := 3) (vc := (.ty "ValueError")) (cv := (.type "ValueError")) (t := tb_ValueError) (fun _ h => h) T.is_ValueError))) (s_test (s_op o_neA (s_rd (T := "list") rd_cntL (s_var 4) (s_cons (s_bl true) s_nil)) (s_int 1))))
      (s_ret (s_tup (s_cons (s_str "several classes") (s_cons (s_int 0) s_nil))))
      s_next)
      (s_seq (s_if (s_tru (s_op o_ix (s_var 4) (s_int 0)))
      (s_ret (s_tup (s_cons (s_str "row") (s_cons (s_xf (i := 3) (n := "InvalidRow") (f := "index")) s_nil))))
      s_next)
      (s_seq (s_if (s_tru (s_op o_ix (s_var 4) (s_int 1)))
      (s_ret (s_tup (s_cons (s_str "number") (s_cons (s_xf (i := 3) (n := "InvalidNumber") (f := "number")) s_nil))))
      s_next)
      (s_ret (s_tup (s_cons (s_str "another class") (s_cons (s_int 0) s_nil))))))))))))
      (s_ret (s_tup (s_cons (s_str "no error") (s_cons (s_int 0) s_nil)))))⟩
@[irreducible] noncomputable def m__law_refused : En → O :=
  (mSeq (mSet 2 (mCall (some 0) false true 2 7 m__law_wrong_row (mCons (mVar 0) (mCons (mVar 1) mNil))))
  (mSeq (mSet 3 (mCall (some 0) false true 1 3 m__law_wrong_number (mCons (mVar 0) mNil)))
  (mSeq (mFor (mRange1 (mCons (mC (.int 3)) mNil)) (gN 4)
  (mSeq (mSet 5 (mOp fIx (mLst (mCons (mCB fLenB (mCons (mVar 1) mNil)) (mCons (mVar 3) mNil))) (mCall (some 0) false true 2 4 m__law_take (mCons (mVar 0) (mCons (mC (.int 2)) mNil)))))
  (mSeq (mSet 6 (mCall none false true 3 5 m__law_refusal (mCons (mVar 4) (mCons (mVar 2) (mCons (mVar 5) mNil)))))
  (mSeq (mIfS (mOr (mTest (mOp fNeA (mOp fIx (mVar 6) (mC (.int 0))) (mC (.str "row")))) (mNot (mTru (mCall none false true 2 2 m__law_is_number (mCons (mOp fIx (mVar 6) (mC (.int 1))) (mCons (mC (.int 0)) mNil))))))
  (mRet (mC (.bl false)))
  mNext)
  (mIfS (mTest (mOp fGt (mVar 4) (mC (.int 0))))
  (mSeq (mSet 6 (mCall none false true 3 5 m__law_refusal (mCons (mVar 4) (mCons (mVar 1) (mCons (mVar 3) mNil)))))
  (mIfS (mOr (mTest (mOp fNeA (mOp fIx (mVar 6) (mC (.int 0))) (mC (.str "number")))) (mNot (mTru (mCall none false true 2 2 m__law_same (mCons (mOp fIx (mVar 6) (mC (.int 1))) (mCons (mVar 3) mNil))))))
  (mRet (mC (.bl false)))
  mNext))
  mNext)))))
  (mRet (mC (.bl true))))))
theorem G__law_refused (T : TX K mg) : FnOk P w K mg base CX0 9 T.a__law_refused T.d__law_refused p__law_refused (spM T.c false 2 n__law_refused m__law_refused) := by
  have G__law_wrong_row := G__law_wrong_row (P := P) (w := w) (base := base) T
  have G__law_wrong_number := G__law_wrong_number (P := P) (w := w) (base := base) T
  have G__law_take := G__law_take (P := P) (w := w) (base := base) T
  have G__law_refusal := G__law_refusal (P := P) (w := w) (base := base) T
  have G__law_is_number := G__law_is_number (P := P) (w := w) (base := base) T
  have G__law_same := G__law_same (P := P) (w := w) (base := base) T
  refine fn_nox T.F__law_refused sc__law_refused fun cdv A outer s H E hr => ?_
  unfold m__law_refused
  exact ⟨_, (pss_cons (ps_set (i := 2) sc__law_refused.nd rfl (Or.inl rfl) (pe_call G__law_wrong_row (hr.mono (by decide)) (by rfl) T.m__law_wrong_row T.k__law_wrong_row T.b__law_wrong_row .nil pass0 (pa_cons (pv 0) (pa_cons (pv 1) pa_nil))))
      (pss_cons (ps_set (i := 3) sc__law_refused.nd rfl (Or.inl rfl) (pe_call G__law_wrong_number (hr.mono (by decide)) (by rfl) T.m__law_wrong_number T.k__law_wrong_number T.b__law_wrong_number .nil pass0 (pa_cons (pv 0) pa_nil)))
      (pss_cons (ps_for PassesOwn.never rfl (pi_range1 (by rfl) T.m_range (pa_cons pe_int pa_nil)) (pg_name (i := 4) sc__law_refused.nd rfl (Or.inl rfl))
      (pss_cons (ps_set (i := 5) sc__law_refused.nd rfl (Or.inl rfl) (pe_ix (k_ix (K := K) rfl) (pe_lst (pa_cons (pe_callB (k_len2 (K := K) rfl) (by rfl) T.m_len PySem.boot_len (pa_cons (pv 1) pa_nil)) (pa_cons (pv 3) pa_nil))) (pe_call G__law_take (hr.mono (by decide)) (by rfl) T.m__law_take T.k__law_take T.b__law_take .nil pass0 (pa_cons (pv 0) (pa_cons pe_int pa_nil))) (fun _ _ => rfl)))
      (pss_cons (ps_set (i := 6) sc__law_refused.nd rfl (Or.inl rfl) (pe_call G__law_refusal (hr.mono (by decide)) (by rfl) T.m__law_refusal T.k__law_refusal T.b__law_refusal .nil pass0 (pa_cons (pv 4) (pa_cons (pv 2) (pa_cons (pv 5) pa_nil)))))
      (pss_cons (ps_if (PW.pt (pw_or (pt_cmpR (k_ne (K := K) rfl hr.units) (pe_ix (k_ix (K := K) rfl) (pv 6) pe_int (fun _ _ => rfl)) pe_str (nomark _)) (pw_or1 (pt_not (k_truth (K := K) rfl (pe_call G__law_is_number (hr.mono (by decide)) (by rfl) T.m__law_is_number T.k__law_is_number T.b__law_is_number .nil pass0 (pa_cons (pe_ix (k_ix (K := K) rfl) (pv 6) pe_int (fun _ _ => rfl)) (pa_cons pe_int pa_nil))))))))
      (pss_one (ps_ret pe_bl))
      pss_nil)
      (pss_one (ps_if (pt_cmpR k_gt (pv 4) pe_int (nomark _))
      (pss_cons (ps_set (i := 6) sc__law_refused.nd rfl (Or.inl rfl) (pe_call G__law_refusal (hr.mono (by decide)) (by rfl) T.m__law_refusal T.k__law_refusal T.b__law_refusal .nil pass0 (pa_cons (pv 4) (pa_cons (pv 1) (pa_cons (pv 3) pa_nil)))))
      (pss_one (ps_if (PW.pt (pw_or (pt_cmpR (k_ne (K := K) rfl hr.units) (pe_ix (k_ix (K := K) rfl) (pv 6) pe_int (fun _ _ => rfl)) pe_str (nomark _)) (pw_or1 (pt_not (k_truth (K := K) rfl (pe_call G__law_same (hr.mono (by decide)) (by rfl) T.m__law_same T.k__law_same T.b__law_same .nil pass0 (pa_cons (pe_ix (k_ix (K := K) rfl) (pv 6) pe_int (fun _ _ => rfl)) (pa_cons (pv 3) pa_nil))))))))
      (pss_one (ps_ret pe_bl))
      pss_nil)))
      pss_nil))))))
      (pss_one (ps_ret pe_bl))))),
    (s_seq (s_set 2 (s_call (io := (some 0)) (len := false) (nr := true) (k := 2) (N := n__law_wrong_row) (m := m__law_wrong_row) (.inr ⟨rfl, .inl rfl⟩) (s_cons (s_var 0) (s_cons (s_var 1) s_nil))))
      (s_seq (s_set 3 (s_call (io := (some 0)) (len := false) (nr := true) (k := 1) (N := n__law_wrong_number) (m := m__law_wrong_number) (.inr ⟨rfl, .inl rfl⟩) (s_cons (s_var 0) s_nil)))
      (s_seq (s_for (si_range1 (s_cons (s_int 3) s_nil)) (sg_name 4)
      (s_seq (s_set 5 (s_op o_ix (s_lst (s_cons (s_cb cb_lenB (s_cons (s_var 1) s_nil)) (s_cons (s_var 3) s_nil))) (s_call (io := (some 0)) (len := false) (nr := true) (k := 2) (N := n__law_take) (m := m__law_take) (.inr ⟨rfl, .inl rfl⟩) (s_cons (s_var 0) (s_cons (s_int 2) s_nil)))))
      (s_seq (s_set 6 (s_call (io := none) (len := false) (nr := true) (k := 3) (N := n__law_refusal) (m := m__law_refusal) (.inr ⟨rfl, .inl rfl⟩) (s_cons (s_var 4) (s_cons (s_var 2) (s_cons (s_var 5) s_nil)))))
      (s_seq (s_if (s_or (s_test (s_op o_neA (s_op o_ix (s_var 6) (s_int 0)) (s_str "row"))) (s_not (s_tru (s_call (io := none) (len := false) (nr := true) (k := 2) (N := n__law_is_number) (m := m__law_is_number) (.inr ⟨rfl, .inl rfl⟩) (s_cons (s_op o_ix (s_var 6) (s_int 1)) (s_cons (s_int 0) s_nil))))))
      (s_ret (s_bl false))
      s_next)
      (s_if (s_test (s_op o_gtI (s_var 4) (s_int 0)))
      (s_seq (s_set 6 (s_call (io := none) (len := false) (nr := true) (k := 3) (N := n__law_refusal) (m := m__law_refusal) (.inr ⟨rfl, .inl rfl⟩) (s_cons (s_var 4) (s_cons (s_var 1) (s_cons (s_var 3) s_nil)))))
      (s_if (s_or (s_test (s_op o_neA (s_op o_ix (s_var 6) (s_int 0)) (s_str "number"))) (s_not (s_tru (s_call (io := none) (len := false) (nr := true) (k := 2) (N := n__law_same) (m := m__law_same) (.inr ⟨rfl, .inl rfl⟩) (s_cons (s_op o_ix (s_var 6) (s_int 1)) (s_cons (s_var 3) s_nil))))))
      (s_ret (s_bl false))
      s_next))
      s_next)))))
      (s_ret (s_bl true)))))⟩
@[irreducible] noncomputable def m_law : En → O :=
  (mSeq (mSet 1 (mCall none false true 2 2 m__law_box (mCons (mVar 0) (mCons (mC (.int 0)) mNil))))
  (mSeq (mSet 2 (mCall (some 0) false true 2 4 m__law_take (mCons (mVar 1) (mCons (mC (.int 11)) mNil))))
  (mSeq (mSet 3 (mOp fEqA (mCall (some 0) false true 2 4 m__law_take (mCons (mVar 1) (mCons (mC (.int 8)) mNil))) (mC (.int 0))))
  (mSeq (mIfS (mTru (mVar 3))
  (mSet 2 (mOp fAddA (mC (.int 11)) (mCall (some 0) false true 2 4 m__law_take (mCons (mVar 1) (mCons (mC (.int 50)) mNil)))))
  mNext)
  (mSeq (mSet 4 (mCall (some 0) false true 2 4 m__law_take (mCons (mVar 1) (mCons (mC (.int 9)) mNil))))
  (mSeq (mSet 5 (mCallG 9 (some 0) false true 3 6 m__law_row (mGhostF 9 (mCall none false true 2 2 m__law_box (mCons (mVar 0) (mCons (mC (.int 1)) mNil))) (mCons (mVar 2) (mCons (mVar 4) mNil)))))
  (mSeq (mSet 6 (mCall none false true 1 5 m__law_ways (mCons (mVar 5) mNil)))
  (mSeq (mSet 7 (mCB fMin (mCons (mLc (mRange1 (mCons (mCB fLenB (mCons (mVar 6) mNil)) mNil)) (gN 8) (mTest (mOp fGt (mOr2 (mOp fIx (mVar 6) (mVar 8)) (mOp fDGet (mVar 6) (mVar 8))) (mC (.int 0)))) (mVar 8) [8]) mNil)))
  (mSeq (mIfS (mNot (mTru (mCall none false true 2 2 m__law_is_number (mCons (mCall none false false 1 1 m_least_blocks (mCons (mVar 5) mNil)) (mCons (mVar 7) mNil)))))
  (mRet (mC (.bl false)))
  mNext)
  (mSeq (mIfS (mNot (mTru (mCall none false false 3 4 m__law_counted (mCons (mVar 5) (mCons (mVar 6) (mCons (mOp fAddA (mC (.int 100)) (mCall (some 0) false true 2 4 m__law_take (mCons (mVar 1) (mCons (mC (.int 1000)) mNil)))) mNil))))))
  (mRet (mC (.bl false)))
  mNext)
  (mSeq (mIfS (mNot (mTru (mCall none false false 3 8 m__law_listed (mCons (mVar 5) (mCons (mVar 6) (mCons (mVar 7) mNil))))))
  (mRet (mC (.bl false)))
  mNext)
  (mRet (mCallG 9 (some 0) false true 2 7 m__law_refused (mGhostF 9 (mCall none false true 2 2 m__law_box (mCons (mVar 0) (mCons (mC (.int 2)) mNil))) (mCons (mVar 5) mNil)))))))))))))))
theorem G_law {f : Addr} {fd : FuncData} (T : TX K mg) (F : Fun K "law" "law" s_law f fd) : FnOk P w K mg base CX0 10 f fd p_law (spM T.c false 1 n_law m_law) := by
  have G__law_box := G__law_box (P := P) (w := w) (base := base) T
  have G__law_take := G__law_take (P := P) (w := w) (base := base) T
  have G__law_row := G__law_row (P := P) (w := w) (base := base) T
  have G__law_ways := G__law_ways (P := P) (w := w) (base := base) T
  have G__law_is_number := G__law_is_number (P := P) (w := w) (base := base) T
  have G_least_blocks := G_least_blocks (P := P) (w := w) (base := base) T
  have G__law_counted := G__law_counted (P := P) (w := w) (base := base) T
  have G__law_listed := G__law_listed (P := P) (w := w) (base := base) T
  have G__law_refused := G__law_refused (P := P) (w := w) (base := base) T
  refine fn_nox F sc_law fun cdv A outer s H E hr => ?_
  have hu : (A.deeper (envOfC "law" (defScope s_law) s.heap.objs.size f cdv)).units + 1 < cLine := by have := hr.units; omega
  unfold m_law
  exact ⟨_, (pss_cons (ps_set (i := 1) sc_law.nd rfl (Or.inl rfl) (pe_call G__law_box (hr.mono (by decide)) (by rfl) T.m__law_box T.k__law_box T.b__law_box .nil pass0 (pa_cons (pv 0) (pa_cons pe_int pa_nil))))
      (pss_cons (ps_set (i := 2) sc_law.nd rfl (Or.inl rfl) (pe_call G__law_take (hr.mono (by decide)) (by rfl) T.m__law_take T.k__law_take T.b__law_take .nil pass0 (pa_cons (pv 1) (pa_cons pe_int pa_nil))))
      (pss_cons (ps_set (i := 3) sc_law.nd rfl (Or.inl rfl) (pe_cmpR (k_eq (K := K) rfl hr.units) (pe_call G__law_take (hr.mono (by decide)) (by rfl) T.m__law_take T.k__law_take T.b__law_take .nil pass0 (pa_cons (pv 1) (pa_cons pe_int pa_nil))) pe_int (nomark _)))
      (pss_cons (ps_if (k_truth (K := K) rfl (pv 3))
      (pss_one (ps_set (i := 2) sc_law.nd rfl (Or.inl rfl) (pe_op (k_add (K := K) rfl) pe_int (pe_call G__law_take (hr.mono (by decide)) (by rfl) T.m__law_take T.k__law_take T.b__law_take .nil pass0 (pa_cons (pv 1) (pa_cons pe_int pa_nil))))))
      pss_nil)
      (pss_cons (ps_set (i := 4) sc_law.nd rfl (Or.inl rfl) (pe_call G__law_take (hr.mono (by decide)) (by rfl) T.m__law_take T.k__law_take T.b__law_take .nil pass0 (pa_cons (pv 1) (pa_cons pe_int pa_nil))))
      (pss_cons (ps_set (i := 5) sc_law.nd rfl (Or.inl rfl) (pe_call G__law_row (hr.mono (by decide)) (by rfl) T.m__law_row T.k__law_row T.b__law_row .nil pass0 (pa_cons (pe_call G__law_box (hr.mono (by decide)) (by rfl) T.m__law_box T.k__law_box T.b__law_box .nil pass0 (pa_cons (pv 0) (pa_cons pe_int pa_nil))) (pa_cons (pv 2) (pa_cons (pv 4) pa_nil)))))
      (pss_cons (ps_set (i := 6) sc_law.nd rfl (Or.inr rfl) (pe_call G__law_ways (hr.mono (by decide)) (by rfl) T.m__law_ways T.k__law_ways T.b__law_ways .nil pass0 (pa_cons (pv 5) pa_nil)))
      (pss_cons (ps_set (i := 7) sc_law.nd rfl (Or.inl rfl) (pe_callB (k_min (K := K) rfl rfl) (by rfl) T.m_min (by decide +kernel) (pa_cons (pe_lc (own := [("blocks", 8)]) (g := gName 8) (by rfl) sc_law.nd (pi_range1 (by rfl) T.m_range (pa_cons (pe_callB (k_len2 (K := K) rfl) (by rfl) T.m_len PySem.boot_len (pa_cons (pv 6) pa_nil)) pa_nil)) (blkOk_by (own := [("blocks", 8)]) (N := n_law) (sc := defScope s_law) (by decide +kernel)) (fun _ _ _ _ _ => (pg_name (i := 8) sc_law.nd rfl (Or.inl rfl))) (fun _ _ _ _ _ => pts_one (pt_cmpR k_gt (pe_or2 (pe_ix (k_ix (K := K) rfl) (pv 6) (pv 8) (fun _ _ => rfl)) (pe_dget hu (pv 6) (pv 8) (fun _ _ => rfl))) pe_int (nomark _))) (fun _ _ _ _ _ => (pv 8))) pa_nil)))
      (pss_cons (ps_if (pt_not (k_truth (K := K) rfl (pe_call G__law_is_number (hr.mono (by decide)) (by rfl) T.m__law_is_number T.k__law_is_number T.b__law_is_number .nil pass0 (pa_cons (pe_call G_least_blocks (hr.mono (by decide)) (by rfl) T.m_least_blocks T.k_least_blocks T.b_least_blocks .nil pass0 (pa_cons (pv 5) pa_nil)) (pa_cons (pv 7) pa_nil)))))
      (pss_one (ps_ret pe_bl))
      pss_nil)
      (pss_cons (ps_if (pt_not (k_truth (K := K) rfl (pe_call G__law_counted (hr.mono (by decide)) (by rfl) T.m__law_counted T.k__law_counted T.b__law_counted .nil pass0 (pa_cons (pv 5) (pa_cons (pv 6) (pa_cons (pe_op (k_add (K := K) rfl) pe_int (pe_call G__law_take (hr.mono (by decide)) (by rfl) T.m__law_take T.k__law_take T.b__law_take .nil pass0 (pa_cons (pv 1) (pa_cons pe_int pa_nil)))) pa_nil))))))
      (pss_one (ps_ret pe_bl))
      pss_nil)
      (pss_cons (ps_if (pt_not (k_truth (K := K) rfl (pe_call G__law_listed (hr.mono (by decide)) (by rfl) T.m__law_listed T.k__law_listed T.b__law_listed .nil pass0 (pa_cons (pv 5) (pa_cons (pv 6) (pa_cons (pv 7) pa_nil))))))
      (pss_one (ps_ret pe_bl))
      pss_nil)
      (pss_one (ps_ret (pe_call G__law_refused (hr.mono (by decide)) (by rfl) T.m__law_refused T.k__law_refused T.b__law_refused .nil pass0 (pa_cons (pe_call G__law_box (hr.mono (by decide)) (by rfl) T.m__law_box T.k__law_box T.b__law_box .nil pass0 (pa_cons (pv 0) (pa_cons pe_int pa_nil))) (pa_cons (pv 5) pa_nil)))))))))))))))),
    (s_seq (s_set 1 (s_call (io := none) (len := false) (nr := true) (k := 2) (N := n__law_box) (m := m__law_box) (.inr ⟨rfl, .inl rfl⟩) (s_cons (s_var 0) (s_cons (s_int 0) s_nil))))
      (s_seq (s_set 2 (s_call (io := (some 0)) (len := false) (nr := true) (k := 2) (N := n__law_take) (m := m__law_take) (.inr ⟨rfl, .inl rfl⟩) (s_cons (s_var 1) (s_cons (s_int 11) s_nil))))
      (s_seq (s_set 3 (s_op o_eqA (s_call (io := (some 0)) (len := false) (nr := true) (k := 2) (N := n__law_take) (m := m__law_take) (.inr ⟨rfl, .inl rfl⟩) (s_cons (s_var 1) (s_cons (s_int 8) s_nil))) (s_int 0)))
      (s_seq (s_if (s_tru (s_var 3))
      (s_set 2 (s_op o_addA (s_int 11) (s_call (io := (some 0)) (len := false) (nr := true) (k := 2) (N := n__law_take) (m := m__law_take) (.inr ⟨rfl, .inl rfl⟩) (s_cons (s_var 1) (s_cons (s_int 50) s_nil)))))
      s_next)
      (s_seq (s_set 4 (s_call (io := (some 0)) (len := false) (nr := true) (k := 2) (N := n__law_take) (m := m__law_take) (.inr ⟨rfl, .inl rfl⟩) (s_cons (s_var 1) (s_cons (s_int 9) s_nil))))
      (s_seq (s_set 5 (s_callG (g := 9) (io := (some 0)) (len := false) (nr := true) (k := 3) (N := n__law_row) (m := m__law_row) (.inr ⟨rfl, .inl rfl⟩) (sg_first (s_call (io := none) (len := false) (nr := true) (k := 2) (N := n__law_box) (m := m__law_box) (.inr ⟨rfl, .inl rfl⟩) (s_cons (s_var 0) (s_cons (s_int 1) s_nil))) (s_cons (s_var 2) (s_cons (s_var 4) s_nil)))))
      (s_seq (s_set 6 (s_call (io := none) (len := false) (nr := true) (k := 1) (N := n__law_ways) (m := m__law_ways) (.inr ⟨rfl, .inl rfl⟩) (s_cons (s_var 5) s_nil)))
      (s_seq (s_set 7 (s_cb cb_min (s_cons (s_lc (vs := [8]) (si_range1 (s_cons (s_cb cb_lenB (s_cons (s_var 6) s_nil)) s_nil)) (sg_name 8) (by decide) (s_test (s_op o_gtI (s_or2 (s_op o_ix (s_var 6) (s_var 8)) (s_dget (s_var 6) (s_var 8))) (s_int 0))) (s_var 8)) s_nil)))
      (s_seq (s_if (s_not (s_tru (s_call (io := none) (len := false) (nr := true) (k := 2) (N := n__law_is_number) (m := m__law_is_number) (.inr ⟨rfl, .inl rfl⟩) (s_cons (s_call (io := none) (len := false) (nr := false) (k := 1) (N := n_least_blocks) (m := m_least_blocks) (.inr ⟨rfl, .inr rfl⟩) (s_cons (s_var 5) s_nil)) (s_cons (s_var 7) s_nil)))))
      (s_ret (s_bl false))
      s_next)
      (s_seq (s_if (s_not (s_tru (s_call (io := none) (len := false) (nr := false) (k := 3) (N := n__law_counted) (m := m__law_counted) (.inr ⟨rfl, .inr rfl⟩) (s_cons (s_var 5) (s_cons (s_var 6) (s_cons (s_op o_addA (s_int 100) (s_call (io := (some 0)) (len := false) (nr := true) (k := 2) (N := n__law_take) (m := m__law_take) (.inr ⟨rfl, .inl rfl⟩) (s_cons (s_var 1) (s_cons (s_int 1000) s_nil)))) s_nil))))))
      (s_ret (s_bl false))
      s_next)
      (s_seq (s_if (s_not (s_tru (s_call (io := none) (len := false) (nr := false) (k := 3) (N := n__law_listed) (m := m__law_listed) (.inr ⟨rfl, .inr rfl⟩) (s_cons (s_var 5) (s_cons (s_var 6) (s_cons (s_var 7) s_nil))))))
      (s_ret (s_bl false))
      s_next)
      (s_ret (s_callG (g := 9) (io := (some 0)) (len := false) (nr := true) (k := 2) (N := n__law_refused) (m := m__law_refused) (.inr ⟨rfl, .inl rfl⟩) (sg_first (s_call (io := none) (len := false) (nr := true) (k := 2) (N := n__law_box) (m := m__law_box) (.inr ⟨rfl, .inl rfl⟩) (s_cons (s_var 0) (s_cons (s_int 2) s_nil))) (s_cons (s_var 5) s_nil)))))))))))))))⟩
end
end M10
namespace M10.S
open PySem PySem.Spec PyProof.Rows L2 MR TM
local macro_rules | `(tactic| walk_at "cs") => `(tactic| first | rfl | (show canSet (some _) = true; assumption))
local macro_rules | `(tactic| walk_at "wr") => `(tactic| first
  | with_reducible refine wp_pkF ?_ | with_reducible refine wp_mP ?_ | with_reducible refine wp_C ?_ | ((with_reducible refine' wp_varF ?hv ?_); (case hv => rfl)) | ((with_reducible refine' wp_varO ?hv ?_); (case hv => rfl)) | with_reducible refine wp_pkA ?_
  | with_reducible refine wp_op ?_ | with_reducible refine wp_cons ?_ | with_reducible refine wp_nil ?_ | with_reducible refine wp_cb ?_ | with_reducible refine wp_test ?_ | with_reducible refine wp_pkN ?_
  | with_reducible refine wp_mD ?_ | with_reducible refine wp_frzF ?_ | with_reducible refine wp_frzN ?_ | with_reducible refine wp_frzs0 ?_ | with_reducible refine wp_frzs1 ?_
  | with_reducible refine wp_and ?_ | with_reducible refine wp_or ?_ | with_reducible refine wp_not ?_ | with_reducible refine wp_tru ?_ | with_reducible refine wp_andV ?_ | with_reducible refine wp_orV ?_ | with_reducible refine wp_notV ?_ | with_reducible refine wp_ifE ?_
  | with_reducible refine wp_un ?_ | with_reducible refine wp_lst ?_ | with_reducible refine wp_tup ?_ | with_reducible refine wp_sl ?_ | with_reducible refine wp_part ?_ | with_reducible refine wp_noPart ?_ | with_reducible refine wp_fld ?_ | with_reducible refine wp_chain ?_ | with_reducible refine wp_join ?_
  | with_reducible refine wp_mut ?_ | with_reducible refine wp_mut0 ?_ | with_reducible refine wp_rd ?_ | with_reducible refine wp_call ?_ | with_reducible refine wp_call2 ?_ | with_reducible refine wp_prop ?_ | with_reducible refine wp_meth ?_ | with_reducible refine wp_lenOwn ?_ | with_reducible refine wp_cval ?_ | with_reducible refine wp_yes ?_ | with_reducible refine wp_make ?_
  | ((with_reducible refine' wp_frzA ?hv ?_); (case hv => rfl)))
local macro_rules | `(tactic| walk_at "wo") => `(tactic| first
  | with_reducible refine wp_seq ?_ | with_reducible refine wp_set ?_ | ((with_reducible refine' wp_setF ?hv ?_); (case hv => walk_at "cs")) | with_reducible refine wp_ret ?_ | with_reducible refine wp_if ?_ | with_reducible refine wp_drop ?_ | with_reducible refine wp_store ?_ | with_reducible refine wp_outF ?_
  | with_reducible refine wp_next ?_ | with_reducible refine wp_aug ?_ | with_reducible refine wp_asgG ?_ | with_reducible refine wp_fldSet ?_ | ((with_reducible refine' wp_setN ?hv ?_); (case hv => walk_at "cs")) | with_reducible refine wp_outN ?_ | ((with_reducible refine' wp_outA ?hv ?_); (case hv => rfl))
  | with_reducible refine wp_break ?_ | with_reducible refine wp_cont ?_ | with_reducible refine wp_retN ?_ | with_reducible refine wp_raise ?_ | ((with_reducible refine' wp_setA ?hv ?hw ?_); (case hv => rfl); (case hw => walk_at "cs")))
local macro_rules | `(tactic| walk_at "won") => `(tactic| first
  | with_reducible refine wp_seq ?_ | with_reducible refine wp_set ?_ | ((with_reducible refine' wp_setF ?hv ?_); (case hv => walk_at "cs")) | with_reducible refine wp_ret ?_ | with_reducible refine wp_drop ?_ | with_reducible refine wp_store ?_ | with_reducible refine wp_outF ?_
  | with_reducible refine wp_next ?_ | with_reducible refine wp_aug ?_ | with_reducible refine wp_asgG ?_ | with_reducible refine wp_fldSet ?_ | ((with_reducible refine' wp_setN ?hv ?_); (case hv => walk_at "cs")) | with_reducible refine wp_outN ?_ | ((with_reducible refine' wp_outA ?hv ?_); (case hv => rfl))
  | with_reducible refine wp_break ?_ | with_reducible refine wp_cont ?_ | with_reducible refine wp_retN ?_ | with_reducible refine wp_raise ?_ | ((with_reducible refine' wp_setA ?hv ?hw ?_); (case hv => rfl); (case hw => walk_at "cs")))
local macro_rules | `(tactic| walk_at "wi") => `(tactic| first
  | ((with_reducible refine' g_is_int ?hv ?_); (case hv => first | rfl | assumption)) | ((with_reducible refine' g_is_bool ?hv ?_); (case hv => first | rfl | assumption)) | ((with_reducible refine' g_is_str ?hv ?_); (case hv => first | rfl | assumption))
  | ((with_reducible refine' g_is_list ?hv ?_); (case hv => first | rfl | assumption)) | ((with_reducible refine' g_is_tuple ?hv ?_); (case hv => first | rfl | assumption)))
local macro_rules | `(tactic| walk_at "we") => `(tactic| first
  | with_reducible refine g_gs1 ?_ | with_reducible refine g_gs0 ?_ | ((with_reducible refine' g_gN ?hv ?_); (case hv => walk_at "cs")) | ((with_reducible refine' g_gT ?hv ?_); (case hv => rfl))
  | walk_at "wi"
  | ((with_reducible refine' wp_fldE ?hv ?hw ?_); (case hv => rfl); (case hw => walk_at "fld"))
  | ((with_reducible refine' ex1 ?hv ?_); (case hv => rfl)) | ((with_reducible refine' ex2 ?hv ?hw ?_); (case hv => rfl); (case hw => rfl))
  | with_reducible refine ifT ?_ | with_reducible refine ifF ?_
  | ((with_reducible refine' g_mulB ?hv ?hw ?_); (case hv => omega); (case hw => omega)) | ((with_reducible refine' g_mod ?hv ?_); (case hv => omega)) | ((with_reducible refine' g_div ?hv ?_); (case hv => omega))
  | ((with_reducible refine' ex2d ?hv ?hw ?_); (case hv => rfl); (case hw => rfl))
  | ((with_reducible refine' ex1l ?hv ?_); (case hv => rfl))
  | ((with_reducible refine' wp_fldE2 ?hv ?hw ?_); (case hv => rfl); (case hw => exact Nat.le_of_ble_eq_true rfl))
  | ((with_reducible refine' and1 ?hv ?_); (case hv => first | exact ins_tree | exact obj_path | exact obj_sides | rfl | exact len_ok rfl)))
local macro_rules | `(tactic| walk_at "w") => `(tactic| repeat first
  | ((with_reducible refine (id ?_ : R.wp _ _ _)); walk_at "wr")
  | ((with_reducible refine (id ?_ : O.wp _ _)); walk_at "wo")
  | walk_at "we")
local macro_rules | `(tactic| walk_at "fld") => `(tactic| first | exact f_depths | exact f_sides | exact f_post | exact f_text | rfl)
local macro_rules | `(tactic| walk_at "wn") => `(tactic| repeat first
  | ((with_reducible refine (id ?_ : R.wp _ _ _)); walk_at "wr")
  | ((with_reducible refine (id ?_ : O.wp _ _)); walk_at "won")
  | walk_at "we")
local macro_rules | `(tactic| walk_at "w1x") => `(tactic| repeat first
  | with_reducible refine wp_pkF ?_ | with_reducible refine wp_mP ?_ | with_reducible refine wp_frzF ?_ | with_reducible refine wp_seq ?_ | with_reducible refine wp_set ?_ | ((with_reducible refine' wp_setF ?hv ?_); (case hv => walk_at "cs")))
section
theorem p_is_whole {d : MR.D} (h : okV d = true) : Ret (m_is_whole [.fz d]) (.fz (.bl (tInt d && !tBool d))) := by
  apply RetP.ret
  unfold m_is_whole RetP
  walk_at "w"
  refine ifB (fun h1 => ?_) (fun h1 => ?_)
  · walk_at "w"
    show Val.fz (.bl (!tBool d)) = _
    rw [h1]
    rfl
  · walk_at "w"
    show Val.fz (.bl false) = _
    rw [h1]
    rfl
theorem p_is_made_of {d : MR.D} (h : okS d) (ls : List Nat) : Ret (m_is_made_of [.fz d, .fz (.str (txtS ls)), .un]) (.fz (.bl (isMade ls d))) := by
  obtain ⟨h, hz⟩ := h
  apply RetP.ret
  unfold m_is_made_of RetP
  walk_at "w"
  cases d with
  | str z =>
    have hl := hz z rfl
    refine ifT ?_
    walk_at "w"
    refine wp_lc (fun n => MR.D.str ⟨#[n]⟩) z.cps.toList (fun _ => true) (fun n => .bl (decide (n ∈ ls))) (wp_seqS ?_)
    walk_at "w"
    refine ⟨_, rfl, rfl, rfl, hl, fun n hn => ?_, ?_⟩
    · refine ⟨_, rfl, rfl, fun _ => ?_, rfl⟩
      rfl
    · rw [List.filter_eq_self.mpr (fun _ _ => rfl)]
      walk_at "w"
      refine g_all ?_
      walk_at "w"
      rfl
  | _ => exact rfl
end
section
theorem g_catL {a b : List MR.D} {P : Val → Prop} (h : a.length + b.length ≤ 1000) (q : P (.new (.lst (a ++ b)))) : ∃ r, fAddA (.lst a) (.lst b) = some r ∧ P r := by
  refine ⟨_, ?_, q⟩
  show orO (fAdd (.lst a) (.lst b)) (orO (fAddS (.lst a) (.lst b)) (orO (fCat (.lst a) (.lst b)) _)) = _
  have : fCat (.lst a) (.lst b) = some (.new (.lst (a ++ b))) := gdO_pos (len_ok2 h)
  rw [this]
  rfl
theorem rangeN (n : Nat) : rangeD 0 ((n : Nat) : Int).toNat = (List.range n).map intN := by
  unfold rangeD
  rw [Int.toNat_natCast]
  exact List.map_congr_left fun k _ => by show MR.D.int (0 + (k : Int)) = _; rw [Int.zero_add]
theorem g_comb {n k : Nat} {P : Val → Prop} (hn : n ≤ 18000) (q : P (.fz (.int (chN n k : Int)))) : ∃ r, f_comb [intN n, .int (k : Int)] = some r ∧ P r :=
  ⟨_, if_pos ⟨by omega, by omega, by omega⟩, by show P (.fz (.int (PySem.W.mcComb (n : Int) (k : Int)))); rw [comb_ch]; exact q⟩
theorem p_choose (n : Nat) (k : Int) (hn : n ≤ 18000) : Ret (m_choose [.fz (intN n), .fz (.int k)]) (.fz (.int (if k < 0 then 0 else (chN n k.toNat : Int)))) := by
  apply RetP.ret
  unfold m_choose RetP
  walk_at "wn"
  refine wp_if (wp_or ?_)
  walk_at "w"
  refine ifD (fun h => ?_) (fun h => ?_)
  · walk_at "w"
    rw [if_pos h]
  · walk_at "w"
    refine ifD (fun h2 => ?_) (fun h2 => ?_)
    · walk_at "w"
      have h2 : (n : Int) < k := h2
      rw [if_neg h, chN_above n _ (by omega)]
      rfl
    · walk_at "w"
      have e : k = ((k.toNat : Nat) : Int) := by omega
      rw [e]
      refine g_comb hn ?_
      rw [if_neg (by omega)]
      rfl
theorem upF_map : ∀ (k lo : Nat), upF lo k = (List.range k).map fun i => lo + i
  | 0, _ => rfl
  | k + 1, lo => by
    rw [List.range_succ_eq_map, List.map_cons, List.map_map]
    show lo :: upF (lo + 1) k = _
    rw [upF_map k (lo + 1)]
    congr 1
    exact List.map_congr_left fun i _ => by show lo + 1 + i = lo + (i + 1); omega
/-- a list of places -/
noncomputable abbrev natsD (ns : List Nat) : MR.D := .lst (ns.map fun n : Nat => intN n)
theorem p_next (c : List Nat) (n lo : Nat) (hA : Asc n lo c) (hl : c.length ≤ n) (hn : n ≤ 900) : RetP (m_next_choice [.fz (natsD c), .fz (intN n), .un, .un, .un])
    (fun v => match nxtC n c with | none => v = .fz .non | some d => v = .new (natsD d)) := by
  unfold m_next_choice RetP
  walk_at "wn"
  rw [List.length_map]
  refine wp_cut (fun e => ∃ j : Nat, e = [.fz (natsD c), .fz (intN n), .fz (intN c.length), .fz (.int ((j : Int) - 1)), .un] ∧ j ≤ c.length ∧ (∀ i, j ≤ i → i < c.length → c[i]? = some (n - c.length + i)) ∧ (0 < j → c[j - 1]? ≠ some (n - c.length + (j - 1)))) ?_ ?_
  · refine wp_while (fun j e => e = [.fz (natsD c), .fz (intN n), .fz (intN c.length), .fz (.int ((j : Int) - 1)), .un] ∧ j ≤ c.length ∧ ∀ i, j ≤ i → i < c.length → c[i]? = some (n - c.length + i)) 1000 _ c.length (by omega) ⟨rfl, Nat.le_refl _, fun i h1 h2 => by omega⟩ ?_
    rintro j e ⟨rfl, hj, he⟩
    refine wp_and ?_
    walk_at "w"
    refine ifD (fun h => ?_) (fun h => ?_)
    · have h : (0 : Int) ≤ (j : Int) - 1 := h
      walk_at "w"
      refine wp_or2 ?_
      walk_at "w"
      obtain ⟨k, rfl⟩ : ∃ k, j = k + 1 := ⟨j - 1, by omega⟩
      obtain ⟨a, ha⟩ : ∃ a, c[k]? = some a := ⟨c[k], List.getElem?_eq_getElem (by omega)⟩
      rw [show (((k + 1 : Nat) : Int) - 1) = (k : Int) from by omega]
      refine g_ixMap ha ?_
      walk_at "w"
      refine ifD (fun q => ?_) (fun q => ?_)
      · have q : (a : Int) = (n : Int) - (c.length : Int) + (k : Int) := q
        walk_at "w"
        refine ⟨k, Nat.lt_succ_self k, rfl, by omega, fun i h1 h2 => ?_⟩
        by_cases z : i = k
        · subst z
          rw [ha]
          congr 1
          omega
        · exact he i (by omega) h2
      · refine ⟨k + 1, by rw [show (((k + 1 : Nat) : Int) - 1) = (k : Int) from by omega], hj, he, fun _ z => q ?_⟩
        rw [Nat.add_sub_cancel, ha] at z
        have z := Option.some.inj z
        show (a : Int) = (n : Int) - (c.length : Int) + (k : Int)
        omega
    · walk_at "w"
      refine ⟨j, rfl, hj, he, fun h0 => absurd (show (0 : Int) ≤ (j : Int) - 1 by omega) h⟩
  · rintro e ⟨j, rfl, hj, he, hne⟩
    walk_at "w"
    refine ifD (fun h => ?_) (fun h => ?_)
    · have h : (j : Int) - 1 < 0 := h
      walk_at "w"
      rw [nxt_none n c hl fun i hi => he i (by omega) hi]
    · have h : ¬ (j : Int) - 1 < 0 := h
      obtain ⟨k, rfl⟩ : ∃ k, j = k + 1 := ⟨j - 1, by omega⟩
      obtain ⟨a, ha, hx⟩ := nxt_at n c lo k hA hl (by omega) (fun i h1 h2 => he i (by omega) h2) (by simpa using hne (by omega))
      rw [hx]
      rw [show (((k + 1 : Nat) : Int) - 1) = (k : Int) from by omega]
      walk_at "w"
      rw [cut_take]
      refine wp_lcW (fun i : Nat => intN i) (List.range (c.length - k)) (fun _ => true) (fun i => intN (a + 1 + i)) (wp_range1 ?_)
      walk_at "w"
      refine ⟨_, rfl, ⟨by omega, by omega⟩, by rw [show ((c.length : Int) - (k : Int)) = ((c.length - k : Nat) : Int) from by omega]; exact rangeN _, rfl, len_ok2 (by rw [List.length_range]; omega), fun i hi => ⟨_, rfl, ⟨rfl, rfl⟩, fun _ => ?_, rfl⟩, ?_⟩
      · walk_at "w"
        refine wp_or2 ?_
        walk_at "w"
        refine g_ixMap ha ?_
        walk_at "w"
        first | rfl | exact ⟨rfl, rfl⟩
      rw [List.filter_eq_self.mpr (fun _ _ => rfl)]
      walk_at "w"
      refine g_catL (a := (c.map fun n : Nat => intN n).take k) (b := (List.range (c.length - k)).map fun i => intN (a + 1 + i)) (by rw [List.length_take, List.length_map, List.length_map, List.length_range]; omega) ?_
      walk_at "w"
      show Val.new _ = Val.new (natsD (c.take k ++ upF (a + 1) (c.length - k)))
      rw [upF_map]
      show Val.new _ = Val.new (.lst ((c.take k ++ (List.range (c.length - k)).map (fun i => a + 1 + i)).map fun n : Nat => intN n))
      rw [List.map_append, List.map_take, List.map_map]
      rfl
end
section
theorem wp_zip {ms : En → R (List Val)} {e : En} {Q : Itr → En → Prop} {X : Xn → En → Prop} (h : (ms e).wp (fun as e1 => (frzs as e1).wp (fun ds e2 => ∃ a b, ds = [.lst a, .lst b] ∧ Q ⟨zipD a b, none⟩ e2) X) X) : (mZip ms e).wp Q X :=
  R.wp_bind (R.wp_mono h fun as e1 h1 => R.wp_bind (R.wp_mono h1 fun ds e2 ⟨a, b, h2, q⟩ => by subst h2; exact q))
theorem zip_seg (x : List Nat) : ∀ (E : List Nat) (c : Nat), segL x c E = ((c :: E).zip E).map fun p => (x.drop p.1).take (p.2 - p.1)
  | [], _ => rfl
  | e :: r, c => by
    show (x.drop c).take (e - c) :: segL x e r = _
    rw [zip_seg x r e]
    rfl
theorem zipD_nats : ∀ (a b : List Nat), zipD (a.map fun n : Nat => intN n) (b.map fun n : Nat => intN n) = (a.zip b).map fun p => .tup [intN p.1, intN p.2]
  | [], b => by cases b <;> rfl
  | _ :: _, [] => rfl
  | x :: a, y :: b => by
    show MR.D.tup [intN x, intN y] :: zipD (a.map fun n : Nat => intN n) (b.map fun n : Nat => intN n) = _
    rw [zipD_nats a b]
    rfl
theorem up_zip : ∀ (E : List Nat) (c : Nat), Up c E → ∀ p ∈ (c :: E).zip E, p.1 ≤ p.2
  | [], _, _, p, h => by cases h
  | e :: r, c, hu, p, h => by
    rcases List.mem_cons.mp h with q | q
    · subst q; exact Nat.le_of_lt hu.1
    · exact up_zip r e hu.2 p q
theorem zip_more {n : Nat} : ∀ (A E : List Nat), A.length = E.length → (A ++ [n]).zip E = A.zip E
  | [], [], _ => rfl
  | a :: A, e :: E, h => by
    show (a, e) :: (A ++ [n]).zip E = (a, e) :: A.zip E
    rw [zip_more A E (Nat.succ.inj h)]
  | [], _ :: _, h => nomatch h
  | _ :: _, [], h => nomatch h
theorem p_cut0 (P : List Nat) : RetP (m_cut_at [.fz (.str (txtS [])), .fz (natsD P), .un, .un, .un]) (fun v => v = .new (.lst [])) := by
  unfold m_cut_at RetP
  walk_at "w"
  refine ifD (fun _ => ?_) (fun h => absurd rfl h)
  walk_at "w"
  rfl
theorem p_cut (x P : List Nat) (hx : x ≠ []) (hl : x.length ≤ 900) (hP : P.length ≤ 900) (hu : Up 0 (P ++ [x.length])) (hb : ∀ p ∈ P, p ≤ x.length) :
    RetP (m_cut_at [.fz (.str (txtS x)), .fz (natsD P), .un, .un, .un]) (fun v => v = .new (.lst ((segL x 0 (P ++ [x.length])).map fun s => MR.D.str (txtS s)))) := by
  unfold m_cut_at RetP
  walk_at "w"
  refine ifD (fun h => absurd ?_ hx) (fun _ => ?_)
  · have h : txtS x = Str.ofString "" := h
    have := congrArg (fun z : Str => z.cps.toList) h
    rw [txtS_list] at this
    exact this
  walk_at "w"
  refine g_lenS (by rw [txtS_len]; exact len_ok2 (by omega)) ?_
  rw [txtS_len]
  walk_at "w"
  refine g_catL (a := P.map fun n : Nat => intN n) (b := [intN x.length]) (by rw [List.length_map]; show _ + 1 ≤ 1000; omega) ?_
  walk_at "w"
  have e1 : (P.map fun n : Nat => intN n) ++ [intN x.length] = (P ++ [x.length]).map fun n : Nat => intN n := by
    rw [List.map_append]; rfl
  rw [e1]
  have hbE : ∀ e ∈ P ++ [x.length], e ≤ x.length := fun e he => by
    rcases List.mem_append.mp he with q | q
    · exact hb e q
    · rw [List.mem_singleton.mp q]; exact Nat.le_refl _
  have lE : (P ++ [x.length]).length = P.length + 1 := by rw [List.length_append]; rfl
  have hz := up_zip _ 0 hu
  have hm : ∀ p ∈ (0 :: (P ++ [x.length])).zip (P ++ [x.length]), p.2 ∈ P ++ [x.length] := fun p hp => (List.of_mem_zip hp).2
  refine wp_lcW (fun p : Nat × Nat => .tup [intN p.1, intN p.2]) ((0 :: (P ++ [x.length])).zip (P ++ [x.length])) (fun _ => true) (fun p => .str (txtS ((x.drop p.1).take (p.2 - p.1)))) (wp_zip ?_)
  walk_at "w"
  refine g_catL (a := [intN 0]) (b := P.map fun n : Nat => intN n) (by rw [List.length_map]; show 1 + _ ≤ 1000; omega) ?_
  walk_at "w"
  refine ⟨_, _, rfl, ?_, rfl, ?_, fun p hp => ⟨_, rfl, ⟨rfl, rfl⟩, fun _ => ?_, rfl⟩, ?_⟩
  · show zipD ((0 :: P).map fun n : Nat => intN n) ((P ++ [x.length]).map fun n : Nat => intN n) = _
    rw [zipD_nats]
    show _ = List.map _ (((0 :: P) ++ [x.length]).zip (P ++ [x.length]))
    rw [zip_more (0 :: P) (P ++ [x.length]) lE.symm]
  · refine len_ok2 ?_
    rw [List.length_zip, lE]
    show min (P ++ [x.length] |>.length.succ) _ ≤ _
    rw [lE]
    omega
  · walk_at "w"
    refine g_slS (by omega) ?_
    walk_at "w"
    rw [cut_mid _ _ _ (hz p hp) (hbE _ (hm p hp))]
    first | rfl | exact ⟨rfl, rfl⟩
  · rw [List.filter_eq_self.mpr (fun _ _ => rfl)]
    walk_at "w"
    rw [zip_seg, List.map_map]
    rfl
end
section
/-- the row of w: true a load -/
noncomputable def rwN (w : List Bool) : List Nat := w.map fun b => if b then 108 else 104
theorem rw_len (w : List Bool) : (rwN w).length = w.length := List.length_map _
theorem p_is_row {d : MR.D} (h : okS d) : Ret (m_is_row [.fz d]) (.fz (.bl (isMade [104, 108] d))) := by
  apply RetP.ret
  unfold m_is_row RetP
  walk_at "w"
  rw [show ("hl" : Str) = txtS [104, 108] from by decide +kernel]
  refine wp_callRet rfl rfl (p_is_made_of h [104, 108]) (fun h => nomatch h) ?_
  walk_at "w"
  rfl
theorem p_check_row {d : MR.D} (h : okS d) : (m_check_row [.fz d]).wp { nx := fun e => isMade [104, 108] d = true ∧ e = [.fz d], er := fun x _ => isMade [104, 108] d = false ∧ x = ⟨"InvalidRow", [("index", .int 0)]⟩ } := by
  unfold m_check_row
  walk_at "w"
  refine wp_callRet rfl rfl (p_is_row h) (fun h => nomatch h) ?_
  walk_at "w"
  refine ifNB (fun q => ?_) (fun q => ?_)
  · walk_at "w"
    exact ⟨q, rfl⟩
  · walk_at "w"
    exact ⟨q, rfl⟩
theorem row_made (w : List Bool) : isMade [104, 108] (.str (txtS (rwN w))) = true := by
  show ((txtS (rwN w)).cps.toList.all fun c => decide (c ∈ [104, 108])) = true
  rw [txtS_list, List.all_eq_true]
  intro c hc
  obtain ⟨b, _, rfl⟩ := List.mem_map.mp hc
  cases b <;> decide
theorem ok_row (w : List Bool) (h : w.length ≤ 900) : okS (.str (txtS (rwN w))) := ⟨rfl, fun z hz => by cases hz; rw [txtS_len, rw_len]; exact len_ok2 (by omega)⟩
theorem p_row_ok {w : List Bool} (h : w.length ≤ 900) : (m_check_row [.fz (.str (txtS (rwN w)))]).wp { nx := fun _ => True } :=
  O.wp_mono (p_check_row (ok_row w h)) (fun _ _ => trivial) (fun _ _ q => q) (fun _ q => q) (fun _ q => q) fun x e q => by rw [row_made] at q; exact absurd q.1 (by simp)
/-- a number that is not negative -/
noncomputable def isNat : MR.D → Bool
  | .int i => decide (0 ≤ i)
  | _ => false
theorem p_is_nat {d : MR.D} (h : okV d = true) : Ret (m_is_number [.fz d, .fz (.int 0), .fz .non]) (.fz (.bl (isNat d))) := by
  apply RetP.ret
  unfold m_is_number RetP
  walk_at "w"
  refine wp_callRet rfl rfl (p_is_whole h) (fun h => nomatch h) ?_
  walk_at "w"
  cases d with
  | int i =>
    refine ifT ?_
    walk_at "w"
    refine ifD (fun h1 => ?_) (fun h1 => ?_)
    · walk_at "w"
      show Val.fz (.bl true) = .fz (.bl (decide (0 ≤ i)))
      rw [decide_eq_true h1]
    · walk_at "w"
      show Val.fz (.bl false) = .fz (.bl (decide (0 ≤ i)))
      rw [decide_eq_false h1]
  | _ => exact rfl
theorem p_check_nat {d : MR.D} (h : okV d = true) : (m_check_number [.fz d, .fz (.int 0), .fz .non]).wp { nx := fun _ => isNat d = true, er := fun x _ => isNat d = false ∧ x = ⟨"InvalidNumber", [("number", d)]⟩ } := by
  unfold m_check_number
  walk_at "w"
  refine wp_callRet rfl rfl (p_is_nat h) (fun h => nomatch h) ?_
  walk_at "w"
  refine ifNB (fun q => ?_) (fun q => ?_)
  · walk_at "w"
    exact ⟨q, rfl⟩
  · walk_at "w"
    exact q
/-- the least number of blocks -/
noncomputable def leastN : List Bool → Nat
  | [] => 0
  | _ :: w => 1 + w.count true
theorem cntL (w : List Bool) : Txt.count (txtS (rwN w)) "l" = ((w.count true : Nat) : Int) := by
  have hq : ("l" : Str) = ⟨#[108]⟩ := by decide +kernel
  rw [hq, count_is]
  show cnt 108 (txtS (rwN w)).cps.toList = _
  rw [txtS_list]
  induction w with
  | nil => rfl
  | cons b w ih =>
    show cnt 108 ((if b then 108 else 104) :: rwN w) = _
    rw [cnt_cons, ih]
    cases b
    · simp
    · simp; omega
theorem p_block_count (w : List Bool) (h : w.length ≤ 900) : Ret (m_block_count [.fz (.str (txtS (rwN w)))]) (.fz (.int (leastN w : Int))) := by
  apply RetP.ret
  unfold m_block_count RetP
  walk_at "w"
  refine g_slS (lo := none) (hi := some ((1 : Nat) : Int)) (by rw [rw_len]; omega) ?_
  rw [cut_take]
  walk_at "w"
  have e : (Str.ofString "l") = ("l" : Str) := rfl
  rw [e, cntL]
  cases w with
  | nil =>
    refine ifD (fun h => absurd h (by decide +kernel)) (fun _ => ?_)
    walk_at "w"
    rfl
  | cons b w =>
    cases b with
    | true =>
      refine ifD (fun h => absurd (show txtS [108] = ("h" : Str) from h) (by decide +kernel)) (fun _ => ?_)
      walk_at "w"
      show Val.fz (.int (((true :: w).count true : Nat) + 0 : Int)) = .fz (.int ((1 + w.count true : Nat) : Int))
      rw [List.count_cons_self]
      congr 2
      omega
    | false =>
      refine ifD (fun _ => ?_) (fun h => absurd (show txtS [104] = ("h" : Str) by decide +kernel) h)
      walk_at "w"
      show Val.fz (.int (((false :: w).count true : Nat) + 1 : Int)) = .fz (.int ((1 + w.count true : Nat) : Int))
      rw [List.count_cons_of_ne (by decide)]
      congr 2
      omega
theorem least_le (w : List Bool) : leastN w ≤ w.length := by
  cases w with
  | nil => exact Nat.le_refl _
  | cons b w =>
    have := List.count_le_length (a := true) (l := w)
    show 1 + _ ≤ w.length + 1
    omega
theorem cuts_eq (w : List Bool) (b : Nat) : (cutsN w b : Int) = if ((b : Int) - (leastN w : Int)) < 0 then 0 else (chN (w.length - leastN w) ((b : Int) - (leastN w : Int)).toNat : Int) := by
  cases w with
  | nil =>
    rw [if_neg (by show ¬ ((b : Int) - 0 < 0); omega)]
    show ((if b = 0 then 1 else 0 : Nat) : Int) = (chN 0 ((b : Int) - 0).toNat : Int)
    rw [show ((b : Int) - 0).toNat = b from by omega]
    cases b <;> rfl
  | cons x w =>
    have e : w.count true + w.count false = w.length := by
      induction w with
      | nil => rfl
      | cons y w ih => cases y <;> simp <;> omega
    show ((if b < 1 + w.count true then 0 else chN (w.count false) (b - (1 + w.count true)) : Nat) : Int) = if ((b : Int) - ((1 + w.count true : Nat) : Int)) < 0 then 0 else (chN (w.length + 1 - (1 + w.count true)) ((b : Int) - ((1 + w.count true : Nat) : Int)).toNat : Int)
    by_cases h : b < 1 + w.count true
    · rw [if_pos h, if_pos (by omega)]; rfl
    · rw [if_neg h, if_neg (by omega), show w.length + 1 - (1 + w.count true) = w.count false from by omega, show ((b : Int) - ((1 + w.count true : Nat) : Int)).toNat = b - (1 + w.count true) from by omega]
theorem p_least (w : List Bool) (h : w.length ≤ 900) : Ret (m_least_blocks [.fz (.str (txtS (rwN w)))]) (.fz (.int (leastN w : Int))) := by
  apply RetP.ret
  unfold m_least_blocks RetP
  walk_at "w"
  refine wp_callNx rfl rfl (p_row_ok h) ?_
  walk_at "w"
  refine wp_callRet rfl rfl (p_block_count w h) (fun h => nomatch h) ?_
  walk_at "w"
  rfl
theorem p_cut_count (w : List Bool) (b : Nat) (h : w.length ≤ 900) : Ret (m_cut_count [.fz (.str (txtS (rwN w))), .fz (intN b), .un]) (.fz (.int (cutsN w b : Int))) := by
  apply RetP.ret
  unfold m_cut_count RetP
  walk_at "w"
  refine wp_callNx rfl rfl (p_row_ok h) ?_
  walk_at "w"
  refine wp_callNx rfl rfl (O.wp_mono (p_check_nat (d := intN b) rfl) (fun _ _ => trivial) (fun _ _ q => q) (fun _ q => q) (fun _ q => q) fun x e q => absurd q.1 (by rw [show isNat (intN b) = true from decide_eq_true (Int.natCast_nonneg b)]; simp)) ?_
  walk_at "w"
  refine wp_callRet rfl rfl (p_block_count w h) (fun h => nomatch h) ?_
  walk_at "w"
  refine g_lenS (by rw [txtS_len, rw_len]; exact len_ok2 (by omega)) ?_
  rw [txtS_len, rw_len]
  walk_at "w"
  have := least_le w
  rw [show ((w.length : Int) - (leastN w : Int)) = ((w.length - leastN w : Nat) : Int) from by omega]
  refine wp_callRet rfl rfl (p_choose (w.length - leastN w) ((b : Int) - (leastN w : Int)) (by omega)) (fun h => nomatch h) ?_
  rw [← cuts_eq]
  walk_at "w"
  rfl
end
section
theorem pos_filter (b : Bool) : ∀ (w : List Bool) (p : Nat), ((List.range w.length).filter fun i => decide (w[i]? = some b)).map (fun i => p + i) = posN p w b
  | [], _ => rfl
  | x :: w, p => by
    have ih := pos_filter b w (p + 1)
    have hm : (List.map (fun i => p + i) (List.filter (fun i => decide ((x :: w)[i]? = some b)) (List.map Nat.succ (List.range w.length)))) = posN (p + 1) w b := by
      rw [List.filter_map, List.map_map, ← ih]
      refine (List.map_congr_left fun i _ => ?_).trans (congrArg _ (List.filter_congr fun i _ => ?_))
      · show p + (i + 1) = p + 1 + i; omega
      · show decide ((x :: w)[i + 1]? = some b) = _
        rw [List.getElem?_cons_succ]
    show ((List.range (w.length + 1)).filter _).map _ = if x = b then p :: posN (p + 1) w b else posN (p + 1) w b
    rw [List.range_succ_eq_map]
    by_cases e : x = b
    · rw [if_pos e, List.filter_cons_of_pos (by simp [e]), List.map_cons, hm]; rfl
    · rw [if_neg e, List.filter_cons_of_neg (by simp [e]), hm]
theorem intsD_nats : ∀ xs : List Nat, intsD (xs.map fun n : Nat => intN n) = some (xs.map fun n : Nat => (n : Int))
  | [] => rfl
  | x :: xs => by
    show (intsD (xs.map fun n : Nat => intN n)).map _ = _
    rw [intsD_nats xs]; rfl
theorem g_sortN {xs ys : List Nat} {P : Val → Prop} (hp : ys.Perm xs) (hs : ys.Pairwise (· < ·)) (q : P (.new (natsD ys))) : ∃ r, fSorted [natsD xs] = some r ∧ P r := by
  refine ⟨_, ?_, q⟩
  have : fSortI [natsD xs] = some (.new (natsD ys)) := by
    show (intsD (xs.map fun n : Nat => intN n)).map _ = _
    rw [intsD_nats]
    show some (Val.new (.lst ((sortI (xs.map fun n : Nat => (n : Int))).map .int))) = _
    rw [← sortI_unique (hp.map _) (List.pairwise_map.mpr (hs.imp fun h => by omega)), List.map_map]
    rfl
  unfold fSorted orO
  rw [this]
/-- a cut by its choice -/
noncomputable def cutOf : List Bool → List Nat → MR.D
  | [], _ => .lst []
  | x :: t, c => .lst ((segL (rwN (x :: t)) 0 (plN 1 t 0 c ++ [t.length + 1])).map fun s => MR.D.str (txtS s))
noncomputable def freeN (w : List Bool) : Nat := w.tail.count false
noncomputable def combsOf (w : List Bool) (b : Nat) : List (List Nat) := if cutsN w b = 0 then [] else combs (freeN w) (freeN w) 0 (b - leastN w)
theorem row_at {w : List Bool} {i : Nat} {b : Bool} (h : w[i]? = some b) : (txtS (rwN w)).cps.toList[i]? = some (if b then 108 else 104) := by
  rw [txtS_list]
  show (w.map _)[i]? = _
  rw [List.getElem?_map, h]; rfl
theorem lc_pos (w : List Bool) (b : Bool) (z : Str) (hz : z = (if b = true then "l" else "h")) (h : w.length ≤ 800) {s1 s2 s3 s4 s6 : Sl} {Q : Val → En → Prop} {X : Xn → En → Prop}
    (q : Q (.new (natsD (posN 1 w.tail b))) [.fz (.str (txtS (rwN w))), s1, s2, s3, s4, .un, s6]) :
    (mLc (mRange2 (mCons (mC (.int 1)) (mCons (mCB fLenB (mCons (mVar 0) mNil)) mNil))) (gN 5)
      (mTest (mOp fEqA (mOr2 (mOp fIx (mVar 0) (mVar 5)) (mOp fDGet (mVar 0) (mVar 5))) (mC (.str z)))) (mVar 5) [5] [.fz (.str (txtS (rwN w))), s1, s2, s3, s4, .un, s6]).wp Q X := by
  have lt : w.tail.length = w.length - 1 := List.length_tail
  refine wp_lcW (fun i : Nat => intN (1 + i)) (List.range w.tail.length) (fun i => decide (w.tail[i]? = some b)) (fun i => intN (1 + i)) (wp_range2 ?_)
  walk_at "w"
  refine g_lenS (by rw [txtS_len, rw_len]; exact len_ok2 (by omega)) ?_
  rw [txtS_len, rw_len]
  walk_at "w"
  refine ⟨_, _, rfl, ⟨by omega, by omega, by omega, by omega⟩, ?_, rfl, len_ok2 (by rw [List.length_range]; omega), fun i hi => ⟨_, rfl, ?_, fun _ => ?_, rfl⟩, ?_⟩
  · show rangeD 1 ((w.length : Int) - 1).toNat = _
    unfold rangeD
    rw [lt, show ((w.length : Int) - 1).toNat = w.length - 1 from by omega]
    exact List.map_congr_left fun i _ => by show MR.D.int (1 + (i : Int)) = .int ((1 + i : Nat) : Int); congr 1
  · have hi := List.mem_range.mp hi
    obtain ⟨y, hy⟩ : ∃ y, w.tail[i]? = some y := ⟨w.tail[i], List.getElem?_eq_getElem hi⟩
    have hy2 : w[1 + i]? = some y := by
      rw [List.getElem?_tail] at hy
      rw [Nat.add_comm]; exact hy
    walk_at "w"
    refine wp_or2 ?_
    walk_at "w"
    refine g_ixS (by rw [txtS_len, rw_len]; exact len_ok2 (by omega)) (row_at hy2) ?_
    walk_at "w"
    refine ⟨?_, rfl⟩
    rw [hy, hz]
    cases y <;> cases b <;> decide +kernel
  · walk_at "w"
    first | rfl | exact ⟨rfl, rfl⟩
  · have e : (List.filter (fun i => decide (w.tail[i]? = some b)) (List.range w.tail.length)).map (fun i => intN (1 + i)) = (posN 1 w.tail b).map fun n : Nat => intN n := by
      rw [← pos_filter, List.map_map]; rfl
    rw [e]
    exact q
theorem cuts_pos {w : List Bool} {b : Nat} (h : cutsN w b ≠ 0) : leastN w ≤ b ∧ b - leastN w ≤ freeN w ∧ cutsN w b = chN (freeN w) (b - leastN w) := by
  cases w with
  | nil =>
    by_cases q : b = 0
    · subst q; exact ⟨Nat.le_refl _, Nat.le_refl _, rfl⟩
    · exact absurd (if_neg q) h
  | cons x w =>
    by_cases q : b < 1 + w.count true
    · exact absurd (if_pos q) h
    · have e : cutsN (x :: w) b = chN (w.count false) (b - (1 + w.count true)) := if_neg q
      refine ⟨by show 1 + _ ≤ b; omega, ?_, e⟩
      by_cases z : b - leastN (x :: w) ≤ freeN (x :: w)
      · exact z
      · rw [e] at h
        exact absurd (chN_above _ _ (by have z : ¬ b - (1 + w.count true) ≤ w.count false := z; omega)) h
theorem g_rg {k : Nat} {P : Val → Prop} (h : k ≤ 900) (q : P (.new (natsD (upF 0 k)))) : ∃ r, fRgL1 (.int (k : Int)) = some r ∧ P r := by
  refine ⟨_, gdO_pos (show okRg 0 (k : Int) from ⟨by omega, by omega, by omega, by omega, by omega⟩), ?_⟩
  have e : rangeD 0 ((k : Int) - 0).toNat = (upF 0 k).map fun n : Nat => intN n := by
    rw [show ((k : Int) - 0) = ((k : Nat) : Int) from by omega, rangeN, upF_map, List.map_map]
    exact List.map_congr_left fun i _ => by show intN i = intN (0 + i); rw [Nat.zero_add]
  rw [e]
  exact q
theorem p_cutC {w : List Bool} {c : List Nat} {n : Nat} (h : w.length ≤ 400) (hA : Asc n 0 c) (hn : n ≤ freeN w) (lc : c.length ≤ 400) : RetP (m_cut_at [.fz (.str (txtS (rwN w))), .fz (natsD (plN 1 w.tail 0 c)), .un, .un, .un]) (fun v => v = .new (cutOf w c)) := by
  cases w with
  | nil => exact p_cut0 _
  | cons x t =>
    have hlt : t.length + 1 ≤ 400 := h
    have hu := pl_up t 1 0 c 0 (Nat.zero_lt_one)
    rw [Nat.add_comm] at hu
    have lr : (rwN (x :: t)).length = t.length + 1 := rw_len _
    have lp := pl_len t 1 0 c hA (by show n ≤ 0 + t.count false; have : n ≤ t.count false := hn; omega)
    have := p_cut (rwN (x :: t)) (plN 1 t 0 c) (by intro z; cases z) (by omega) (by rw [lp]; have := List.count_le_length (a := true) (l := t); omega) (by rw [lr]; exact hu) fun p hp => by
      rw [lr]
      have hq := (up_pair _ 0 hu).2
      rw [List.pairwise_append] at hq
      exact Nat.le_of_lt (hq.2.2 p hp _ List.mem_cons_self)
    rw [lr] at this
    exact this
theorem p_each (w : List Bool) (b : Nat) (h : w.length ≤ 400) (hc : cutsN w b ≤ 900) :
    RetP (m_each_cut [.fz (.str (txtS (rwN w))), .fz (intN b), .un, .un, .un, .un, .un]) (fun v => v = .new (.lst ((combsOf w b).map (cutOf w)))) := by
  unfold m_each_cut RetP
  refine wp_gen ?_
  walk_at "wn"
  refine wp_if ?_
  walk_at "wn"
  refine wp_callRet rfl rfl (p_cut_count w b (by omega)) (fun h => nomatch h) ?_
  walk_at "wn"
  refine ifD (fun h0 => ?_) (fun h0 => ?_)
  · have h0 : (cutsN w b : Int) = 0 := h0
    walk_at "w"
    unfold combsOf
    rw [if_pos (by omega)]
    rfl
  · have h0 : ¬ (cutsN w b : Int) = 0 := h0
    have h0 : cutsN w b ≠ 0 := fun z => h0 (by rw [z]; rfl)
    walk_at "wn"
    refine lc_pos w true _ (by decide +kernel) (by omega) ?_
    walk_at "wn"
    refine lc_pos w false _ (by decide +kernel) (by omega) ?_
    walk_at "wn"
    refine wp_callRet rfl rfl (p_block_count w (by omega)) (fun h => nomatch h) ?_
    walk_at "wn"
    obtain ⟨lb, kf, ce⟩ := cuts_pos h0
    rw [show ((b : Int) - (leastN w : Int)) = ((b - leastN w : Nat) : Int) from by omega]
    have fl : freeN w ≤ w.length := Nat.le_trans List.count_le_length (by rw [List.length_tail]; omega)
    refine g_rg (by omega) ?_
    walk_at "wn"
    have eC : combsOf w b = combs (freeN w) (freeN w) 0 (b - leastN w) := if_neg h0
    rw [eC]
    have lC := combs_count (freeN w) (freeN w) 0 (b - leastN w)
    rw [← ce] at lC
    obtain ⟨L, hL⟩ := combs_head (freeN w) (freeN w) 0 (b - leastN w) kf
    have cC := combs_chn (freeN w) (freeN w) 0 (b - leastN w) (Nat.zero_add _) kf
    have aC := combs_asc (freeN w) (freeN w) 0 (b - leastN w) (Nat.zero_add _)
    have nC := combs_len (freeN w) (freeN w) 0 (b - leastN w)
    generalize hk : b - leastN w = k at *
    generalize hCC : combs (freeN w) (freeN w) 0 k = C at *
    refine wp_genloop (fun j ds e => ∃ done rest : List (List Nat), C = done ++ rest ∧ rest.length = j ∧ ds = done.map (cutOf w) ∧ ∃ s5, e = [.fz (.str (txtS (rwN w))), .fz (intN b), .ow false false (natsD (posN 1 w.tail true)), .ow false false (natsD (posN 1 w.tail false)), s5, .un, .un] ∧
        (rest = [] → s5 = .fz .non) ∧ ∀ c r, rest = c :: r → s5 = .ow false false (natsD c) ∧ Chn (freeN w) rest) 1000 _ _ C.length (by omega) ⟨[], C, rfl, rfl, rfl, _, rfl, fun z => (by rw [hL] at z; cases z), fun c r z => ?_⟩ ?_
    · rw [hL] at z
      cases z
      exact ⟨rfl, cC⟩
    · rintro j ds e ⟨done, rest, hC, rfl, rfl, s5, rfl, h1, h2⟩
      cases rest with
      | nil =>
        rw [h1 rfl]
        walk_at "w"
        refine ifFe rfl ?_
        rw [hC, List.append_nil]
      | cons c r =>
        obtain ⟨rfl, ch⟩ := h2 c r rfl
        have hc := aC c (by rw [hC]; exact List.mem_append_right _ List.mem_cons_self)
        have lc := nC c (by rw [hC]; exact List.mem_append_right _ List.mem_cons_self)
        walk_at "wn"
        refine ifTe rfl ?_
        walk_at "wn"
        have lp : (posN 1 w.tail false).length = freeN w := pos_len _ _ _
        have lt : (posN 1 w.tail true).length ≤ w.length := by rw [pos_len]; exact Nat.le_trans List.count_le_length (by rw [List.length_tail]; omega)
        refine wp_lcW (fun n : Nat => intN n) c (fun _ => true) (fun n => intN ((posN 1 w.tail false).getD n 0)) (wp_seqL ?_)
        walk_at "wn"
        refine ⟨_, _, rfl, rfl, rfl, len_ok2 (by omega), fun n hn => ⟨_, rfl, ⟨rfl, rfl⟩, fun _ => ?_, rfl⟩, ?_⟩
        · have hnl := (asc_lt c 0 hc n hn).2
          walk_at "w"
          refine g_ixMap (x := (posN 1 w.tail false).getD n 0) ?_ ?_
          · rw [List.getD_eq_getElem?_getD, List.getElem?_eq_getElem (by omega)]; rfl
          · walk_at "w"
            first | rfl | exact ⟨rfl, rfl⟩
        rw [List.filter_eq_self.mpr (fun _ _ => rfl)]
        walk_at "wn"
        refine g_catL (a := (posN 1 w.tail true).map fun n : Nat => intN n) (b := c.map fun n => intN ((posN 1 w.tail false).getD n 0)) (by rw [List.length_map, List.length_map]; omega) ?_
        walk_at "wn"
        have eS : ((posN 1 w.tail true).map fun n : Nat => intN n) ++ (c.map fun n => intN ((posN 1 w.tail false).getD n 0)) = (posN 1 w.tail true ++ c.map fun i => (posN 1 w.tail false).getD (i - 0) 0).map fun n : Nat => intN n := by
          rw [List.map_append, List.map_map]; rfl
        rw [eS]
        refine g_sortN (ys := plN 1 w.tail 0 c) (pl_perm w.tail 1 0 c hc (by show freeN w ≤ 0 + freeN w; omega)) ?_ ?_
        · have hq := (up_pair _ 0 (pl_up w.tail 1 0 c 0 Nat.zero_lt_one)).2
          exact (List.pairwise_append.mp hq).1
        walk_at "wn"
        refine callK_at [.fz (.str (txtS (rwN w))), .fz (intN b), .ow false false (natsD (posN 1 w.tail true)), .ow false false (natsD (posN 1 w.tail false)), .ow false false (natsD c), .un, .un] rfl ?_
        refine wp_callRetP rfl rfl (p_cutC h hc (Nat.le_refl _) (by omega)) ?_
        rintro _ rfl
        refine ⟨(fun h => nomatch h), ?_⟩
        walk_at "wn"
        have lD : done.length + (r.length + 1) = C.length := by rw [hC, List.length_append]; rfl
        refine ⟨by rw [List.length_map]; exact Nat.lt_of_lt_of_le (Nat.lt_of_lt_of_le (by omega : done.length < 1000) (by decide)) (Nat.le_refl _), ?_⟩
        walk_at "wn"
        rw [List.length_map, lp]
        refine wp_callRetP rfl rfl (p_next c (freeN w) 0 hc (by omega) (by omega)) ?_
        have hC2 : C = (done ++ [c]) ++ r := by rw [hC, List.append_assoc]; rfl
        have eD : (done.map (cutOf w)) ++ [cutOf w c] = (done ++ [c]).map (cutOf w) := by rw [List.map_append]; rfl
        intro v hv
        refine ⟨(fun h => nomatch h), ?_⟩
        cases ch with
        | one hx =>
          rw [hx] at hv
          rw [show v = .fz .non from hv]
          walk_at "w"
          exact ⟨0, Nat.zero_lt_one, done ++ [c], [], hC2, rfl, eD, _, rfl, fun _ => rfl, fun _ _ z => nomatch z⟩
        | cons hx t =>
          rename_i y L2
          rw [hx] at hv
          rw [show v = .new (natsD y) from hv]
          walk_at "w"
          exact ⟨_, Nat.lt_succ_self _, done ++ [c], y :: L2, hC2, rfl, eD, _, rfl, fun z => (by cases z), fun c2 r2 z => (by cases z; exact ⟨rfl, t⟩)⟩
end
section
theorem t_is_number (a b : Int) : Ret (m__law_is_number [.fz (.int a), .fz (.int b)]) (.fz (.bl (decide (a = b)))) := by
  apply RetP.ret
  unfold m__law_is_number RetP
  walk_at "w"
  rfl
noncomputable abbrev wordsD (S : List (List Nat)) : MR.D := .lst (S.map fun s => MR.D.str (txtS s))
structure GoodCut (x : List Nat) (b : Nat) (S : List (List Nat)) : Prop where
  len : S.length = b
  each : ∀ s ∈ S, s ≠ [] ∧ 108 ∉ s.tail
  join : S.flatten = x
theorem strs_txt : ∀ S : List (List Nat), strsD (S.map fun s => MR.D.str (txtS s)) = some (S.map txtS)
  | [] => rfl
  | s :: S => by
    show (strsD (S.map fun s => MR.D.str (txtS s))).map _ = _
    rw [strs_txt S]; rfl
theorem sum_flat : ∀ S : List (List Nat), ((S.map txtS).map (·.length)).sum = S.flatten.length
  | [] => rfl
  | s :: S => by
    show (txtS s).length + ((S.map txtS).map (·.length)).sum = (s ++ S.flatten).length
    rw [sum_flat S, List.length_append, txtS_len]
theorem t_is_cut {x : List Nat} {b : Nat} {S : List (List Nat)} (h : GoodCut x b S) (hl : x.length ≤ 400) (hb : b ≤ 900) : Ret (m__law_is_cut [.fz (wordsD S), .fz (.str (txtS x)), .fz (intN b), .un]) (.fz (.bl true)) := by
  apply RetP.ret
  unfold m__law_is_cut RetP
  walk_at "wn"
  refine wp_if (wp_or ?_)
  walk_at "w"
  refine ifFe rfl ?_
  walk_at "w"
  rw [List.length_map, h.len]
  refine ifND (fun z => absurd rfl z) (fun _ => ?_)
  walk_at "wn"
  refine wp_forL (fun s => MR.D.str (txtS s)) S (fun _ e => ∃ s3, e = [.fz (wordsD S), .fz (.str (txtS x)), .fz (intN b), s3] ∧ canSet (some s3) = true) (wp_seqL ?_)
  walk_at "wn"
  refine ⟨_, _, rfl, rfl, ⟨_, rfl, rfl⟩, ?_, ?_⟩
  · rintro pre s post e hS ⟨s3, rfl, c3⟩
    have hs := h.each s (by rw [hS]; exact List.mem_append_right _ List.mem_cons_self)
    have ls : s.length ≤ x.length := by
      rw [← h.join, hS, List.flatten_append, List.length_append, List.flatten_cons, List.length_append]
      omega
    refine ⟨_, if_pos c3, ?_⟩
    refine wp_if (wp_or ?_)
    walk_at "w"
    refine ifFe rfl (wp_or ?_)
    walk_at "w"
    refine ifD (fun z => absurd ?_ hs.1) (fun _ => ?_)
    · have := congrArg (fun z : Str => z.cps.toList) (show txtS s = Str.ofString "" from z)
      rw [txtS_list] at this
      exact this
    walk_at "w"
    refine g_slS (lo := some ((1 : Nat) : Int)) (hi := none) (by omega) ?_
    rw [cut_drop]
    walk_at "w"
    refine ifD (fun z => absurd (show 108 ∈ (txtS (s.drop 1)).cps.toList from z) ?_) (fun _ => ?_)
    · rw [txtS_list, List.drop_one]
      exact hs.2
    walk_at "w"
    exact ⟨_, rfl, rfl⟩
  · rintro e ⟨s3, rfl, c3⟩
    walk_at "wn"
    refine ⟨_, rfl, ?_⟩
    walk_at "wn"
    refine ⟨_, _, _, rfl, rfl, strs_txt S, by rw [sum_flat, h.join]; show x.length + _ * 0 ≤ _; omega, ?_⟩
    have e : Txt.join (Str.ofString "") (S.map txtS) = txtS x := by rw [← h.join]; exact join_txt S
    rw [e]
    walk_at "w"
    show Val.fz (.bl (decide (txtS x = txtS x))) = _
    rw [decide_eq_true rfl]
end
section
theorem lex_int : ∀ (a b : List Nat), LxN a b → HT.lexLt (a.map fun n : Nat => (n : Int)) (b.map fun n : Nat => (n : Int)) = true
  | [], [], h => h.elim
  | [], _ :: _, _ => rfl
  | _ :: _, [], h => h.elim
  | x :: a, y :: b, h => by
    rw [List.map_cons, List.map_cons, HT.lexLt_cons]
    rcases h with h | ⟨h, h2⟩
    · rw [if_neg (by omega)]
      exact decide_eq_true (by omega)
    · rw [if_pos (by rw [h])]
      exact lex_int a b h2
noncomputable def szs (S : List (List Nat)) : List Nat := S.map List.length
theorem g_ltL {a b : List Nat} {P : Val → Prop} (h : LxN a b) (q : P (.fz (.bl true))) : ∃ r, fLtB (natsD a) (natsD b) = some r ∧ P r := by
  refine ⟨_, ?_, q⟩
  have : fLtL (natsD a) (natsD b) = some (.fz (.bl true)) := by
    unfold fLtL nums natsD
    dsimp only
    rw [intsD_nats, intsD_nats]
    dsimp only
    rw [lex_int a b h]
  unfold fLtB orO
  rw [this]
  rfl
theorem t_is_listing {x : List Nat} {b : Nat} {Ss : List (List (List Nat))} (hg : ∀ S ∈ Ss, GoodCut x b S) (hx : ∀ pre p S post, Ss = pre ++ p :: S :: post → LxN (szs p) (szs S)) (hl : x.length ≤ 400) (hb : b ≤ 900) :
    Ret (m__law_is_listing [.fz (.lst (Ss.map wordsD)), .fz (.str (txtS x)), .fz (intN b), .fz (intN Ss.length), .un, .un, .un, .un]) (.fz (.bl true)) := by
  apply RetP.ret
  unfold m__law_is_listing RetP
  walk_at "w"
  rw [List.length_map]
  refine ifND (fun z => absurd rfl z) (fun _ => ?_)
  walk_at "wn"
  refine wp_forL wordsD Ss (fun pre e => ∃ s4 s5 s6, e = [.fz (.lst (Ss.map wordsD)), .fz (.str (txtS x)), .fz (intN b), .fz (intN Ss.length), s4, s5, s6, .un] ∧ (pre = [] → s4 = .ow false false (.lst [])) ∧ (∀ ini p, pre = ini ++ [p] → s4 = .ow false false (.lst [natsD (szs p)])) ∧ canSet (some s5) = true ∧ canSet (some s6) = true) (wp_seqL ?_)
  walk_at "wn"
  refine ⟨_, _, rfl, rfl, ⟨_, _, _, rfl, fun _ => rfl, fun ini p z => absurd (congrArg List.length z) (by simp), rfl, rfl⟩, ?_, ?_⟩
  · rintro pre S post e hS ⟨s4, s5, s6, rfl, h1, h2, c5, c6⟩
    have gS := hg S (by rw [hS]; exact List.mem_append_right _ List.mem_cons_self)
    have lS : ∀ s ∈ S, s.length ≤ x.length := fun s hs => by
      obtain ⟨a, c, e⟩ := List.append_of_mem hs
      rw [← gS.join, e, List.flatten_append, List.length_append, List.flatten_cons, List.length_append]
      omega
    refine ⟨_, if_pos c5, ?_⟩
    walk_at "wn"
    refine wp_if ?_
    walk_at "wn"
    refine wp_callRet rfl rfl (t_is_cut gS hl hb) (fun h => nomatch h) ?_
    walk_at "wn"
    refine ifFe rfl ?_
    walk_at "wn"
    refine wp_lcW (fun s => MR.D.str (txtS s)) S (fun _ => true) (fun s : List Nat => intN s.length) (wp_seqL ?_)
    walk_at "wn"
    refine ⟨_, _, rfl, rfl, rfl, len_ok2 (by rw [gS.len]; omega), fun s hs => ⟨_, rfl, ⟨rfl, rfl⟩, fun _ => ?_, rfl⟩, ?_⟩
    · have := lS s hs
      walk_at "w"
      refine g_lenS (by rw [txtS_len]; exact len_ok2 (by omega)) ?_
      rw [txtS_len]
      walk_at "w"
      first | rfl | exact ⟨rfl, rfl⟩
    rw [List.filter_eq_self.mpr (fun _ _ => rfl)]
    have eS : (S.map fun s : List Nat => intN s.length) = (szs S).map fun n : Nat => intN n := by
      unfold szs
      rw [List.map_map]; rfl
    rw [eS]
    refine wp_setN c6 ?_
    refine wp_seq ?_
    have c4 : canSet (some s4) = true := by
      rcases List.eq_nil_or_concat pre with hp | ⟨ini, p, hp⟩
      · rw [h1 hp]; rfl
      · rw [List.concat_eq_append] at hp
        rw [h2 ini p hp]; rfl
    refine wp_cut (fun e => e = [.fz (.lst (Ss.map wordsD)), .fz (.str (txtS x)), .fz (intN b), .fz (intN Ss.length), s4, .fz (wordsD S), .ow false false (natsD (szs S)), .un]) ?_ ?_
    · refine wp_if (wp_and ?_)
      rcases List.eq_nil_or_concat pre with hp | ⟨ini, p, hp⟩
      · rw [h1 hp]
        walk_at "w"
        refine ifFe rfl ?_
        walk_at "w"
        rfl
      · rw [List.concat_eq_append] at hp
        rw [h2 ini p hp]
        have pl : plainD 2 (.lst [natsD (szs p)]) := fun d hd => by
          rw [List.mem_singleton.mp hd]
          exact fun d hd => by
            obtain ⟨n, _, rfl⟩ := List.mem_map.mp hd
            exact plain_int _ _
        have hlx := hx ini p S post (by rw [hS, hp, List.append_assoc]; rfl)
        walk_at "w"
        refine g_ne (n := 2) (by decide) pl (plain_nil 1) fun t ht => ?_
        have ht : t = true := ht.mpr fun z => (by cases z)
        subst ht
        walk_at "w"
        refine g_ltL hlx ?_
        walk_at "w"
        rfl
    · rintro e rfl
      walk_at "w"
      refine ⟨_, _, _, rfl, fun z => absurd (congrArg List.length z) (by simp), fun i2 p2 z => ?_, rfl, rfl⟩
      have := (List.append_inj' z rfl).2
      cases this
      rfl
  · rintro e ⟨s4, s5, s6, rfl, _⟩
    walk_at "w"
    rfl
end
section
noncomputable def segsOf : List Bool → List Nat → List (List Nat)
  | [], _ => []
  | x :: t, c => segL (rwN (x :: t)) 0 (plN 1 t 0 c ++ [t.length + 1])
theorem cutOf_words (w : List Bool) (c : List Nat) : cutOf w c = wordsD (segsOf w c) := by cases w <;> rfl
theorem seg_map {α β : Type} (f : α → β) (x : List α) : ∀ (E : List Nat) (c : Nat), segL (x.map f) c E = (segL x c E).map (List.map f)
  | [], _ => rfl
  | e :: r, c => by
    show ((x.map f).drop c).take (e - c) :: segL (x.map f) e r = ((x.drop c).take (e - c)).map f :: (segL x e r).map (List.map f)
    rw [seg_map f x r e, ← List.map_drop, ← List.map_take]
theorem chn_pair {n : Nat} {L : List (List Nat)} (h : Chn n L) : ∀ pre c d post, L = pre ++ c :: d :: post → nxtC n c = some d := by
  induction h with
  | one h =>
    intro pre c d post e
    have := congrArg List.length e
    simp at this
    omega
  | cons h t ih =>
    intro pre c d post e
    cases pre with
    | nil =>
      cases e
      exact h
    | cons a pre => exact ih pre c d post (List.cons.inj e).2
theorem combsOf_mem {w : List Bool} {b : Nat} {c : List Nat} (h : c ∈ combsOf w b) : cutsN w b ≠ 0 ∧ Asc (freeN w) 0 c ∧ c.length = b - leastN w := by
  unfold combsOf at h
  by_cases z : cutsN w b = 0
  · rw [if_pos z] at h; cases h
  · rw [if_neg z] at h
    exact ⟨z, combs_asc _ _ 0 _ (Nat.zero_add _) c h, combs_len _ _ 0 _ c h⟩
theorem good_cut {w : List Bool} {b : Nat} {c : List Nat} (h : c ∈ combsOf w b) : GoodCut (rwN w) b (segsOf w c) := by
  obtain ⟨hc, hA, hl⟩ := combsOf_mem h
  obtain ⟨lb, _, _⟩ := cuts_pos hc
  cases w with
  | nil =>
    refine ⟨?_, fun s hs => (by cases hs), rfl⟩
    by_cases z : b = 0
    · rw [z]; rfl
    · exact absurd (if_neg z) hc
  | cons x t =>
    have hu := pl_up t 1 0 c 0 Nat.zero_lt_one
    rw [Nat.add_comm] at hu
    have lr : (rwN (x :: t)).length = t.length + 1 := rw_len _
    have lp := pl_len t 1 0 c hA (by show freeN (x :: t) ≤ 0 + t.count false; exact Nat.le_of_eq (Nat.zero_add _).symm)
    have hle : ∀ e ∈ plN 1 t 0 c ++ [t.length + 1], e ≤ t.length + 1 := fun e he => by
      rcases List.mem_append.mp he with q | q
      · have hq := (up_pair _ 0 hu).2
        rw [List.pairwise_append] at hq
        exact Nat.le_of_lt (hq.2.2 e q _ List.mem_cons_self)
      · rw [List.mem_singleton.mp q]; exact Nat.le_refl _
    refine ⟨?_, fun s hs => ?_, ?_⟩
    · show (segL _ 0 _).length = b
      rw [seg_len, List.length_append, lp, hl]
      show t.count true + (b - (1 + t.count true)) + 1 = b
      have lb : 1 + t.count true ≤ b := lb
      omega
    · have hs : s ∈ segL ((x :: t).map fun b => if b then 108 else 104) 0 (plN 1 t 0 c ++ [t.length + 1]) := hs
      rw [seg_map] at hs
      obtain ⟨u, hu2, rfl⟩ := List.mem_map.mp hs
      have hg := pl_gap (x :: t) t 1 0 c 0 rfl Nat.zero_lt_one fun i h1 h2 => by omega
      rw [Nat.add_comm] at hg
      obtain ⟨n1, n2⟩ := seg_noload _ 0 hg hu (fun e he => hle e he) u hu2
      refine ⟨fun z => n1 (List.map_eq_nil_iff.mp z), fun z => ?_⟩
      rw [← List.map_tail] at z
      obtain ⟨y, hy, e⟩ := List.mem_map.mp z
      cases y with
      | true => exact n2 hy
      | false => exact absurd e (by decide)
    · show (segL (rwN (x :: t)) 0 (plN 1 t 0 c ++ [t.length + 1])).flatten = _
      rw [seg_join _ 0 _ hu lr.symm]; rfl
theorem good_order {w : List Bool} {b : Nat} : ∀ pre p S post, (combsOf w b).map (segsOf w) = pre ++ p :: S :: post → LxN (szs p) (szs S) := by
  intro pre p S post e
  obtain ⟨l1, l2, e1, rfl, e2⟩ := List.map_eq_append_iff.mp e
  obtain ⟨c, l3, rfl, rfl, e3⟩ := List.map_eq_cons_iff.mp e2
  obtain ⟨d, l4, rfl, rfl, rfl⟩ := List.map_eq_cons_iff.mp e3
  have hc := combsOf_mem (w := w) (b := b) (c := c) (by rw [e1]; simp)
  have hd := combsOf_mem (w := w) (b := b) (c := d) (by rw [e1]; simp)
  obtain ⟨_, kf, _⟩ := cuts_pos hc.1
  have e1 : combsOf w b = l1 ++ c :: d :: l4 := e1
  have eC : combsOf w b = combs (freeN w) (freeN w) 0 (b - leastN w) := if_neg hc.1
  rw [eC] at e1
  have hx := nxt_up _ _ _ (chn_pair (combs_chn (freeN w) (freeN w) 0 (b - leastN w) (Nat.zero_add _) kf) l1 c d l4 e1)
  cases w with
  | nil =>
    have h1 : c.length = b - 0 := hc.2.2
    have hb : b = 0 := by
      by_cases z : b = 0
      · exact z
      · exact absurd (if_neg z) hc.1
    have h2 : c = [] := List.length_eq_zero_iff.mp (by omega)
    have h3 : d = [] := List.length_eq_zero_iff.mp (by have : d.length = b - 0 := hd.2.2; omega)
    subst h2 h3
    exact hx.elim
  | cons x t =>
    have up : ∀ c, Up 0 (plN 1 t 0 c ++ [t.length + 1]) := fun c => by
      have hu := pl_up t 1 0 c 0 Nat.zero_lt_one
      rw [Nat.add_comm] at hu
      exact hu
    have lr : (rwN (x :: t)).length = t.length + 1 := rw_len _
    have sz : ∀ c, szs (segsOf (x :: t) c) = szN 0 (plN 1 t 0 c ++ [t.length + 1]) := fun c => seg_sizes _ 0 (up c) fun e he => by
      rw [lr]
      rcases List.mem_append.mp he with q | q
      · have hq := (up_pair _ 0 (up c)).2
        rw [List.pairwise_append] at hq
        exact Nat.le_of_lt (hq.2.2 e q _ List.mem_cons_self)
      · rw [List.mem_singleton.mp q]; exact Nat.le_refl _
    rw [sz, sz]
    refine sz_lex _ _ 0 (up c) (up d) ?_
    have := pl_lex t 1 0 c d hc.2.1 hd.2.1 (Nat.le_of_eq (Nat.zero_add _).symm) (by rw [hc.2.2, hd.2.2]) hx
    rw [Nat.add_comm] at this
    exact this
end
section
theorem rep_one (q : Nat) (d : MR.D) : (List.replicate q [d]).flatten = List.replicate q d := by
  induction q with
  | zero => rfl
  | succ q ih =>
    rw [List.replicate_succ, List.flatten_cons, ih]
    rfl
theorem rep0 (n : Nat) (h : n ≤ 1000) : fMulB (.lst [.int 0]) (intN n) = some (.new (.lst (List.replicate n (intN 0)))) := by
  have h0 : [MR.D.int 0].length * ((n : Nat) : Int).toNat = n := by
    rw [Int.toNat_natCast]
    exact Nat.one_mul n
  have h1 : [MR.D.int 0].length * ((n : Nat) : Int).toNat ≤ sizeLine := by
    rw [h0]
    exact len_ok2 h
  have e2 : fRep (.lst [.int 0]) (.int ((n : Nat) : Int)) = some (.new (.lst (List.replicate ((n : Nat) : Int).toNat [MR.D.int 0]).flatten)) := gdO_pos ⟨by omega, by omega, h1⟩
  have e3 : fMul (.lst [.int 0]) (.int ((n : Nat) : Int)) = none := rfl
  unfold fMulB fMulA
  rw [e2, e3, Int.toNat_natCast, rep_one]
  rfl
noncomputable def waysD (w : List Bool) (n : Nat) : MR.D := .lst ((List.range (n + 4)).map fun b => intN (cutsN w b))
theorem ways0 (n : Nat) : [MR.D.int 1] ++ List.replicate (n + 3) (intN 0) = (List.range (n + 4)).map fun b => intN (cutsN [] b) := by
  rw [List.range_succ_eq_map, List.map_cons, List.map_map]
  show intN 1 :: List.replicate (n + 3) (intN 0) = intN 1 :: _
  congr 1
  refine List.ext_getElem (by simp) fun i h1 h2 => ?_
  simp [cutsN]
/-- the table while it is made: up to j as they will be -/
noncomputable def halfD (w : List Bool) (n j : Nat) : List MR.D := (List.range (n + 4)).map fun b => intN (if b ≤ j then cutsN w b else 0)
theorem half0 (x : Bool) (w : List Bool) (n : Nat) : List.replicate (n + 4) (intN 0) = halfD (x :: w) n 0 := by
  refine List.ext_getElem (by simp [halfD]) fun i h1 h2 => ?_
  simp only [halfD, List.getElem_replicate, List.getElem_map, List.getElem_range]
  by_cases z : i ≤ 0
  · rw [if_pos z, show i = 0 from by omega, cuts_zero]
  · rw [if_neg z]
theorem half_end (w : List Bool) (n : Nat) (h : w.length ≤ n) : halfD w n n = (List.range (n + 4)).map fun b => intN (cutsN w b) := by
  refine List.map_congr_left fun b _ => ?_
  by_cases z : b ≤ n
  · rw [if_pos z]
  · rw [if_neg z, cuts_above w b (by omega)]
theorem half_set (w : List Bool) (n j : Nat) : (halfD w n j).set (j + 1) (intN (cutsN w (j + 1))) = halfD w n (j + 1) := by
  refine List.ext_getElem (by simp [halfD]) fun i h1 h2 => ?_
  rw [List.getElem_set]
  simp only [halfD, List.getElem_map, List.getElem_range]
  by_cases z : j + 1 = i
  · subst z
    rw [if_pos rfl, if_pos (Nat.le_refl _)]
  · rw [if_neg z]
    by_cases q : i ≤ j
    · rw [if_pos q, if_pos (by omega)]
    · rw [if_neg q, if_neg (by omega)]
theorem ways_at (w : List Bool) (n b : Nat) (h : b < n + 4) : ((List.range (n + 4)).map fun b => intN (cutsN w b))[b]? = some (intN (cutsN w b)) := by
  rw [List.getElem?_map, List.getElem?_range h]; rfl
theorem t_ways (w : List Bool) (h : w.length ≤ 400) : RetP (m__law_ways [.fz (.str (txtS (rwN w))), .un, .un, .un, .un]) (fun v => v = .new (waysD w w.length) ∨ v = .fz (waysD w w.length)) := by
  unfold m__law_ways RetP
  walk_at "wn"
  refine g_lenS (by rw [txtS_len, rw_len]; exact len_ok2 (by omega)) ?_
  rw [txtS_len, rw_len]
  (repeat first | ((with_reducible refine (id ?_ : R.wp _ _ _)); walk_at "wr"))
  refine ex2 rfl rfl ?_
  refine ex1 rfl ?_
  (repeat first | ((with_reducible refine (id ?_ : R.wp _ _ _)); walk_at "wr"))
  refine ex2 rfl rfl ?_
  rw [show ((w.length : Int) + 3) = ((w.length + 3 : Nat) : Int) from rfl]
  refine ⟨_, rep0 (w.length + 3) (by omega), ?_⟩
  (repeat first | ((with_reducible refine (id ?_ : R.wp _ _ _)); walk_at "wr"))
  refine ex2 rfl rfl ?_
  refine g_catL (by rw [List.length_replicate]; show 1 + _ ≤ 1000; omega) ?_
  rw [ways0]
  walk_at "wn"
  refine wp_forR 0 w.length (fun k e => ∃ s1 s2 s3 s4, e = [.fz (.str (txtS (rwN w))), s1, s2, s3, s4] ∧ (s1 = .ow false false (waysD (w.take k) w.length) ∨ s1 = .fz (waysD (w.take k) w.length)) ∧ canSet (some s2) = true ∧ canSet (some s3) = true ∧ canSet (some s4) = true) (wp_range1 ?_)
  (repeat first | ((with_reducible refine (id ?_ : R.wp _ _ _)); walk_at "wr"))
  refine ex1 rfl ?_
  refine g_lenS (by rw [txtS_len, rw_len]; exact len_ok2 (by omega)) ?_
  rw [txtS_len, rw_len]
  (repeat first | ((with_reducible refine (id ?_ : R.wp _ _ _)); walk_at "wr"))
  refine ⟨_, rfl, ⟨by omega, by omega⟩, by rw [Int.toNat_natCast], ⟨_, _, _, _, rfl, .inl rfl, rfl, rfl, rfl⟩, ?_, ?_⟩
  · rintro k e hk ⟨s1, s2, s3, s4, rfl, h1, c2, c3, c4⟩
    rw [Int.zero_add]
    obtain ⟨y, hy⟩ : ∃ y, w[k]? = some y := ⟨w[k], List.getElem?_eq_getElem hk⟩
    have hT : w.take (k + 1) = w.take k ++ [y] := by rw [List.take_add_one, hy]; rfl
    have lT : (w.take (k + 1)).length ≤ w.length := by rw [List.length_take]; omega
    obtain ⟨x0, w0, hx0⟩ : ∃ x0 w0, w.take (k + 1) = x0 :: w0 := by
      cases hq : w.take (k + 1) with
      | nil => rw [hT] at hq; simp at hq
      | cons a b => exact ⟨a, b, rfl⟩
    have rd1 : ∀ (i : Nat), i < w.length + 4 → ∀ {P : Val → Prop}, P (.fz (intN (cutsN (w.take k) i))) → ∃ r, fIx (waysD (w.take k) w.length) (.int (i : Int)) = some r ∧ P r := fun i hi P q => g_ixL (ways_at _ _ _ hi) q
    refine ⟨_, if_pos c2, ?_⟩
    refine wp_seq (wp_set ?_)
    (repeat first | ((with_reducible refine (id ?_ : R.wp _ _ _)); walk_at "wr"))
    refine and1 (len_ok rfl) ?_
    (repeat first | ((with_reducible refine (id ?_ : R.wp _ _ _)); walk_at "wr"))
    refine ex1 rfl ?_
    refine g_lenS (by rw [txtS_len, rw_len]; exact len_ok2 (by omega)) ?_
    rw [txtS_len, rw_len]
    (repeat first | ((with_reducible refine (id ?_ : R.wp _ _ _)); walk_at "wr"))
    refine ex2 rfl rfl ?_
    refine ex1 rfl ?_
    (repeat first | ((with_reducible refine (id ?_ : R.wp _ _ _)); walk_at "wr"))
    refine ex2 rfl rfl ?_
    rw [show ((w.length : Int) + 4) = ((w.length + 4 : Nat) : Int) from rfl]
    refine ⟨_, rep0 (w.length + 4) (by omega), ?_⟩
    refine wp_setN c3 ?_
    rw [half0 x0 w0, ← hx0]
    refine wp_seq ?_
    refine wp_forR 1 w.length (fun j e => ∃ s4, e = [.fz (.str (txtS (rwN w))), s1, .fz (intN k), .ow false false (.lst (halfD (w.take (k + 1)) w.length j)), s4] ∧ canSet (some s4) = true) (wp_range2 ?_)
    (repeat first | ((with_reducible refine (id ?_ : R.wp _ _ _)); walk_at "wr"))
    refine ex1 rfl ?_
    refine g_lenS (by rw [txtS_len, rw_len]; exact len_ok2 (by omega)) ?_
    rw [txtS_len, rw_len]
    walk_at "w"
    refine ⟨_, _, rfl, ⟨by omega, by omega, by omega, by omega⟩, by rw [show ((w.length : Int) + 1 - 1) = ((w.length : Nat) : Int) from by omega, Int.toNat_natCast], ⟨_, rfl, c4⟩, ?_, ?_⟩
    · rintro j e hj ⟨s4, rfl, c4⟩
      rw [show ((1 : Int) + (j : Int)) = ((j + 1 : Nat) : Int) from by omega]
      refine ⟨_, if_pos c4, ?_⟩
      have lH : (halfD (w.take (k + 1)) w.length j).length = w.length + 4 := by unfold halfD; rw [List.length_map, List.length_range]
      have hst : cutsN (w.take (k + 1)) (j + 1) = cutsN (w.take k) j + if 0 < k ∧ y = false then cutsN (w.take k) (j + 1) else 0 := by
        rw [hT]
        cases hq : w.take k with
        | nil =>
          have : k = 0 := by
            have := congrArg List.length hq
            rw [List.length_take] at this
            have : min k w.length = 0 := this
            omega
          subst this
          rw [if_neg (by omega)]
          exact cuts_one y j
        | cons a r =>
          have hk1 : 0 < k := by
            by_cases z : 0 < k
            · exact z
            · rw [show k = 0 from by omega] at hq; cases hq
          rw [cuts_step]
          cases y with
          | true => rw [if_pos rfl, if_neg (by simp)]
          | false => rw [if_neg Bool.false_ne_true, if_pos ⟨hk1, rfl⟩]
      rcases h1 with rfl | rfl
      · refine wp_seq (wp_store ?_)
        walk_at "wn"
        refine wp_or2 ?_
        walk_at "wn"
        rw [show (((j + 1 : Nat) : Int) - 1) = ((j : Nat) : Int) from by omega]
        refine rd1 j (by omega) ?_
        walk_at "wn"
        refine g_setL (by rw [lH]; omega) ?_
        refine wp_if (wp_and ?_)
        walk_at "w"
        refine ifD (fun hk0 => ?_) (fun hk0 => ?_)
        · have hk0 : (0 : Int) < (k : Int) := hk0
          walk_at "w"
          refine wp_or2 ?_
          walk_at "w"
          refine g_ixS (by rw [txtS_len, rw_len]; exact len_ok2 (by omega)) (row_at hy) ?_
          walk_at "w"
          cases y with
          | true =>
            refine ifD (fun z => absurd z (by decide +kernel)) (fun _ => ?_)
            walk_at "w"
            rw [if_neg (by simp)] at hst
            exact ⟨_, by rw [← half_set, hst, Nat.add_zero]; rfl, rfl⟩
          | false =>
            refine ifD (fun _ => ?_) (fun z => absurd (by decide +kernel) z)
            rw [if_pos ⟨by omega, rfl⟩] at hst
            refine wp_store ?_
            walk_at "wn"
            refine g_ixL (k := j + 1) (d := intN (cutsN (w.take k) j)) (by rw [List.getElem?_set_self (by rw [lH]; omega)]) ?_
            walk_at "wn"
            refine wp_or2 ?_
            walk_at "wn"
            refine rd1 (j + 1) (by omega) ?_
            walk_at "wn"
            refine g_setL (by rw [List.length_set, lH]; omega) ?_
            refine ⟨.fz (intN (j + 1)), ?_, rfl⟩
            rw [← half_set, hst]
            have eq2 : ((halfD (w.take (k + 1)) w.length j).set (j + 1) (intN (cutsN (w.take k) j))).set (j + 1) (intN (cutsN (w.take k) j + cutsN (w.take k) (j + 1))) = _ := List.set_set _
            rw [← eq2]
            rfl
        · walk_at "w"
          rw [if_neg (fun z => hk0 (show (0 : Int) < (k : Int) by omega))] at hst
          exact ⟨_, by rw [← half_set, hst, Nat.add_zero]; rfl, rfl⟩
      · refine wp_seq (wp_store ?_)
        walk_at "wn"
        refine wp_or2 ?_
        walk_at "wn"
        rw [show (((j + 1 : Nat) : Int) - 1) = ((j : Nat) : Int) from by omega]
        refine rd1 j (by omega) ?_
        walk_at "wn"
        refine g_setL (by rw [lH]; omega) ?_
        refine wp_if (wp_and ?_)
        walk_at "w"
        refine ifD (fun hk0 => ?_) (fun hk0 => ?_)
        · have hk0 : (0 : Int) < (k : Int) := hk0
          walk_at "w"
          refine wp_or2 ?_
          walk_at "w"
          refine g_ixS (by rw [txtS_len, rw_len]; exact len_ok2 (by omega)) (row_at hy) ?_
          walk_at "w"
          cases y with
          | true =>
            refine ifD (fun z => absurd z (by decide +kernel)) (fun _ => ?_)
            walk_at "w"
            rw [if_neg (by simp)] at hst
            exact ⟨_, by rw [← half_set, hst, Nat.add_zero]; rfl, rfl⟩
          | false =>
            refine ifD (fun _ => ?_) (fun z => absurd (by decide +kernel) z)
            rw [if_pos ⟨by omega, rfl⟩] at hst
            refine wp_store ?_
            walk_at "wn"
            refine g_ixL (k := j + 1) (d := intN (cutsN (w.take k) j)) (by rw [List.getElem?_set_self (by rw [lH]; omega)]) ?_
            walk_at "wn"
            refine wp_or2 ?_
            walk_at "wn"
            refine rd1 (j + 1) (by omega) ?_
            walk_at "wn"
            refine g_setL (by rw [List.length_set, lH]; omega) ?_
            refine ⟨.fz (intN (j + 1)), ?_, rfl⟩
            rw [← half_set, hst]
            have eq2 : ((halfD (w.take (k + 1)) w.length j).set (j + 1) (intN (cutsN (w.take k) j))).set (j + 1) (intN (cutsN (w.take k) j + cutsN (w.take k) (j + 1))) = _ := List.set_set _
            rw [← eq2]
            rfl
        · walk_at "w"
          rw [if_neg (fun z => hk0 (show (0 : Int) < (k : Int) by omega))] at hst
          exact ⟨_, by rw [← half_set, hst, Nat.add_zero]; rfl, rfl⟩
    · rintro e ⟨s4, rfl, c4⟩
      rw [half_end _ _ lT]
      rcases h1 with rfl | rfl
      · walk_at "w"
        exact ⟨_, _, _, _, rfl, .inr rfl, rfl, rfl, c4⟩
      · walk_at "w"
        exact ⟨_, _, _, _, rfl, .inr rfl, rfl, rfl, c4⟩
  · rintro e ⟨s1, s2, s3, s4, rfl, h1, _⟩
    rw [List.take_length] at h1
    rcases h1 with rfl | rfl
    · walk_at "w"
      exact .inl rfl
    · walk_at "w"
      exact .inr rfl
end
section
structure Bk (c : Nat) (d : MR.D) : Prop where
  ex : ∃ (g n : Int), d = .lst [.int g, .int n] ∧ 0 ≤ g ∧ 0 ≤ n ∧ n ≤ c
theorem Bk.mono {c c' : Nat} {d : MR.D} (h : Bk c d) (l : c ≤ c') : Bk c' d := by
  obtain ⟨g, n, e, h1, h2, h3⟩ := h.ex
  exact ⟨g, n, e, h1, h2, by omega⟩
theorem t_take (b : MR.D) (size : Int) (c : Nat) (hb : Bk c b) (hc : c ≤ 100000) (hs : 0 < size ∧ size ≤ 2000000) : RetIo (m__law_take [.ow true false b, .fz (.int size), .un, .un]) 0 (fun v d => ∃ n : Nat, v = .fz (intN n) ∧ (n : Int) < size ∧ Bk (c + 1) d) := by
  obtain ⟨g, n, rfl, h1, h2, h3⟩ := hb.ex
  have nat : ∀ z : Int, 0 ≤ z % size ∧ z % size < size := fun z => ⟨Int.emod_nonneg z (by omega), Int.emod_lt_of_pos z hs.1⟩
  have fin : ∀ z : Int, ∃ n : Nat, Val.fz (.int (z % size)) = .fz (intN n) ∧ (n : Int) < size := fun z => by
    have h := nat z
    exact ⟨(z % size).toNat, congrArg (fun z => Val.fz (.int z)) (by omega), by omega⟩
  unfold m__law_take RetIo
  walk_at "wn"
  refine wp_if ?_
  walk_at "w"
  refine ifD (fun h => ?_) (fun h => ?_)
  · walk_at "w"
    obtain ⟨m, e, hm⟩ := fin g
    exact ⟨_, _, _, rfl, m, e, hm, _, _, rfl, Int.ediv_nonneg h1 (by omega), h2, by omega⟩
  · have h : ¬ (10 ^ 18 : Int) ≤ g := h
    walk_at "w"
    have w1 := Int.emod_nonneg (g * 48271 + (n + 1) * 7368787) (show (2147483647 : Int) ≠ 0 by decide)
    have w2 := Int.emod_lt_of_pos (g * 48271 + (n + 1) * 7368787) (show (0 : Int) < 2147483647 by decide)
    generalize (g * 48271 + (n + 1) * 7368787) % 2147483647 = o1 at *
    walk_at "w"
    have w3 := Int.emod_nonneg (o1 * o1 + o1 / 127 + (n + 1)) (show (2147483629 : Int) ≠ 0 by decide)
    have w4 := Int.emod_lt_of_pos (o1 * o1 + o1 / 127 + (n + 1)) (show (0 : Int) < 2147483629 by decide)
    generalize (o1 * o1 + o1 / 127 + (n + 1)) % 2147483629 = o2 at *
    walk_at "w"
    have w5 := Int.emod_nonneg (o2 * 69621 + o2 / 8191) (show (2147483587 : Int) ≠ 0 by decide)
    have w6 := Int.emod_lt_of_pos (o2 * 69621 + o2 / 8191) (show (0 : Int) < 2147483587 by decide)
    generalize (o2 * 69621 + o2 / 8191) % 2147483587 = o3 at *
    walk_at "w"
    obtain ⟨m, e, hm⟩ := fin (o3 / 11)
    exact ⟨_, _, _, rfl, m, e, hm, _, _, rfl, h1, by omega, by omega⟩
theorem g_ixScr {ns : List Int} {k : Nat} {n : Int} {P : Val → Prop} (h : ns[k]? = some n) (q : P (.fz (.int n))) : ∃ r, fIx (.scr ns) (.int (k : Int)) = some r ∧ P r := ⟨.fz (.int n), by show (atI ns (k : Int)).map _ = _; rw [MR.atI_nat h]; rfl, q⟩
theorem t_cell (ns : List Int) (k : Nat) (hk : k < 100) : RetP (m__law_cell [.fz (.scr ns), .fz (intN k)]) (fun v => ∃ z : Int, v = .fz (.int z) ∧ 0 ≤ z) := by
  unfold m__law_cell RetP
  walk_at "w"
  refine ifD (fun h => ?_) (fun h => ?_)
  · have h : (k : Int) < (ns.length : Int) := h
    walk_at "w"
    refine wp_or2 ?_
    walk_at "w"
    refine g_ixScr (List.getElem?_eq_getElem (by omega)) ?_
    walk_at "w"
    refine ⟨_, rfl, ?_⟩
    show 0 ≤ if ns[k] < 0 then -ns[k] else ns[k]
    split <;> omega
  · walk_at "w"
    have := Int.emod_nonneg ns.sum (show (1000003 : Int) ≠ 0 by decide)
    exact ⟨_, rfl, by omega⟩
theorem t_box (ns : List Int) (k : Nat) (hk : k < 100) : RetP (m__law_box [.fz (.scr ns), .fz (intN k)]) (fun v => ∃ d, v = .new d ∧ Bk 0 d) := by
  unfold m__law_box RetP
  walk_at "w"
  refine wp_callRetP rfl rfl (t_cell ns k hk) ?_
  rintro _ ⟨z, rfl, hz⟩
  refine ⟨(fun h => nomatch h), ?_⟩
  walk_at "w"
  exact ⟨_, rfl, _, _, rfl, hz, by omega, by omega⟩
end
section
theorem t_counted (w : List Bool) (L : Nat) (h : w.length ≤ 99) (hL : 100 ≤ L) : Ret (m__law_counted [.fz (.str (txtS (rwN w))), .fz (waysD w w.length), .fz (intN L), .un]) (.fz (.bl true)) := by
  apply RetP.ret
  unfold m__law_counted RetP
  refine wp_seq ?_
  refine wp_forR 0 (w.length + 4) (fun k e => ∃ s3, e = [.fz (.str (txtS (rwN w))), .fz (waysD w w.length), .fz (intN L), s3] ∧ canSet (some s3) = true) (wp_range1 ?_)
  walk_at "w"
  refine g_lenS (by rw [txtS_len, rw_len]; exact len_ok2 (by omega)) ?_
  rw [txtS_len, rw_len]
  walk_at "w"
  refine ⟨_, rfl, ⟨by omega, by omega⟩, by rw [show ((w.length : Int) + 4) = ((w.length + 4 : Nat) : Int) from rfl, Int.toNat_natCast], ⟨_, rfl, rfl⟩, ?_, ?_⟩
  · rintro k e hk ⟨s3, rfl, c3⟩
    rw [Int.zero_add]
    refine ⟨_, if_pos c3, ?_⟩
    refine wp_if ?_
    walk_at "w"
    refine wp_callRet rfl rfl (p_cut_count w k (by omega)) (fun h => nomatch h) ?_
    walk_at "w"
    refine wp_or2 ?_
    walk_at "w"
    refine g_ixL (ways_at _ _ _ hk) ?_
    walk_at "w"
    refine wp_callRet rfl rfl (t_is_number _ _) (fun h => nomatch h) ?_
    walk_at "w"
    refine ifND (fun z => absurd rfl z) (fun _ => ?_)
    walk_at "w"
    exact ⟨_, rfl, rfl⟩
  · rintro e ⟨s3, rfl, c3⟩
    walk_at "wn"
    refine wp_if ?_
    walk_at "wn"
    have eL : ((L : Int) + 10 ^ Int.toNat 31) = ((L + 10 ^ 31 : Nat) : Int) := by
      rw [show Int.toNat 31 = 31 from rfl]
      omega
    rw [eL]
    refine wp_callRet rfl rfl (p_cut_count w (L + 10 ^ 31) (by omega)) (fun h => nomatch h) ?_
    rw [cuts_above w (L + 10 ^ 31) (by omega)]
    walk_at "wn"
    refine wp_callRet rfl rfl (t_is_number 0 0) (fun h => nomatch h) ?_
    walk_at "wn"
    refine ifND (fun z => absurd rfl z) (fun _ => ?_)
    walk_at "wn"
    refine wp_callRet rfl rfl (p_cut_count w L (by omega)) (fun h => nomatch h) ?_
    rw [cuts_above w L (by omega)]
    walk_at "wn"
    refine wp_callRet rfl rfl (t_is_number 0 0) (fun h => nomatch h) ?_
    walk_at "wn"
    rfl
end
section
theorem sz_at (way : Nat) (h : way < 9) : ∃ z : Int, ([.int 2, .int 3, .int 5, .int 8, .int 2, .int 2, .int 2, .int 2, .int 8] : List MR.D)[way]? = some (.int z) ∧ 0 < z ∧ z ≤ 8 := by
  obtain rfl | rfl | rfl | rfl | rfl | rfl | rfl | rfl | rfl : way = 0 ∨ way = 1 ∨ way = 2 ∨ way = 3 ∨ way = 4 ∨ way = 5 ∨ way = 6 ∨ way = 7 ∨ way = 8 := by omega
  all_goals exact ⟨_, rfl, by decide, by decide⟩
theorem t_row (b : MR.D) (n way c : Nat) (hb : Bk c b) (hc : c ≤ 10000) (hn : n ≤ 99) (hw : way < 9) : RetIo (m__law_row [.ow true false b, .fz (intN n), .fz (intN way), .un, .un, .un]) 0 (fun v d => ∃ w : List Bool, v = .fz (.str (txtS (rwN w))) ∧ w.length = n ∧ Bk (c + n) d) := by
  obtain ⟨z, hz, z0, z8⟩ := sz_at way hw
  unfold m__law_row RetIo
  walk_at "wn"
  refine wp_forR 0 n (fun k e => ∃ d w s4 s5, e = [.ow true false d, .fz (intN n), .fz (intN way), .fz (.str (txtS (rwN w))), s4, s5] ∧ Bk (c + k) d ∧ w.length = k ∧ canSet (some s4) = true ∧ canSet (some s5) = true) (wp_range1 ?_)
  walk_at "w"
  refine ⟨_, rfl, ⟨by omega, by omega⟩, by rw [Int.toNat_natCast], ⟨_, [], _, _, rfl, hb, rfl, rfl, rfl⟩, ?_, ?_⟩
  · rintro k e hk ⟨d, w, s4, s5, rfl, hd, lw, c4, c5⟩
    rw [Int.zero_add]
    refine ⟨_, if_pos c4, ?_⟩
    walk_at "wn"
    refine g_ixL (k := way) hz ?_
    walk_at "wn"
    refine wp_callIo rfl rfl rfl (t_take _ _ _ hd (by omega) ⟨z0, by omega⟩) ?_
    rintro _ d2 ⟨m, rfl, hm, hd2⟩
    refine ⟨(fun h => nomatch h), ?_⟩
    walk_at "wn"
    refine wp_cut (fun e => ∃ y : Bool, e = [.ow true false d2, .fz (intN n), .fz (intN way), .fz (.str (txtS (rwN w))), .fz (intN k), .fz (.bl y)]) ?_ ?_
    · refine wp_if (wp_or ?_)
      walk_at "w"
      refine ifD (fun _ => ?_) (fun _ => ?_)
      · walk_at "w"
        exact ⟨_, rfl⟩
      walk_at "w"
      refine ifD (fun _ => ?_) (fun _ => ?_)
      · walk_at "w"
        exact ⟨_, rfl⟩
      · walk_at "w"
        exact ⟨_, rfl⟩
    rintro e ⟨y, rfl⟩
    refine wp_seq (wp_cut (fun e => ∃ y : Bool, e = [.ow true false d2, .fz (intN n), .fz (intN way), .fz (.str (txtS (rwN w))), .fz (intN k), .fz (.bl y)]) ?_ ?_)
    · walk_at "w"
      refine ifD (fun _ => ?_) (fun _ => ?_)
      · walk_at "w"
        exact ⟨_, rfl⟩
      · walk_at "w"
        exact ⟨_, rfl⟩
    rintro e ⟨y, rfl⟩
    refine wp_seq (wp_cut (fun e => ∃ y : Bool, e = [.ow true false d2, .fz (intN n), .fz (intN way), .fz (.str (txtS (rwN w))), .fz (intN k), .fz (.bl y)]) ?_ ?_)
    · refine wp_if (wp_or ?_)
      walk_at "w"
      refine ifD (fun _ => ?_) (fun _ => ?_)
      · walk_at "w"
        exact ⟨_, rfl⟩
      walk_at "w"
      refine ifD (fun _ => ?_) (fun _ => ?_)
      · walk_at "w"
        exact ⟨_, rfl⟩
      · walk_at "w"
        exact ⟨_, rfl⟩
    rintro e ⟨y, rfl⟩
    have lst : ∀ y : Bool, txtS (rwN w ++ [if y = true then 108 else 104]) = txtS (rwN (w ++ [y])) := fun y => by
      unfold rwN
      rw [List.map_append]; rfl
    cases y
    · walk_at "w"
      rw [show (Str.ofString "h") = txtS [104] from by decide +kernel]
      refine g_addS (by rw [rw_len]; show _ + 1 ≤ 1000; omega) ?_
      rw [show txtS (rwN w ++ [104]) = txtS (rwN (w ++ [false])) from lst false]
      walk_at "w"
      exact ⟨_, w ++ [false], _, _, rfl, hd2, by rw [List.length_append, lw]; rfl, rfl, rfl⟩
    · walk_at "w"
      rw [show (Str.ofString "l") = txtS [108] from by decide +kernel]
      refine g_addS (by rw [rw_len]; show _ + 1 ≤ 1000; omega) ?_
      rw [show txtS (rwN w ++ [108]) = txtS (rwN (w ++ [true])) from lst true]
      walk_at "w"
      exact ⟨_, w ++ [true], _, _, rfl, hd2, by rw [List.length_append, lw]; rfl, rfl, rfl⟩
  · rintro e ⟨d, w, s4, s5, rfl, hd, lw, _⟩
    walk_at "w"
    exact ⟨_, _, _, rfl, w, rfl, lw, hd⟩
end
section
noncomputable def badX (d q : MR.D) (x : Xn) : Prop := (isMade [104, 108] d = false ∧ x = ⟨"InvalidRow", [("index", .int 0)]⟩) ∨ (isMade [104, 108] d = true ∧ isNat q = false ∧ x = ⟨"InvalidNumber", [("number", q)]⟩)
theorem p_count_bad {d q : MR.D} (hd : okS d) (hq : okV q = true) (h : isMade [104, 108] d = false ∨ isNat q = false) : (m_cut_count [.fz d, .fz q, .un]).wp { er := fun x _ => badX d q x } := by
  unfold m_cut_count
  walk_at "w"
  refine wp_callK (io := none) rfl rfl rfl (O.wp_mono (p_check_row hd) (fun ec hn => ⟨(_, true), rfl, (fun h => nomatch h), ?_⟩) (fun _ _ h => h.elim) (fun _ h => h.elim) (fun _ h => h.elim) (fun x ec hx => ⟨rfl, (_, true), rfl, (fun h => nomatch h), .inl hx⟩))
  have hm := hn.1
  have hn2 : isNat q = false := by
    rcases h with h | h
    · rw [h] at hm; cases hm
    · exact h
  walk_at "w"
  refine wp_callK (io := none) rfl rfl rfl (O.wp_mono (p_check_nat hq) (fun ec hn => absurd hn (by rw [hn2]; exact Bool.false_ne_true)) (fun _ _ h => h.elim) (fun _ h => h.elim) (fun _ h => h.elim) (fun x ec hx => ⟨rfl, (_, true), rfl, (fun h => nomatch h), .inr ⟨hm, hx⟩⟩))
theorem p_least_bad {d : MR.D} (hd : okS d) (h : isMade [104, 108] d = false) : (m_least_blocks [.fz d]).wp { er := fun x _ => x = ⟨"InvalidRow", [("index", .int 0)]⟩ } := by
  unfold m_least_blocks
  walk_at "w"
  refine wp_callK (io := none) rfl rfl rfl (O.wp_mono (p_check_row hd) (fun ec hn => absurd hn.1 (by rw [h]; exact Bool.false_ne_true)) (fun _ _ h => h.elim) (fun _ h => h.elim) (fun _ h => h.elim) (fun x ec hx => ⟨rfl, (_, true), rfl, (fun h => nomatch h), hx.2⟩))
theorem p_each_bad {d q : MR.D} (hd : okS d) (hq : okV q = true) (h : isMade [104, 108] d = false ∨ isNat q = false) : (m_each_cut [.fz d, .fz q, .un, .un, .un, .un, .un]).wp { er := fun x _ => badX d q x } := by
  unfold m_each_cut
  refine wp_gen ?_
  walk_at "wn"
  refine wp_if ?_
  walk_at "wn"
  refine wp_callEr (P := badX d q) rfl rfl (p_count_bad hd hq h) fun x hx => ⟨(fun h => nomatch h), ?_, hx⟩
  rcases hx with ⟨_, rfl⟩ | ⟨_, _, rfl⟩
  · exact (by decide +kernel : (["InvalidNumber", "InvalidRow"] : List Str).contains "InvalidRow" = true)
  · exact (by decide +kernel : (["InvalidNumber", "InvalidRow"] : List Str).contains "InvalidNumber" = true)
theorem t_same (d : MR.D) (hp : plainD 5 d) (ho : okV d = true) : Ret (m__law_same [.fz d, .fz d]) (.fz (.bl true)) := by
  apply RetP.ret
  unfold m__law_same RetP
  walk_at "w"
  refine ifD (fun _ => ?_) (fun z => absurd rfl z)
  walk_at "wr"
  (repeat first | ((with_reducible refine (id ?_ : R.wp _ _ _)); walk_at "wr"))
  refine ex2 rfl rfl ?_
  refine g_eq (n := 5) (by decide) hp hp fun t ht => ?_
  have ht : t = true := ht.mpr rfl
  subst ht
  walk_at "w"
  rfl
theorem t_ask_bad (door : Nat) (hdoor : door < 3) {d q : MR.D} (hd : okS d) (hq : okV q = true) (h : isMade [104, 108] d = false ∨ (0 < door ∧ isNat q = false)) : (m__law_ask [.fz (intN door), .fz d, .fz q, .un]).wp { er := fun x _ => badX d q x } := by
  unfold m__law_ask
  walk_at "w"
  refine ifD (fun h0 => ?_) (fun h0 => ?_)
  · have h0 : (door : Int) = 0 := h0
    have hm : isMade [104, 108] d = false := by
      rcases h with h | h
      · exact h
      · omega
    walk_at "w"
    refine wp_callEr (P := fun x => x = ⟨"InvalidRow", [("index", .int 0)]⟩) rfl rfl (p_least_bad hd hm) fun x hx => ⟨(fun h => nomatch h), .inl ⟨hm, hx⟩⟩
  · have h0 : ¬ (door : Int) = 0 := h0
    have h2 : isMade [104, 108] d = false ∨ isNat q = false := h.imp id (·.2)
    walk_at "w"
    refine ifD (fun h1 => ?_) (fun h1 => ?_)
    · walk_at "w"
      refine wp_callEr (P := badX d q) rfl rfl (p_count_bad hd hq h2) fun x hx => ⟨(fun h => nomatch h), hx⟩
    · walk_at "w"
      refine wp_callEr (P := badX d q) rfl rfl (p_each_bad hd hq h2) fun x hx => ⟨(fun h => nomatch h), hx⟩
end
section
theorem chN_le2 : ∀ n k : Nat, chN n k ≤ 2 ^ n
  | n, 0 => by rw [chN_zero]; exact Nat.one_le_two_pow
  | 0, k + 1 => Nat.zero_le _
  | n + 1, k + 1 => by
    have h1 := chN_le2 n k
    have h2 := chN_le2 n (k + 1)
    rw [chN_succ, Nat.pow_succ]
    omega
theorem cuts_nat (w : List Bool) (b : Nat) : cutsN w b = if b < leastN w then 0 else chN (w.length - leastN w) (b - leastN w) := by
  have h := cuts_eq w b
  by_cases z : b < leastN w
  · rw [if_pos z]
    rw [if_pos (by omega)] at h
    omega
  · rw [if_neg z]
    rw [if_neg (by omega)] at h
    rw [show ((b : Int) - (leastN w : Int)).toNat = b - leastN w from by omega] at h
    omega
theorem few_cuts {w : List Bool} (b : Nat) (h : w.length - leastN w ≤ 9) : cutsN w b ≤ 900 := by
  rw [cuts_nat]
  split
  · omega
  · have := chN_le2 (w.length - leastN w) (b - leastN w)
    have h2 : 2 ^ (w.length - leastN w) ≤ 2 ^ 9 := Nat.pow_le_pow_right (by omega) h
    omega
theorem few_ends {w : List Bool} {b : Nat} (h : b + 1 = leastN w ∨ b = leastN w ∨ b = w.length ∨ b = w.length + 1) : cutsN w b ≤ 900 := by
  have hl := least_le w
  rw [cuts_nat]
  split
  · omega
  · rcases h with h | rfl | rfl | rfl
    · omega
    · rw [Nat.sub_self, chN_zero]; omega
    · rw [chN_self]; omega
    · rw [chN_above _ _ (by omega)]; omega
theorem combsOf_len (w : List Bool) (b : Nat) : (combsOf w b).length = cutsN w b := by
  unfold combsOf
  split
  · next h => rw [h]; rfl
  · next h => rw [combs_count, (cuts_pos h).2.2]
theorem t_listed (w : List Bool) (h : w.length ≤ 99) : Ret (m__law_listed [.fz (.str (txtS (rwN w))), .fz (waysD w w.length), .fz (intN (leastN w)), .un, .un, .un, .un, .un]) (.fz (.bl true)) := by
  apply RetP.ret
  unfold m__law_listed RetP
  walk_at "wn"
  refine wp_save rfl ?_
  refine wp_lcW (fun n : Nat => intN n) (List.range (w.length + 3)) (fun _ => true) (fun n => intN n) (wp_range1 ?_)
  walk_at "wn"
  refine g_lenS (by rw [txtS_len, rw_len]; exact len_ok2 (by omega)) ?_
  rw [txtS_len, rw_len]
  walk_at "wn"
  refine ⟨_, rfl, ⟨by omega, by omega⟩, ?_, rfl, len_ok2 (by rw [List.length_range]; omega), fun n hn => ⟨_, rfl, wp_yes ⟨rfl, rfl⟩, fun _ => ?_, rfl⟩, ?_⟩
  · rw [show ((w.length : Int) + 3) = ((w.length + 3 : Nat) : Int) from rfl]
    exact rangeN _
  · walk_at "w"
    first | exact rfl | exact ⟨rfl, rfl⟩
  rw [List.filter_eq_self.mpr (fun _ _ => rfl)]
  refine ⟨rfl, ?_⟩
  walk_at "wn"
  have ll := least_le w
  refine wp_cut (fun e => ∃ (as : List Nat) (s4 : Sl), e = [.fz (.str (txtS (rwN w))), .fz (waysD w w.length), .fz (intN (leastN w)), .ow false false (natsD as), s4, .un, .un, .un] ∧ as.length ≤ 200 ∧ ∀ b ∈ as, b < w.length + 4 ∧ cutsN w b ≤ 900) ?_ ?_
  · refine wp_if ?_
    walk_at "wn"
    refine g_lenS (by rw [txtS_len, rw_len]; exact len_ok2 (by omega)) ?_
    rw [txtS_len, rw_len]
    walk_at "wn"
    refine ifD (fun hl => ?_) (fun hl => ?_)
    · have hl : (w.length : Int) > 10 := hl
      have l1 : 1 ≤ leastN w := by
        cases w with
        | nil => exact absurd hl (by decide)
        | cons x t => show 1 ≤ 1 + _; omega
      walk_at "wn"
      refine g_lenS (by rw [txtS_len, rw_len]; exact len_ok2 (by omega)) ?_
      rw [txtS_len, rw_len]
      walk_at "wn"
      refine g_lenS (by rw [txtS_len, rw_len]; exact len_ok2 (by omega)) ?_
      rw [txtS_len, rw_len]
      walk_at "wn"
      refine g_lenS (by rw [txtS_len, rw_len]; exact len_ok2 (by omega)) ?_
      rw [txtS_len, rw_len]
      walk_at "wn"
      refine wp_if ?_
      walk_at "wn"
      have e0 : ((leastN w : Int) - 1) = ((leastN w - 1 : Nat) : Int) := by omega
      have e3 : ((leastN w : Int) + ((w.length : Int) - (leastN w : Int)) / 2) = ((leastN w + (w.length - leastN w) / 2 : Nat) : Int) := by omega
      rw [e0, e3]
      refine ifD (fun h9 => ?_) (fun h9 => ?_)
      · have h9 : 9 < (w.length : Int) - (leastN w : Int) := h9
        walk_at "wn"
        refine g_lenS (by rw [txtS_len, rw_len]; exact len_ok2 (by omega)) ?_
        rw [txtS_len, rw_len]
        walk_at "wn"
        refine g_lenS (by rw [txtS_len, rw_len]; exact len_ok2 (by omega)) ?_
        rw [txtS_len, rw_len]
        walk_at "wn"
        rw [e0]
        refine ⟨[leastN w - 1, leastN w, w.length, w.length + 1], _, rfl, by show 4 ≤ 200; decide, fun b hb => ?_⟩
        simp only [List.mem_cons, List.not_mem_nil, or_false] at hb
        rcases hb with rfl | rfl | rfl | rfl
        · exact ⟨by omega, few_ends (.inl (by omega))⟩
        · exact ⟨by omega, few_ends (.inr (.inl rfl))⟩
        · exact ⟨by omega, few_ends (.inr (.inr (.inl rfl)))⟩
        · exact ⟨by omega, few_ends (.inr (.inr (.inr rfl)))⟩
      · have h9 : ¬ 9 < (w.length : Int) - (leastN w : Int) := h9
        walk_at "w"
        refine ⟨[0, leastN w - 1, leastN w, leastN w + (w.length - leastN w) / 2, w.length, w.length + 1], _, rfl, by show 6 ≤ 200; decide, fun b hb => ⟨?_, few_cuts b (by omega)⟩⟩
        simp only [List.mem_cons, List.not_mem_nil, or_false] at hb
        rcases hb with rfl | rfl | rfl | rfl | rfl | rfl <;> omega
    · have hl : ¬ (w.length : Int) > 10 := hl
      walk_at "w"
      refine ⟨List.range (w.length + 3), _, rfl, by rw [List.length_range]; omega, fun b hb => ?_⟩
      have hb := List.mem_range.mp hb
      refine ⟨by omega, few_cuts b ?_⟩
      cases w with
      | nil => exact Nat.zero_le _
      | cons x t =>
        have e : leastN (x :: t) = 1 + t.count true := rfl
        have e2 : (x :: t).length = t.length + 1 := rfl
        rw [e2] at hl ⊢
        omega
  · rintro e ⟨as, s4, rfl, la, ha⟩
    walk_at "wn"
    refine wp_forL (fun n : Nat => intN n) as (fun _ e => ∃ s5 s6, e = [.fz (.str (txtS (rwN w))), .fz (waysD w w.length), .fz (intN (leastN w)), .ow false true (natsD as), s4, s5, s6, .un] ∧ canSet (some s5) = true ∧ canSet (some s6) = true) (wp_seqL ?_)
    walk_at "wn"
    refine ⟨_, _, rfl, rfl, ⟨_, _, rfl, rfl, rfl⟩, ?_, ?_⟩
    · rintro pre b post e hx ⟨s5, s6, rfl, c5, c6⟩
      obtain ⟨hb, hc⟩ := ha b (by rw [hx]; exact List.mem_append_right _ List.mem_cons_self)
      refine ⟨_, if_pos c5, ?_⟩
      walk_at "wn"
      refine wp_callRetP rfl rfl (p_each w b (by omega) hc) ?_
      rintro _ rfl
      refine ⟨(fun h => nomatch h), ?_⟩
      walk_at "wn"
      refine wp_if ?_
      walk_at "w"
      refine wp_or2 ?_
      walk_at "w"
      refine g_ixL (ways_at _ _ _ hb) ?_
      walk_at "w"
      have e1 : (combsOf w b).map (cutOf w) = ((combsOf w b).map (segsOf w)).map wordsD := by
        rw [List.map_map]
        exact List.map_congr_left fun c _ => cutOf_words w c
      have e2 : cutsN w b = ((combsOf w b).map (segsOf w)).length := by rw [List.length_map, combsOf_len]
      rw [e1, e2]
      refine wp_callRet rfl rfl (t_is_listing (fun S hS => ?_) good_order (by rw [rw_len]; omega) (by omega)) (fun h => nomatch h) ?_
      · obtain ⟨c, hc, rfl⟩ := List.mem_map.mp hS
        exact good_cut hc
      walk_at "w"
      exact ⟨_, _, rfl, rfl, rfl⟩
    · rintro e ⟨s5, s6, rfl, _, _⟩
      walk_at "w"
      rfl
end
section
noncomputable def BadR (x : MR.D) : Prop := okS x ∧ isMade [104, 108] x = false
theorem look_letter (n : Nat) (h : n < 6) : ∃ c, ([.str "x", .str "H", .str " ", .str "R", .str "?", .str "L"] : List MR.D)[n]? = some (.str (txtS [c])) ∧ c ∉ [104, 108] := by
  match n, h with
  | 0, _ => exact ⟨120, by rw [show txtS [120] = "x" from by decide +kernel]; rfl, by decide⟩
  | 1, _ => exact ⟨72, by rw [show txtS [72] = "H" from by decide +kernel]; rfl, by decide⟩
  | 2, _ => exact ⟨32, by rw [show txtS [32] = " " from by decide +kernel]; rfl, by decide⟩
  | 3, _ => exact ⟨82, by rw [show txtS [82] = "R" from by decide +kernel]; rfl, by decide⟩
  | 4, _ => exact ⟨63, by rw [show txtS [63] = "?" from by decide +kernel]; rfl, by decide⟩
  | 5, _ => exact ⟨76, by rw [show txtS [76] = "L" from by decide +kernel]; rfl, by decide⟩
theorem look_badR (r : MR.D) (n : Nat) (h : n < 6) : ∃ x, ([.non, .int 3, .bl true, .lst [r], .lst [.str "h"], .tup [.str "h"]] : List MR.D)[n]? = some x ∧ BadR x := by
  match n, h with
  | 0, _ => exact ⟨_, rfl, ⟨rfl, fun _ h => nomatch h⟩, rfl⟩
  | 1, _ => exact ⟨_, rfl, ⟨rfl, fun _ h => nomatch h⟩, rfl⟩
  | 2, _ => exact ⟨_, rfl, ⟨rfl, fun _ h => nomatch h⟩, rfl⟩
  | 3, _ => exact ⟨_, rfl, ⟨rfl, fun _ h => nomatch h⟩, rfl⟩
  | 4, _ => exact ⟨_, rfl, ⟨rfl, fun _ h => nomatch h⟩, rfl⟩
  | 5, _ => exact ⟨_, rfl, ⟨rfl, fun _ h => nomatch h⟩, rfl⟩
theorem badR_sign {a b : List Nat} {c : Nat} (h : (a ++ [c] ++ b).length ≤ 1000) (hc : c ∉ [104, 108]) : BadR (.str (txtS (a ++ [c] ++ b))) := ⟨⟨rfl, fun z hz => by cases hz; rw [txtS_len]; exact len_ok2 h⟩, by
  show ((txtS (a ++ [c] ++ b)).cps.toList.all fun c => decide (c ∈ [104, 108])) = false
  rw [txtS_list, List.all_eq_false]
  exact ⟨c, by simp, by simpa using hc⟩⟩
theorem t_wrong_row (b : MR.D) (w : List Bool) (c : Nat) (hb : Bk c b) (hc : c ≤ 10000) (hw : w.length ≤ 99) : RetIo (m__law_wrong_row [.ow true false b, .fz (.str (txtS (rwN w))), .un, .un, .un, .un, .un]) 0 (fun v d => ∃ x, (v = .fz x ∨ v = .new x) ∧ BadR x ∧ Bk (c + 3) d) := by
  unfold m__law_wrong_row RetIo
  have lw := rw_len w
  walk_at "wn"
  refine g_lenS (by rw [txtS_len, rw_len]; exact len_ok2 (by omega)) ?_
  rw [txtS_len, rw_len]
  walk_at "wn"
  refine wp_callIo rfl rfl rfl (t_take _ _ _ hb (by omega) (by omega)) ?_
  rintro _ d1 ⟨n1, rfl, l1, hb1⟩
  refine ⟨(fun h => nomatch h), ?_⟩
  walk_at "wn"
  refine wp_callIo rfl rfl rfl (t_take _ _ _ hb1 (by omega) (by omega)) ?_
  rintro _ d2 ⟨n2, rfl, l2, hb2⟩
  refine ⟨(fun h => nomatch h), ?_⟩
  obtain ⟨ch, hch, hc2⟩ := look_letter n2 (by omega)
  walk_at "wn"
  refine g_ixL (k := n2) hch ?_
  walk_at "wn"
  refine wp_callIo rfl rfl rfl (t_take _ _ _ hb2 (by omega) (by omega)) ?_
  rintro _ d3 ⟨n3, rfl, l3, hb3⟩
  refine ⟨(fun h => nomatch h), ?_⟩
  walk_at "wn"
  refine wp_if ?_
  walk_at "w"
  refine ifD (fun h6 => ?_) (fun h6 => ?_)
  · have h6 : (n3 : Int) < 6 := h6
    obtain ⟨x, hx, hbad⟩ := look_badR (.str (txtS (rwN w))) n3 (by omega)
    walk_at "w"
    refine g_ixL (k := n3) hx ?_
    walk_at "w"
    exact ⟨_, _, _, rfl, x, .inl rfl, hbad, hb3⟩
  · skip
    walk_at "wn"
    refine wp_if ?_
    walk_at "w"
    refine ifD (fun e6 => ?_) (fun e6 => ?_)
    · walk_at "w"
      rw [show ("" : Str) = txtS [] from by decide +kernel]
      refine ifND (fun hne => ?_) (fun hne => ?_)
      · walk_at "w"
        refine wp_lcW (fun n : Nat => intN n) (List.range w.length) (fun _ => true) (fun n => .str (txtS [(rwN w).getD n 0])) (wp_range1 ?_)
        walk_at "w"
        refine g_lenS (by rw [txtS_len, rw_len]; exact len_ok2 (by omega)) ?_
        rw [txtS_len, rw_len]
        walk_at "w"
        refine ⟨_, rfl, ⟨by omega, by omega⟩, rangeN _, rfl, len_ok2 (by rw [List.length_range]; omega), fun n hn => ⟨_, rfl, wp_yes ⟨rfl, rfl⟩, fun _ => ?_, rfl⟩, ?_⟩
        · have hn := List.mem_range.mp hn
          walk_at "w"
          refine wp_or2 ?_
          walk_at "w"
          have hg : (rwN w)[n]? = some ((rwN w).getD n 0) := by rw [List.getD_eq_getElem?_getD, List.getElem?_eq_getElem (by omega)]; rfl
          refine g_ixS (c := (rwN w).getD n 0) (by rw [txtS_len, rw_len]; exact len_ok2 (by omega)) (by rw [txtS_list]; exact hg) ?_
          walk_at "w"
          first | exact rfl | exact ⟨rfl, rfl⟩
        rw [List.filter_eq_self.mpr (fun _ _ => rfl)]
        walk_at "w"
        exact ⟨_, _, _, rfl, _, .inr rfl, ⟨⟨rfl, fun _ h => nomatch h⟩, rfl⟩, hb3⟩
      · walk_at "w"
        refine g_slS (l := rwN w) (by omega) ?_
        rw [cut_take]
        walk_at "w"
        refine g_addS (a := (rwN w).take n1) (b := [ch]) (by rw [List.length_take]; show _ + 1 ≤ 1000; omega) ?_
        walk_at "w"
        refine g_slS (l := rwN w) (by omega) ?_
        rw [cut_drop]
        walk_at "w"
        refine g_addS (a := (rwN w).take n1 ++ [ch]) (b := (rwN w).drop n1) (by rw [List.length_append, List.length_take, List.length_drop]; show _ + 1 + _ ≤ 1000; omega) ?_
        walk_at "w"
        exact ⟨_, _, _, rfl, _, .inl rfl, badR_sign (by rw [List.length_append, List.length_append, List.length_take, List.length_drop]; show _ + 1 + _ ≤ 1000; omega) hc2, hb3⟩
    · walk_at "w"
      refine g_slS (l := rwN w) (by omega) ?_
      rw [cut_take]
      walk_at "w"
      refine g_addS (a := (rwN w).take n1) (b := [ch]) (by rw [List.length_take]; show _ + 1 ≤ 1000; omega) ?_
      walk_at "w"
      refine g_slS (l := rwN w) (by omega) ?_
      rw [cut_drop]
      walk_at "w"
      refine g_addS (a := (rwN w).take n1 ++ [ch]) (b := (rwN w).drop n1) (by rw [List.length_append, List.length_take, List.length_drop]; show _ + 1 + _ ≤ 1000; omega) ?_
      walk_at "w"
      exact ⟨_, _, _, rfl, _, .inl rfl, badR_sign (by rw [List.length_append, List.length_append, List.length_take, List.length_drop]; show _ + 1 + _ ≤ 1000; omega) hc2, hb3⟩
noncomputable def BadN (x : MR.D) : Prop := okV x = true ∧ isNat x = false ∧ (plainD 5 x ∨ ∃ b, x = .bl b)
theorem look_badN (n : Nat) (h : n < 6) : ∃ x, ([.bl true, .bl false, .non, .str "1", .lst [.int 1], .tup [.int 1]] : List MR.D)[n]? = some x ∧ BadN x := by
  match n, h with
  | 0, _ => exact ⟨_, rfl, rfl, rfl, .inr ⟨_, rfl⟩⟩
  | 1, _ => exact ⟨_, rfl, rfl, rfl, .inr ⟨_, rfl⟩⟩
  | 2, _ => exact ⟨_, rfl, rfl, rfl, .inl trivial⟩
  | 3, _ => exact ⟨_, rfl, rfl, rfl, .inl (by
    intro c hc
    have e : ("1" : Str).cps.toList = [49] := by decide +kernel
    rw [e, List.mem_singleton] at hc
    rw [hc]; decide)⟩
  | 4, _ => exact ⟨_, rfl, rfl, rfl, .inl (fun d hd => by rw [List.mem_singleton.mp hd]; trivial)⟩
  | 5, _ => exact ⟨_, rfl, rfl, rfl, .inl (fun d hd => by rw [List.mem_singleton.mp hd]; trivial)⟩
theorem t_wrong_number (b : MR.D) (c : Nat) (hb : Bk c b) (hc : c ≤ 10000) : RetIo (m__law_wrong_number [.ow true false b, .un, .un]) 0 (fun v d => ∃ x, v = .fz x ∧ BadN x ∧ Bk (c + 2) d) := by
  unfold m__law_wrong_number RetIo
  walk_at "wn"
  refine wp_callIo rfl rfl rfl (t_take _ _ _ hb (by omega) (by omega)) ?_
  rintro _ d1 ⟨n1, rfl, l1, hb1⟩
  refine ⟨(fun h => nomatch h), ?_⟩
  walk_at "wn"
  refine wp_if ?_
  walk_at "w"
  refine ifD (fun h6 => ?_) (fun h6 => ?_)
  · have h6 : (n1 : Int) < 6 := h6
    obtain ⟨x, hx, hbad⟩ := look_badN n1 (by omega)
    walk_at "w"
    refine g_ixL (k := n1) hx ?_
    walk_at "w"
    exact ⟨_, _, _, rfl, x, rfl, hbad, hb1.mono (by omega)⟩
  · walk_at "wn"
    refine wp_if ?_
    walk_at "w"
    refine ifD (fun e6 => ?_) (fun e6 => ?_)
    · walk_at "w"
      exact ⟨_, _, _, rfl, _, rfl, ⟨rfl, rfl, .inl trivial⟩, hb1.mono (by omega)⟩
    · walk_at "w"
      refine wp_callIo rfl rfl rfl (t_take _ _ _ hb1 (by omega) (by omega)) ?_
      rintro _ d2 ⟨n2, rfl, l2, hb2⟩
      refine ⟨(fun h => nomatch h), ?_⟩
      walk_at "w"
      rw [show ((10 : Int) ^ Int.toNat 30) = 1000000000000000000000000000000 from by decide]
      refine g_mulB (by omega) (by omega) ?_
      walk_at "w"
      refine ⟨_, _, _, rfl, _, rfl, ⟨rfl, ?_, .inl trivial⟩, hb2⟩
      exact decide_eq_false (by omega)
end
section
theorem t_refusal_row (door : Nat) (hdoor : door < 3) {d q : MR.D} (hd : okS d) (hq : okV q = true) (hm : isMade [104, 108] d = false) : Ret (m__law_refusal [.fz (intN door), .fz d, .fz q, .un, .un]) (.fz (.tup [.str "row", .int 0])) := by
  apply RetP.ret
  unfold m__law_refusal RetP
  refine wp_seq ?_
  refine wp_try ?_
  walk_at "w"
  refine wp_callEr (P := badX d q) rfl rfl (t_ask_bad door hdoor hd hq (.inl hm)) (fun x hx => ⟨(fun h => nomatch h), ?_⟩)
  rcases hx with ⟨_, rfl⟩ | ⟨h2, _⟩
  · refine .inl ⟨(by decide +kernel : tabGet tb_CacheError "InvalidRow" = some true), rfl, rfl, rfl, ?_⟩
    refine O.wp_unx ?_
    dsimp only [List.set]
    walk_at "w"
    refine wp_isE "InvalidRow" true rfl rfl (by decide +kernel) ?_
    walk_at "w"
    refine wp_isE "InvalidRow" false rfl rfl (by decide +kernel) ?_
    walk_at "w"
    refine wp_isE "InvalidRow" false rfl rfl (by decide +kernel) ?_
    walk_at "w"
    refine wp_isE "InvalidRow" false rfl rfl (by decide +kernel) ?_
    walk_at "w"
    refine wp_isE "InvalidRow" false rfl rfl (by decide +kernel) ?_
    walk_at "w"
    refine wp_isE "InvalidRow" false rfl rfl (by decide +kernel) ?_
    walk_at "w"
    refine wp_isE "InvalidRow" false rfl rfl (by decide +kernel) ?_
    walk_at "w"
    refine wp_isE "InvalidRow" false rfl rfl (by decide +kernel) ?_
    walk_at "w"
    refine wp_isE "InvalidRow" true rfl rfl (by decide +kernel) ?_
    walk_at "w"
    show if false = true then _ else _
    refine ifF ?_
    walk_at "w"
    refine ifND (fun z => absurd (by decide) z) (fun _ => ?_)
    walk_at "w"
    refine wp_xf rfl rfl (d := .int 0) (by rfl) ?_
    walk_at "w"
    first | rfl | exact ⟨rfl, rfl, rfl⟩ | exact (5 : Nat)
  · rw [hm] at h2; cases h2
theorem t_refusal_num (door : Nat) (h0 : 0 < door) (hdoor : door < 3) {d q : MR.D} (hd : okS d) (hq : okV q = true) (hm : isMade [104, 108] d = true) (hn : isNat q = false) : Ret (m__law_refusal [.fz (intN door), .fz d, .fz q, .un, .un]) (.fz (.tup [.str "number", q])) := by
  apply RetP.ret
  unfold m__law_refusal RetP
  refine wp_seq ?_
  refine wp_try ?_
  walk_at "w"
  refine wp_callEr (P := badX d q) rfl rfl (t_ask_bad door hdoor hd hq (.inr ⟨h0, hn⟩)) (fun x hx => ⟨(fun h => nomatch h), ?_⟩)
  rcases hx with ⟨h2, _⟩ | ⟨_, _, rfl⟩
  · rw [hm] at h2; cases h2
  · refine .inl ⟨(by decide +kernel : tabGet tb_CacheError "InvalidNumber" = some true), rfl, rfl, rfl, ?_⟩
    refine O.wp_unx ?_
    dsimp only [List.set]
    walk_at "w"
    refine wp_isE "InvalidNumber" false rfl rfl (by decide +kernel) ?_
    walk_at "w"
    refine wp_isE "InvalidNumber" true rfl rfl (by decide +kernel) ?_
    walk_at "w"
    refine wp_isE "InvalidNumber" false rfl rfl (by decide +kernel) ?_
    walk_at "w"
    refine wp_isE "InvalidNumber" false rfl rfl (by decide +kernel) ?_
    walk_at "w"
    refine wp_isE "InvalidNumber" false rfl rfl (by decide +kernel) ?_
    walk_at "w"
    refine wp_isE "InvalidNumber" false rfl rfl (by decide +kernel) ?_
    walk_at "w"
    refine wp_isE "InvalidNumber" false rfl rfl (by decide +kernel) ?_
    walk_at "w"
    refine wp_isE "InvalidNumber" false rfl rfl (by decide +kernel) ?_
    walk_at "w"
    refine wp_isE "InvalidNumber" true rfl rfl (by decide +kernel) ?_
    walk_at "w"
    show if false = true then _ else _
    refine ifF ?_
    walk_at "w"
    refine ifND (fun z => absurd (by decide) z) (fun _ => ?_)
    walk_at "w"
    refine wp_xf rfl rfl (d := q) (by rfl) ?_
    walk_at "w"
    first | rfl | exact ⟨rfl, rfl, rfl⟩ | exact (5 : Nat)
theorem t_same_bl (b : Bool) : Ret (m__law_same [.fz (.bl b), .fz (.bl b)]) (.fz (.bl true)) := by
  apply RetP.ret
  unfold m__law_same RetP
  walk_at "w"
  cases b
  · walk_at "w"
    first | rfl | exact (5 : Nat)
  · walk_at "w"
    first | rfl | exact (5 : Nat)
theorem t_same_bad {q : MR.D} (h : BadN q) : Ret (m__law_same [.fz q, .fz q]) (.fz (.bl true)) := by
  rcases h.2.2 with hp | ⟨b, rfl⟩
  · exact t_same q hp h.1
  · exact t_same_bl b
end
section
theorem t_refused (b : MR.D) (w : List Bool) (c : Nat) (hb : Bk c b) (hc : c ≤ 9000) (hw : w.length ≤ 99) : RetIo (m__law_refused [.ow true false b, .fz (.str (txtS (rwN w))), .un, .un, .un, .un, .un]) 0 (fun v d => v = .fz (.bl true) ∧ Bk (c + 8) d) := by
  unfold m__law_refused RetIo
  have okr := ok_row w (by omega)
  walk_at "wn"
  refine wp_callIo rfl rfl rfl (t_wrong_row _ w _ hb (by omega) hw) ?_
  rintro v1 d1 ⟨x, hv1, hx, hb1⟩
  refine ⟨(fun h => nomatch h), ?_⟩
  refine wp_cut (fun e => ∃ s2, e = [.ow true false d1, .fz (.str (txtS (rwN w))), s2, .un, .un, .un, .un] ∧ (s2 = .fz x ∨ s2 = .ow false false x)) ?_ ?_
  · rcases hv1 with rfl | rfl
    · walk_at "w"
      exact ⟨_, rfl, .inl rfl⟩
    · walk_at "w"
      exact ⟨_, rfl, .inr rfl⟩
  rintro e ⟨s2, rfl, hs2⟩
  walk_at "wn"
  refine wp_callIo rfl rfl rfl (t_wrong_number _ _ hb1 (by omega)) ?_
  rintro _ d2 ⟨q, rfl, hq, hb2⟩
  refine ⟨(fun h => nomatch h), ?_⟩
  walk_at "wn"
  refine wp_forR 0 3 (fun k e => ∃ d s2 s4 s5 s6, e = [.ow true false d, .fz (.str (txtS (rwN w))), s2, .fz q, s4, s5, s6] ∧ (s2 = .fz x ∨ s2 = .ow false false x) ∧ Bk (c + 5 + k) d ∧ canSet (some s4) = true ∧ canSet (some s5) = true ∧ canSet (some s6) = true) (wp_range1 ?_)
  walk_at "w"
  refine ⟨_, rfl, ⟨by omega, by omega⟩, rfl, ⟨d2, s2, _, _, _, rfl, hs2, hb2, rfl, rfl, rfl⟩, ?_, ?_⟩
  · rintro k e hk ⟨d, s2, s4, s5, s6, rfl, hs2, hd, c4, c5, c6⟩
    rw [Int.zero_add]
    refine ⟨_, if_pos c4, ?_⟩
    walk_at "wn"
    refine g_lenS (by rw [txtS_len, rw_len]; exact len_ok2 (by omega)) ?_
    rw [txtS_len, rw_len]
    walk_at "wn"
    refine wp_callIo rfl rfl rfl (t_take _ _ _ hd (by omega) (by omega)) ?_
    rintro _ d3 ⟨n, rfl, ln, hd3⟩
    refine ⟨(fun h => nomatch h), ?_⟩
    obtain ⟨y, hy, oy⟩ : ∃ y, ([intN w.length, q] : List MR.D)[n]? = some y ∧ okV y = true := by
      match n, ln with
      | 0, _ => exact ⟨_, rfl, rfl⟩
      | 1, _ => exact ⟨_, rfl, hq.1⟩
      | n + 2, ln => omega
    walk_at "wn"
    refine g_ixL (k := n) hy ?_
    walk_at "wn"
    rcases hs2 with rfl | rfl
    all_goals
      walk_at "wn"
      refine wp_callRet rfl rfl (t_refusal_row k hk hx.1 oy hx.2) (fun h => nomatch h) ?_
      walk_at "wn"
      refine wp_if ?_
      walk_at "w"
      refine ifND (fun z => absurd rfl z) (fun _ => ?_)
      walk_at "w"
      refine wp_callRet rfl rfl (t_is_number 0 0) (fun h => nomatch h) ?_
      walk_at "w"
      refine ifND (fun z => absurd rfl z) (fun _ => ?_)
      walk_at "wn"
      refine wp_if ?_
      walk_at "w"
      refine ifD (fun h0 => ?_) (fun h0 => ?_)
      · have h0 : (0 : Int) < (k : Int) := h0
        walk_at "wn"
        refine wp_callRet rfl rfl (t_refusal_num k (by omega) hk okr hq.1 (row_made w) hq.2.1) (fun h => nomatch h) ?_
        walk_at "wn"
        refine wp_if ?_
        walk_at "w"
        refine ifND (fun z => absurd rfl z) (fun _ => ?_)
        walk_at "w"
        refine wp_callRet rfl rfl (t_same_bad hq) (fun h => nomatch h) ?_
        walk_at "w"
        exact ⟨_, _, _, _, _, rfl, .inl rfl, hd3, rfl, rfl, rfl⟩
      · walk_at "w"
        exact ⟨_, _, _, _, _, rfl, .inl rfl, hd3, rfl, rfl, rfl⟩
  · rintro e ⟨d, s2, s4, s5, s6, rfl, _, hd, _, _, _⟩
    walk_at "w"
    exact ⟨_, _, _, rfl, rfl, hd⟩
end
section
theorem least_in (w : List Bool) : leastN w ∈ (List.range (w.length + 4)).filter (fun b => decide (0 < cutsN w b)) ∧ ∀ b ∈ (List.range (w.length + 4)).filter (fun b => decide (0 < cutsN w b)), leastN w ≤ b := by
  have ll := least_le w
  refine ⟨List.mem_filter.mpr ⟨List.mem_range.mpr (by omega), decide_eq_true ?_⟩, fun b hb => ?_⟩
  · rw [cuts_nat, if_neg (Nat.lt_irrefl _), Nat.sub_self, chN_zero]
    exact Nat.zero_lt_one
  · have h := of_decide_eq_true (List.mem_filter.mp hb).2
    rw [cuts_nat] at h
    split at h
    · omega
    · omega
theorem g_min {xs : List Nat} {m : Nat} {P : Val → Prop} (hm : m ∈ xs) (hy : ∀ b ∈ xs, m ≤ b) (q : P (.fz (intN m))) : ∃ r, fMin [natsD xs] = some r ∧ P r := by
  have e : nums (natsD xs) = some (xs.map fun n : Nat => (n : Int)) := intsD_nats xs
  obtain ⟨r, hr⟩ : ∃ r, minL (xs.map fun n : Nat => (n : Int)) = some r := by
    cases xs with
    | nil => cases hm
    | cons x t => exact ⟨_, rfl⟩
  have hq := minL_ok (m := (m : Int)) hr (List.mem_map.mpr ⟨m, hm, rfl⟩) fun y hy2 => by
    obtain ⟨b, hb, rfl⟩ := List.mem_map.mp hy2
    exact Int.ofNat_le.mpr (hy b hb)
  refine ⟨.fz (intN m), ?_, q⟩
  show (nums (natsD xs)).bind (fun is => (minL is).map vI) = _
  rw [e]
  show (minL (xs.map fun n : Nat => (n : Int))).map vI = _
  rw [hr, ← hq]
  rfl
section
variable {X : Xn → En → Prop} {e : En} {m : En → R Val} {ms : En → R (List Val)} {g : Nat}
theorem wp_ghostF {Q : List Val → En → Prop} (h : (m e).wp (fun a e1 => ∃ d, a = .new d ∧ (ms e1).wp (fun as e2 => canSet e2[g]? = true ∧ as.all isFz = true ∧ Q (.at g :: as) (e2.set g (.ow false false d))) X) X) : (mGhostF g m ms e).wp Q X := by
  refine R.wp_bind (R.wp_mono h fun a e1 ⟨d, h1, h2⟩ => ?_)
  subst h1
  refine R.wp_bind (R.wp_mono h2 fun as e2 ⟨h3, h4, h5⟩ => ?_)
  show (if canSet e2[g]? = true ∧ as.all isFz = true then (.ok (.at g :: as) (e2.set g (.ow false false d)) : R (List Val)) else .st).wp Q X
  rw [if_pos ⟨h3, h4⟩]
  exact h5
end
theorem t_law (ns : List Int) : Ret (m_law [.fz (.scr ns), .un, .un, .un, .un, .un, .un, .un, .un, .un]) (.fz (.bl true)) := by
  apply RetP.ret
  unfold m_law RetP
  walk_at "wn"
  refine wp_callRetP rfl rfl (t_box ns 0 (by decide)) ?_
  rintro _ ⟨d, rfl, hb⟩
  refine ⟨(fun h => nomatch h), ?_⟩
  walk_at "wn"
  refine wp_callIo rfl rfl rfl (t_take d _ _ hb (by omega) (by omega)) ?_
  rintro _ d1 ⟨n1, rfl, l1, hb1⟩
  refine ⟨(fun h => nomatch h), ?_⟩
  walk_at "wn"
  refine wp_callIo rfl rfl rfl (t_take d1 _ _ hb1 (by omega) (by omega)) ?_
  rintro _ d2 ⟨n2, rfl, l2, hb2⟩
  refine ⟨(fun h => nomatch h), ?_⟩
  walk_at "wn"
  refine wp_cut (fun e => ∃ (n : Nat) (d3 : MR.D) (s3 : Sl), e = [.fz (.scr ns), .ow false false d3, .fz (intN n), s3, .un, .un, .un, .un, .un, .un] ∧ n ≤ 60 ∧ Bk 3 d3) ?_ ?_
  · refine wp_if ?_
    walk_at "w"
    refine ifD (fun h0 => ?_) (fun h0 => ?_)
    · walk_at "w"
      refine wp_callIo rfl rfl rfl (t_take d2 _ _ hb2 (by omega) (by omega)) ?_
      rintro _ d3 ⟨n3, rfl, l3, hb3⟩
      refine ⟨(fun h => nomatch h), ?_⟩
      walk_at "w"
      exact ⟨11 + n3, d3, _, rfl, by omega, hb3⟩
    · walk_at "w"
      exact ⟨n1, d2, _, rfl, by omega, hb2.mono (by omega)⟩
  rintro e ⟨n, d3, s3, rfl, hn, hb3⟩
  walk_at "wn"
  refine wp_callIo rfl rfl rfl (t_take d3 _ _ hb3 (by omega) (by omega)) ?_
  rintro _ d4 ⟨way, rfl, lw, hb4⟩
  refine ⟨(fun h => nomatch h), ?_⟩
  walk_at "wn"
  refine wp_callG ?_
  refine wp_ghostF ?_
  walk_at "wn"
  refine wp_callRetP rfl rfl (t_box ns 1 (by decide)) ?_
  rintro _ ⟨g, rfl, hg⟩
  refine ⟨(fun h => nomatch h), ?_⟩
  refine ⟨g, rfl, ?_⟩
  walk_at "wn"
  refine wp_callIo rfl rfl rfl (t_row g n way 0 hg (by omega) (by omega) (by omega)) ?_
  rintro _ g2 ⟨w, rfl, hw, _⟩
  refine ⟨(fun h => nomatch h), rfl, rfl, ?_⟩
  walk_at "wn"
  refine wp_callRetP rfl rfl (t_ways w (by omega)) ?_
  intro v hv
  refine ⟨(fun h => nomatch h), ?_⟩
  refine wp_cut (fun e => ∃ s6, e = [.fz (.scr ns), .ow false false d4, .fz (intN n), s3, .fz (intN way), .fz (.str (txtS (rwN w))), s6, .un, .un, .un] ∧ (s6 = .fz (waysD w w.length) ∨ s6 = .ow false false (waysD w w.length))) ?_ ?_
  · rcases hv with rfl | rfl
    · walk_at "w"
      exact ⟨_, rfl, .inr rfl⟩
    · walk_at "w"
      exact ⟨_, rfl, .inl rfl⟩
  rintro e ⟨s6, rfl, h6⟩
  refine wp_seq (wp_cut (fun e => ∃ s6, e = [.fz (.scr ns), .ow false false d4, .fz (intN n), s3, .fz (intN way), .fz (.str (txtS (rwN w))), s6, .fz (intN (leastN w)), .un, .un] ∧ (s6 = .fz (waysD w w.length) ∨ s6 = .ow false false (waysD w w.length))) ?_ ?_)
  · have hl := least_in w
    have lW : ((List.range (w.length + 4)).map fun b => intN (cutsN w b)).length = w.length + 4 := by rw [List.length_map, List.length_range]
    rcases h6 with rfl | rfl
    all_goals
      walk_at "wn"
      refine wp_lcW (fun n : Nat => intN n) (List.range (w.length + 4)) (fun b => decide (0 < cutsN w b)) (fun n => intN n) (wp_range1 ?_)
      walk_at "wn"
      rw [lW]
      refine ⟨_, rfl, ⟨by omega, by omega⟩, rangeN _, rfl, len_ok2 (by rw [List.length_range]; omega), fun b hb => ⟨_, rfl, ?_, fun _ => ?_, rfl⟩, ?_⟩
      · have hb := List.mem_range.mp hb
        walk_at "w"
        refine wp_or2 ?_
        walk_at "w"
        refine g_ixL (ways_at _ _ _ hb) ?_
        walk_at "w"
        refine ⟨?_, rfl⟩
        by_cases z : 0 < cutsN w b
        · rw [decide_eq_true z]
          exact decide_eq_true (by omega)
        · rw [decide_eq_false z]
          exact decide_eq_false (by omega)
      · walk_at "w"
        first | exact rfl | exact ⟨rfl, rfl⟩
      walk_at "wn"
      refine g_min hl.1 hl.2 ?_
      walk_at "wn"
      first | exact ⟨_, rfl, .inl rfl⟩ | exact ⟨_, rfl, .inr rfl⟩
  rintro e ⟨s6, rfl, h6⟩
  walk_at "wn"
  refine wp_if ?_
  walk_at "w"
  refine wp_callRet rfl rfl (p_least w (by omega)) (fun h => nomatch h) ?_
  walk_at "w"
  refine wp_callRet rfl rfl (t_is_number _ _) (fun h => nomatch h) ?_
  walk_at "w"
  refine ifND (fun z => absurd rfl z) (fun _ => ?_)
  walk_at "wn"
  refine wp_cut (fun e => ∃ d5, e = [.fz (.scr ns), .ow false false d5, .fz (intN n), s3, .fz (intN way), .fz (.str (txtS (rwN w))), .fz (waysD w w.length), .fz (intN (leastN w)), .un, .un] ∧ Bk 5 d5) ?_ ?_
  · rcases h6 with rfl | rfl
    all_goals
      refine wp_if ?_
      walk_at "w"
      refine wp_callIo rfl rfl rfl (t_take d4 _ _ hb4 (by omega) (by omega)) ?_
      rintro _ d5 ⟨n5, rfl, l5, hb5⟩
      refine ⟨(fun h => nomatch h), ?_⟩
      walk_at "w"
      rw [show ((100 : Int) + (n5 : Int)) = ((100 + n5 : Nat) : Int) from by omega]
      refine wp_callRet rfl rfl (t_counted w (100 + n5) (by omega) (by omega)) (fun h => nomatch h) ?_
      walk_at "w"
      exact ⟨_, rfl, hb5⟩
  rintro e ⟨d5, rfl, hb5⟩
  walk_at "wn"
  refine wp_if ?_
  walk_at "w"
  refine wp_callRet rfl rfl (t_listed w (by omega)) (fun h => nomatch h) ?_
  walk_at "w"
  show if false = true then _ else _
  refine ifF ?_
  walk_at "w"
  refine wp_callG ?_
  refine wp_ghostF ?_
  walk_at "wn"
  refine wp_callRetP rfl rfl (t_box ns 2 (by decide)) ?_
  rintro _ ⟨g, rfl, hg⟩
  refine ⟨(fun h => nomatch h), ?_⟩
  refine ⟨g, rfl, ?_⟩
  walk_at "wn"
  refine wp_callIo rfl rfl rfl (t_refused g w 0 hg (by omega) (by omega)) ?_
  rintro _ g2 ⟨rfl, _⟩
  refine ⟨(fun h => nomatch h), rfl, rfl, ?_⟩
  walk_at "wn"
  rfl
end
end M10.S
namespace M10
open PySem PySem.Spec PyProof.Rows L2 MR
noncomputable abbrev sp_law := MR.spLaw
theorem ok_law {P : Program} {w : World} {K : PySem.W.Frag} {mg : Str → Option Value} {base : Heap} {f : Addr} {fd : FuncData} (T : TX K mg) (F : Fun K "law" "law" s_law f fd) : FnOk P w K mg base CX0 10 f fd p_law (sp_law K) :=
  law_ok (c := T.c) (by decide) (G_law T F) fun ns _ => S.t_law ns
end M10
namespace M10
open PySem PySem.Spec PyProof.Rows L2 MR
theorem all_mk {l : PySem.W.OpenLaw} {w : World} {K : PySem.W.Frag} {h : Heap} {mg : Str → Option Value} {fa : Addr} (X : K.In h) (G : h.Ns mainGlobals mg) (hfa : mg "law" = some (.ref fa))
    {C_InvalidNumber C_CacheError C_InvalidRow C_InvalidFlags C_InvalidLine C_InvalidSlot C_InvalidText C_Refused C_TooMany : Addr}
    {f_InvalidRow_init : Addr} {od_InvalidRow_init an_InvalidRow_init : Option Addr} {sl_InvalidRow_init : Array (Option Value)} {oc_InvalidRow_init kV_InvalidRow_init dc_InvalidRow_init pm_InvalidRow_init cd_InvalidRow_init ct_InvalidRow_init : Value}
    {f_InvalidNumber_init : Addr} {od_InvalidNumber_init an_InvalidNumber_init : Option Addr} {sl_InvalidNumber_init : Array (Option Value)} {oc_InvalidNumber_init kV_InvalidNumber_init dc_InvalidNumber_init pm_InvalidNumber_init cd_InvalidNumber_init ct_InvalidNumber_init : Value}
    {f_is_whole : Addr} {od_is_whole an_is_whole : Option Addr} {sl_is_whole : Array (Option Value)} {oc_is_whole kV_is_whole dc_is_whole pm_is_whole cd_is_whole ct_is_whole : Value}
    {f_is_number : Addr} {od_is_number an_is_number : Option Addr} {sl_is_number : Array (Option Value)} {oc_is_number kV_is_number dc_is_number pm_is_number cd_is_number ct_is_number : Value}
    {f_check_number : Addr} {od_check_number an_check_number : Option Addr} {sl_check_number : Array (Option Value)} {oc_check_number kV_check_number dc_check_number pm_check_number cd_check_number ct_check_number : Value}
    {f_is_made_of : Addr} {od_is_made_of an_is_made_of : Option Addr} {sl_is_made_of : Array (Option Value)} {oc_is_made_of kV_is_made_of dc_is_made_of pm_is_made_of cd_is_made_of ct_is_made_of : Value}
    {f_is_row : Addr} {od_is_row an_is_row : Option Addr} {sl_is_row : Array (Option Value)} {oc_is_row kV_is_row dc_is_row pm_is_row cd_is_row ct_is_row : Value}
    {f_choose : Addr} {od_choose an_choose : Option Addr} {sl_choose : Array (Option Value)} {oc_choose kV_choose dc_choose pm_choose cd_choose ct_choose : Value}
    {f_block_count : Addr} {od_block_count an_block_count : Option Addr} {sl_block_count : Array (Option Value)} {oc_block_count kV_block_count dc_block_count pm_block_count cd_block_count ct_block_count : Value}
    {f_check_row : Addr} {od_check_row an_check_row : Option Addr} {sl_check_row : Array (Option Value)} {oc_check_row kV_check_row dc_check_row pm_check_row cd_check_row ct_check_row : Value}
    {f_least_blocks : Addr} {od_least_blocks an_least_blocks : Option Addr} {sl_least_blocks : Array (Option Value)} {oc_least_blocks kV_least_blocks dc_least_blocks pm_least_blocks cd_least_blocks ct_least_blocks : Value}
    {f_cut_count : Addr} {od_cut_count an_cut_count : Option Addr} {sl_cut_count : Array (Option Value)} {oc_cut_count kV_cut_count dc_cut_count pm_cut_count cd_cut_count ct_cut_count : Value}
    {f_next_choice : Addr} {od_next_choice an_next_choice : Option Addr} {sl_next_choice : Array (Option Value)} {oc_next_choice kV_next_choice dc_next_choice pm_next_choice cd_next_choice ct_next_choice : Value}
    {f_cut_at : Addr} {od_cut_at an_cut_at : Option Addr} {sl_cut_at : Array (Option Value)} {oc_cut_at kV_cut_at dc_cut_at pm_cut_at cd_cut_at ct_cut_at : Value}
    {f_each_cut : Addr} {od_each_cut an_each_cut : Option Addr} {sl_each_cut : Array (Option Value)} {oc_each_cut kV_each_cut dc_each_cut pm_each_cut cd_each_cut ct_each_cut : Value}
    {f__law_cell : Addr} {od__law_cell an__law_cell : Option Addr} {sl__law_cell : Array (Option Value)} {oc__law_cell kV__law_cell dc__law_cell pm__law_cell cd__law_cell ct__law_cell : Value}
    {f__law_box : Addr} {od__law_box an__law_box : Option Addr} {sl__law_box : Array (Option Value)} {oc__law_box kV__law_box dc__law_box pm__law_box cd__law_box ct__law_box : Value}
    {f__law_take : Addr} {od__law_take an__law_take : Option Addr} {sl__law_take : Array (Option Value)} {oc__law_take kV__law_take dc__law_take pm__law_take cd__law_take ct__law_take : Value}
    {f__law_row : Addr} {od__law_row an__law_row : Option Addr} {sl__law_row : Array (Option Value)} {oc__law_row kV__law_row dc__law_row pm__law_row cd__law_row ct__law_row : Value}
    {f__law_ways : Addr} {od__law_ways an__law_ways : Option Addr} {sl__law_ways : Array (Option Value)} {oc__law_ways kV__law_ways dc__law_ways pm__law_ways cd__law_ways ct__law_ways : Value}
    {f__law_is_number : Addr} {od__law_is_number an__law_is_number : Option Addr} {sl__law_is_number : Array (Option Value)} {oc__law_is_number kV__law_is_number dc__law_is_number pm__law_is_number cd__law_is_number ct__law_is_number : Value}
    {f__law_is_cut : Addr} {od__law_is_cut an__law_is_cut : Option Addr} {sl__law_is_cut : Array (Option Value)} {oc__law_is_cut kV__law_is_cut dc__law_is_cut pm__law_is_cut cd__law_is_cut ct__law_is_cut : Value}
    {f__law_is_listing : Addr} {od__law_is_listing an__law_is_listing : Option Addr} {sl__law_is_listing : Array (Option Value)} {oc__law_is_listing kV__law_is_listing dc__law_is_listing pm__law_is_listing cd__law_is_listing ct__law_is_listing : Value}
    {f__law_counted : Addr} {od__law_counted an__law_counted : Option Addr} {sl__law_counted : Array (Option Value)} {oc__law_counted kV__law_counted dc__law_counted pm__law_counted cd__law_counted ct__law_counted : Value}
    {f__law_listed : Addr} {od__law_listed an__law_listed : Option Addr} {sl__law_listed : Array (Option Value)} {oc__law_listed kV__law_listed dc__law_listed pm__law_listed cd__law_listed ct__law_listed : Value}
    {f__law_wrong_row : Addr} {od__law_wrong_row an__law_wrong_row : Option Addr} {sl__law_wrong_row : Array (Option Value)} {oc__law_wrong_row kV__law_wrong_row dc__law_wrong_row pm__law_wrong_row cd__law_wrong_row ct__law_wrong_row : Value}
    {f__law_wrong_number : Addr} {od__law_wrong_number an__law_wrong_number : Option Addr} {sl__law_wrong_number : Array (Option Value)} {oc__law_wrong_number kV__law_wrong_number dc__law_wrong_number pm__law_wrong_number cd__law_wrong_number ct__law_wrong_number : Value}
    {f__law_ask : Addr} {od__law_ask an__law_ask : Option Addr} {sl__law_ask : Array (Option Value)} {oc__law_ask kV__law_ask dc__law_ask pm__law_ask cd__law_ask ct__law_ask : Value}
    {f__law_refusal : Addr} {od__law_refusal an__law_refusal : Option Addr} {sl__law_refusal : Array (Option Value)} {oc__law_refusal kV__law_refusal dc__law_refusal pm__law_refusal cd__law_refusal ct__law_refusal : Value}
    {f__law_same : Addr} {od__law_same an__law_same : Option Addr} {sl__law_same : Array (Option Value)} {oc__law_same kV__law_same dc__law_same pm__law_same cd__law_same ct__law_same : Value}
    {f__law_refused : Addr} {od__law_refused an__law_refused : Option Addr} {sl__law_refused : Array (Option Value)} {oc__law_refused kV__law_refused dc__law_refused pm__law_refused cd__law_refused ct__law_refused : Value}
    {f_law : Addr} {od_law an_law : Option Addr} {sl_law : Array (Option Value)} {oc_law kV_law dc_law pm_law cd_law ct_law : Value}
    {nm_InvalidRow q_InvalidRow : Str} {N_InvalidRow : Addr} {bs_InvalidRow : List Value} {sn_InvalidRow : List Str} {sub_InvalidRow : List Value} {ab_InvalidRow : Bool} {col_InvalidRow : Option Bool} {dd_InvalidRow : Option Addr} {m0_InvalidRow m1_InvalidRow m2_InvalidRow m3_InvalidRow m5_InvalidRow : Option Value}
    {nm_InvalidNumber q_InvalidNumber : Str} {N_InvalidNumber : Addr} {bs_InvalidNumber : List Value} {sn_InvalidNumber : List Str} {sub_InvalidNumber : List Value} {ab_InvalidNumber : Bool} {col_InvalidNumber : Option Bool} {dd_InvalidNumber : Option Addr} {m0_InvalidNumber m1_InvalidNumber m2_InvalidNumber m3_InvalidNumber m5_InvalidNumber : Option Value}
    (aC_InvalidNumber : PySem.W.nsIn K mainGlobals "InvalidNumber" = some (some (.ref C_InvalidNumber)))
    (aC_InvalidRow : PySem.W.nsIn K mainGlobals "InvalidRow" = some (some (.ref C_InvalidRow)))
    (aC_CacheError : PySem.W.nsIn K mainGlobals "CacheError" = some (some (.ref C_CacheError)))
    (aC_InvalidFlags : PySem.W.nsIn K mainGlobals "InvalidFlags" = some (some (.ref C_InvalidFlags)))
    (aC_InvalidLine : PySem.W.nsIn K mainGlobals "InvalidLine" = some (some (.ref C_InvalidLine)))
    (aC_InvalidSlot : PySem.W.nsIn K mainGlobals "InvalidSlot" = some (some (.ref C_InvalidSlot)))
    (aC_InvalidText : PySem.W.nsIn K mainGlobals "InvalidText" = some (some (.ref C_InvalidText)))
    (aC_Refused : PySem.W.nsIn K mainGlobals "Refused" = some (some (.ref C_Refused)))
    (aC_TooMany : PySem.W.nsIn K mainGlobals "TooMany" = some (some (.ref C_TooMany)))
    (a1_InvalidRow_init : PySem.W.findIn K (.ref C_InvalidRow) "__init__" = some (some (.ref f_InvalidRow_init)))
    (t1_InvalidRow_init : PySem.W.typeIn K (.ref f_InvalidRow_init) = some (.type "function"))
    (l1_InvalidRow_init : K.lookup f_InvalidRow_init = some ⟨oc_InvalidRow_init, od_InvalidRow_init, .func (PySem.W.fnOf "__init__" "InvalidRow.__init__" (defArgs s_InvalidRow_init) (defBody s_InvalidRow_init) (defScope s_InvalidRow_init) .none kV_InvalidRow_init dc_InvalidRow_init pm_InvalidRow_init an_InvalidRow_init cd_InvalidRow_init ct_InvalidRow_init), sl_InvalidRow_init⟩)
    (c1_InvalidRow_init : PySem.W.codeIn K cd_InvalidRow_init "InvalidRow.__init__" = true)
    (k1_InvalidRow_init : PySem.W.keepIn K (.ref f_InvalidRow_init) = true)
    (a1_InvalidNumber_init : PySem.W.findIn K (.ref C_InvalidNumber) "__init__" = some (some (.ref f_InvalidNumber_init)))
    (t1_InvalidNumber_init : PySem.W.typeIn K (.ref f_InvalidNumber_init) = some (.type "function"))
    (l1_InvalidNumber_init : K.lookup f_InvalidNumber_init = some ⟨oc_InvalidNumber_init, od_InvalidNumber_init, .func (PySem.W.fnOf "__init__" "InvalidNumber.__init__" (defArgs s_InvalidNumber_init) (defBody s_InvalidNumber_init) (defScope s_InvalidNumber_init) .none kV_InvalidNumber_init dc_InvalidNumber_init pm_InvalidNumber_init an_InvalidNumber_init cd_InvalidNumber_init ct_InvalidNumber_init), sl_InvalidNumber_init⟩)
    (c1_InvalidNumber_init : PySem.W.codeIn K cd_InvalidNumber_init "InvalidNumber.__init__" = true)
    (k1_InvalidNumber_init : PySem.W.keepIn K (.ref f_InvalidNumber_init) = true)
    (a1_is_whole : PySem.W.nsIn K mainGlobals "is_whole" = some (some (.ref f_is_whole)))
    (l1_is_whole : K.lookup f_is_whole = some ⟨oc_is_whole, od_is_whole, .func (PySem.W.fnOf "is_whole" "is_whole" (defArgs s_is_whole) (defBody s_is_whole) (defScope s_is_whole) .none kV_is_whole dc_is_whole pm_is_whole an_is_whole cd_is_whole ct_is_whole), sl_is_whole⟩)
    (c1_is_whole : PySem.W.codeIn K cd_is_whole "is_whole" = true)
    (k1_is_whole : PySem.W.keepIn K (.ref f_is_whole) = true)
    (a1_is_number : PySem.W.nsIn K mainGlobals "is_number" = some (some (.ref f_is_number)))
    (l1_is_number : K.lookup f_is_number = some ⟨oc_is_number, od_is_number, .func (PySem.W.fnOf "is_number" "is_number" (defArgs s_is_number) (defBody s_is_number) (defScope s_is_number) .none kV_is_number dc_is_number pm_is_number an_is_number cd_is_number ct_is_number), sl_is_number⟩)
    (c1_is_number : PySem.W.codeIn K cd_is_number "is_number" = true)
    (k1_is_number : PySem.W.keepIn K (.ref f_is_number) = true)
    (a1_check_number : PySem.W.nsIn K mainGlobals "check_number" = some (some (.ref f_check_number)))
    (l1_check_number : K.lookup f_check_number = some ⟨oc_check_number, od_check_number, .func (PySem.W.fnOf "check_number" "check_number" (defArgs s_check_number) (defBody s_check_number) (defScope s_check_number) .none kV_check_number dc_check_number pm_check_number an_check_number cd_check_number ct_check_number), sl_check_number⟩)
    (c1_check_number : PySem.W.codeIn K cd_check_number "check_number" = true)
    (k1_check_number : PySem.W.keepIn K (.ref f_check_number) = true)
    (a1_is_made_of : PySem.W.nsIn K mainGlobals "is_made_of" = some (some (.ref f_is_made_of)))
    (l1_is_made_of : K.lookup f_is_made_of = some ⟨oc_is_made_of, od_is_made_of, .func (PySem.W.fnOf "is_made_of" "is_made_of" (defArgs s_is_made_of) (defBody s_is_made_of) (defScope s_is_made_of) .none kV_is_made_of dc_is_made_of pm_is_made_of an_is_made_of cd_is_made_of ct_is_made_of), sl_is_made_of⟩)
    (c1_is_made_of : PySem.W.codeIn K cd_is_made_of "is_made_of" = true)
    (k1_is_made_of : PySem.W.keepIn K (.ref f_is_made_of) = true)
    (a1_is_row : PySem.W.nsIn K mainGlobals "is_row" = some (some (.ref f_is_row)))
    (l1_is_row : K.lookup f_is_row = some ⟨oc_is_row, od_is_row, .func (PySem.W.fnOf "is_row" "is_row" (defArgs s_is_row) (defBody s_is_row) (defScope s_is_row) .none kV_is_row dc_is_row pm_is_row an_is_row cd_is_row ct_is_row), sl_is_row⟩)
    (c1_is_row : PySem.W.codeIn K cd_is_row "is_row" = true)
    (k1_is_row : PySem.W.keepIn K (.ref f_is_row) = true)
    (a1_choose : PySem.W.nsIn K mainGlobals "choose" = some (some (.ref f_choose)))
    (l1_choose : K.lookup f_choose = some ⟨oc_choose, od_choose, .func (PySem.W.fnOf "choose" "choose" (defArgs s_choose) (defBody s_choose) (defScope s_choose) .none kV_choose dc_choose pm_choose an_choose cd_choose ct_choose), sl_choose⟩)
    (c1_choose : PySem.W.codeIn K cd_choose "choose" = true)
    (k1_choose : PySem.W.keepIn K (.ref f_choose) = true)
    (a1_block_count : PySem.W.nsIn K mainGlobals "block_count" = some (some (.ref f_block_count)))
    (l1_block_count : K.lookup f_block_count = some ⟨oc_block_count, od_block_count, .func (PySem.W.fnOf "block_count" "block_count" (defArgs s_block_count) (defBody s_block_count) (defScope s_block_count) .none kV_block_count dc_block_count pm_block_count an_block_count cd_block_count ct_block_count), sl_block_count⟩)
    (c1_block_count : PySem.W.codeIn K cd_block_count "block_count" = true)
    (k1_block_count : PySem.W.keepIn K (.ref f_block_count) = true)
    (a1_check_row : PySem.W.nsIn K mainGlobals "check_row" = some (some (.ref f_check_row)))
    (l1_check_row : K.lookup f_check_row = some ⟨oc_check_row, od_check_row, .func (PySem.W.fnOf "check_row" "check_row" (defArgs s_check_row) (defBody s_check_row) (defScope s_check_row) .none kV_check_row dc_check_row pm_check_row an_check_row cd_check_row ct_check_row), sl_check_row⟩)
    (c1_check_row : PySem.W.codeIn K cd_check_row "check_row" = true)
    (k1_check_row : PySem.W.keepIn K (.ref f_check_row) = true)
    (a1_least_blocks : PySem.W.nsIn K mainGlobals "least_blocks" = some (some (.ref f_least_blocks)))
    (l1_least_blocks : K.lookup f_least_blocks = some ⟨oc_least_blocks, od_least_blocks, .func (PySem.W.fnOf "least_blocks" "least_blocks" (defArgs s_least_blocks) (defBody s_least_blocks) (defScope s_least_blocks) .none kV_least_blocks dc_least_blocks pm_least_blocks an_least_blocks cd_least_blocks ct_least_blocks), sl_least_blocks⟩)
    (c1_least_blocks : PySem.W.codeIn K cd_least_blocks "least_blocks" = true)
    (k1_least_blocks : PySem.W.keepIn K (.ref f_least_blocks) = true)
    (a1_cut_count : PySem.W.nsIn K mainGlobals "cut_count" = some (some (.ref f_cut_count)))
    (l1_cut_count : K.lookup f_cut_count = some ⟨oc_cut_count, od_cut_count, .func (PySem.W.fnOf "cut_count" "cut_count" (defArgs s_cut_count) (defBody s_cut_count) (defScope s_cut_count) .none kV_cut_count dc_cut_count pm_cut_count an_cut_count cd_cut_count ct_cut_count), sl_cut_count⟩)
    (c1_cut_count : PySem.W.codeIn K cd_cut_count "cut_count" = true)
    (k1_cut_count : PySem.W.keepIn K (.ref f_cut_count) = true)
    (a1_next_choice : PySem.W.nsIn K mainGlobals "next_choice" = some (some (.ref f_next_choice)))
    (l1_next_choice : K.lookup f_next_choice = some ⟨oc_next_choice, od_next_choice, .func (PySem.W.fnOf "next_choice" "next_choice" (defArgs s_next_choice) (defBody s_next_choice) (defScope s_next_choice) .none kV_next_choice dc_next_choice pm_next_choice an_next_choice cd_next_choice ct_next_choice), sl_next_choice⟩)
    (c1_next_choice : PySem.W.codeIn K cd_next_choice "next_choice" = true)
    (k1_next_choice : PySem.W.keepIn K (.ref f_next_choice) = true)
    (a1_cut_at : PySem.W.nsIn K mainGlobals "cut_at" = some (some (.ref f_cut_at)))
    (l1_cut_at : K.lookup f_cut_at = some ⟨oc_cut_at, od_cut_at, .func (PySem.W.fnOf "cut_at" "cut_at" (defArgs s_cut_at) (defBody s_cut_at) (defScope s_cut_at) .none kV_cut_at dc_cut_at pm_cut_at an_cut_at cd_cut_at ct_cut_at), sl_cut_at⟩)
    (c1_cut_at : PySem.W.codeIn K cd_cut_at "cut_at" = true)
    (k1_cut_at : PySem.W.keepIn K (.ref f_cut_at) = true)
    (a1_each_cut : PySem.W.nsIn K mainGlobals "each_cut" = some (some (.ref f_each_cut)))
    (l1_each_cut : K.lookup f_each_cut = some ⟨oc_each_cut, od_each_cut, .func (PySem.W.fnOf "each_cut" "each_cut" (defArgs s_each_cut) (defBody s_each_cut) (defScope s_each_cut) .none kV_each_cut dc_each_cut pm_each_cut an_each_cut cd_each_cut ct_each_cut), sl_each_cut⟩)
    (c1_each_cut : PySem.W.codeIn K cd_each_cut "each_cut" = true)
    (k1_each_cut : PySem.W.keepIn K (.ref f_each_cut) = true)
    (a1__law_cell : PySem.W.nsIn K mainGlobals "_law_cell" = some (some (.ref f__law_cell)))
    (l1__law_cell : K.lookup f__law_cell = some ⟨oc__law_cell, od__law_cell, .func (PySem.W.fnOf "_law_cell" "_law_cell" (defArgs s__law_cell) (defBody s__law_cell) (defScope s__law_cell) .none kV__law_cell dc__law_cell pm__law_cell an__law_cell cd__law_cell ct__law_cell), sl__law_cell⟩)
    (c1__law_cell : PySem.W.codeIn K cd__law_cell "_law_cell" = true)
    (k1__law_cell : PySem.W.keepIn K (.ref f__law_cell) = true)
    (a1__law_box : PySem.W.nsIn K mainGlobals "_law_box" = some (some (.ref f__law_box)))
    (l1__law_box : K.lookup f__law_box = some ⟨oc__law_box, od__law_box, .func (PySem.W.fnOf "_law_box" "_law_box" (defArgs s__law_box) (defBody s__law_box) (defScope s__law_box) .none kV__law_box dc__law_box pm__law_box an__law_box cd__law_box ct__law_box), sl__law_box⟩)
    (c1__law_box : PySem.W.codeIn K cd__law_box "_law_box" = true)
    (k1__law_box : PySem.W.keepIn K (.ref f__law_box) = true)
    (a1__law_take : PySem.W.nsIn K mainGlobals "_law_take" = some (some (.ref f__law_take)))
    (l1__law_take : K.lookup f__law_take = some ⟨oc__law_take, od__law_take, .func (PySem.W.fnOf "_law_take" "_law_take" (defArgs s__law_take) (defBody s__law_take) (defScope s__law_take) .none kV__law_take dc__law_take pm__law_take an__law_take cd__law_take ct__law_take), sl__law_take⟩)
    (c1__law_take : PySem.W.codeIn K cd__law_take "_law_take" = true)
    (k1__law_take : PySem.W.keepIn K (.ref f__law_take) = true)
    (a1__law_row : PySem.W.nsIn K mainGlobals "_law_row" = some (some (.ref f__law_row)))
    (l1__law_row : K.lookup f__law_row = some ⟨oc__law_row, od__law_row, .func (PySem.W.fnOf "_law_row" "_law_row" (defArgs s__law_row) (defBody s__law_row) (defScope s__law_row) .none kV__law_row dc__law_row pm__law_row an__law_row cd__law_row ct__law_row), sl__law_row⟩)
    (c1__law_row : PySem.W.codeIn K cd__law_row "_law_row" = true)
    (k1__law_row : PySem.W.keepIn K (.ref f__law_row) = true)
    (a1__law_ways : PySem.W.nsIn K mainGlobals "_law_ways" = some (some (.ref f__law_ways)))
    (l1__law_ways : K.lookup f__law_ways = some ⟨oc__law_ways, od__law_ways, .func (PySem.W.fnOf "_law_ways" "_law_ways" (defArgs s__law_ways) (defBody s__law_ways) (defScope s__law_ways) .none kV__law_ways dc__law_ways pm__law_ways an__law_ways cd__law_ways ct__law_ways), sl__law_ways⟩)
    (c1__law_ways : PySem.W.codeIn K cd__law_ways "_law_ways" = true)
    (k1__law_ways : PySem.W.keepIn K (.ref f__law_ways) = true)
    (a1__law_is_number : PySem.W.nsIn K mainGlobals "_law_is_number" = some (some (.ref f__law_is_number)))
    (l1__law_is_number : K.lookup f__law_is_number = some ⟨oc__law_is_number, od__law_is_number, .func (PySem.W.fnOf "_law_is_number" "_law_is_number" (defArgs s__law_is_number) (defBody s__law_is_number) (defScope s__law_is_number) .none kV__law_is_number dc__law_is_number pm__law_is_number an__law_is_number cd__law_is_number ct__law_is_number), sl__law_is_number⟩)
    (c1__law_is_number : PySem.W.codeIn K cd__law_is_number "_law_is_number" = true)
    (k1__law_is_number : PySem.W.keepIn K (.ref f__law_is_number) = true)
    (a1__law_is_cut : PySem.W.nsIn K mainGlobals "_law_is_cut" = some (some (.ref f__law_is_cut)))
    (l1__law_is_cut : K.lookup f__law_is_cut = some ⟨oc__law_is_cut, od__law_is_cut, .func (PySem.W.fnOf "_law_is_cut" "_law_is_cut" (defArgs s__law_is_cut) (defBody s__law_is_cut) (defScope s__law_is_cut) .none kV__law_is_cut dc__law_is_cut pm__law_is_cut an__law_is_cut cd__law_is_cut ct__law_is_cut), sl__law_is_cut⟩)
    (c1__law_is_cut : PySem.W.codeIn K cd__law_is_cut "_law_is_cut" = true)
    (k1__law_is_cut : PySem.W.keepIn K (.ref f__law_is_cut) = true)
    (a1__law_is_listing : PySem.W.nsIn K mainGlobals "_law_is_listing" = some (some (.ref f__law_is_listing)))
    (l1__law_is_listing : K.lookup f__law_is_listing = some ⟨oc__law_is_listing, od__law_is_listing, .func (PySem.W.fnOf "_law_is_listing" "_law_is_listing" (defArgs s__law_is_listing) (defBody s__law_is_listing) (defScope s__law_is_listing) .none kV__law_is_listing dc__law_is_listing pm__law_is_listing an__law_is_listing cd__law_is_listing ct__law_is_listing), sl__law_is_listing⟩)
    (c1__law_is_listing : PySem.W.codeIn K cd__law_is_listing "_law_is_listing" = true)
    (k1__law_is_listing : PySem.W.keepIn K (.ref f__law_is_listing) = true)
    (a1__law_counted : PySem.W.nsIn K mainGlobals "_law_counted" = some (some (.ref f__law_counted)))
    (l1__law_counted : K.lookup f__law_counted = some ⟨oc__law_counted, od__law_counted, .func (PySem.W.fnOf "_law_counted" "_law_counted" (defArgs s__law_counted) (defBody s__law_counted) (defScope s__law_counted) .none kV__law_counted dc__law_counted pm__law_counted an__law_counted cd__law_counted ct__law_counted), sl__law_counted⟩)
    (c1__law_counted : PySem.W.codeIn K cd__law_counted "_law_counted" = true)
    (k1__law_counted : PySem.W.keepIn K (.ref f__law_counted) = true)
    (a1__law_listed : PySem.W.nsIn K mainGlobals "_law_listed" = some (some (.ref f__law_listed)))
    (l1__law_listed : K.lookup f__law_listed = some ⟨oc__law_listed, od__law_listed, .func (PySem.W.fnOf "_law_listed" "_law_listed" (defArgs s__law_listed) (defBody s__law_listed) (defScope s__law_listed) .none kV__law_listed dc__law_listed pm__law_listed an__law_listed cd__law_listed ct__law_listed), sl__law_listed⟩)
    (c1__law_listed : PySem.W.codeIn K cd__law_listed "_law_listed" = true)
    (k1__law_listed : PySem.W.keepIn K (.ref f__law_listed) = true)
    (a1__law_wrong_row : PySem.W.nsIn K mainGlobals "_law_wrong_row" = some (some (.ref f__law_wrong_row)))
    (l1__law_wrong_row : K.lookup f__law_wrong_row = some ⟨oc__law_wrong_row, od__law_wrong_row, .func (PySem.W.fnOf "_law_wrong_row" "_law_wrong_row" (defArgs s__law_wrong_row) (defBody s__law_wrong_row) (defScope s__law_wrong_row) .none kV__law_wrong_row dc__law_wrong_row pm__law_wrong_row an__law_wrong_row cd__law_wrong_row ct__law_wrong_row), sl__law_wrong_row⟩)
    (c1__law_wrong_row : PySem.W.codeIn K cd__law_wrong_row "_law_wrong_row" = true)
    (k1__law_wrong_row : PySem.W.keepIn K (.ref f__law_wrong_row) = true)
    (a1__law_wrong_number : PySem.W.nsIn K mainGlobals "_law_wrong_number" = some (some (.ref f__law_wrong_number)))
    (l1__law_wrong_number : K.lookup f__law_wrong_number = some ⟨oc__law_wrong_number, od__law_wrong_number, .func (PySem.W.fnOf "_law_wrong_number" "_law_wrong_number" (defArgs s__law_wrong_number) (defBody s__law_wrong_number) (defScope s__law_wrong_number) .none kV__law_wrong_number dc__law_wrong_number pm__law_wrong_number an__law_wrong_number cd__law_wrong_number ct__law_wrong_number), sl__law_wrong_number⟩)
    (c1__law_wrong_number : PySem.W.codeIn K cd__law_wrong_number "_law_wrong_number" = true)
    (k1__law_wrong_number : PySem.W.keepIn K (.ref f__law_wrong_number) = true)
    (a1__law_ask : PySem.W.nsIn K mainGlobals "_law_ask" = some (some (.ref f__law_ask)))
    (l1__law_ask : K.lookup f__law_ask = some ⟨oc__law_ask, od__law_ask, .func (PySem.W.fnOf "_law_ask" "_law_ask" (defArgs s__law_ask) (defBody s__law_ask) (defScope s__law_ask) .none kV__law_ask dc__law_ask pm__law_ask an__law_ask cd__law_ask ct__law_ask), sl__law_ask⟩)
    (c1__law_ask : PySem.W.codeIn K cd__law_ask "_law_ask" = true)
    (k1__law_ask : PySem.W.keepIn K (.ref f__law_ask) = true)
    (a1__law_refusal : PySem.W.nsIn K mainGlobals "_law_refusal" = some (some (.ref f__law_refusal)))
    (l1__law_refusal : K.lookup f__law_refusal = some ⟨oc__law_refusal, od__law_refusal, .func (PySem.W.fnOf "_law_refusal" "_law_refusal" (defArgs s__law_refusal) (defBody s__law_refusal) (defScope s__law_refusal) .none kV__law_refusal dc__law_refusal pm__law_refusal an__law_refusal cd__law_refusal ct__law_refusal), sl__law_refusal⟩)
    (c1__law_refusal : PySem.W.codeIn K cd__law_refusal "_law_refusal" = true)
    (k1__law_refusal : PySem.W.keepIn K (.ref f__law_refusal) = true)
    (a1__law_same : PySem.W.nsIn K mainGlobals "_law_same" = some (some (.ref f__law_same)))
    (l1__law_same : K.lookup f__law_same = some ⟨oc__law_same, od__law_same, .func (PySem.W.fnOf "_law_same" "_law_same" (defArgs s__law_same) (defBody s__law_same) (defScope s__law_same) .none kV__law_same dc__law_same pm__law_same an__law_same cd__law_same ct__law_same), sl__law_same⟩)
    (c1__law_same : PySem.W.codeIn K cd__law_same "_law_same" = true)
    (k1__law_same : PySem.W.keepIn K (.ref f__law_same) = true)
    (a1__law_refused : PySem.W.nsIn K mainGlobals "_law_refused" = some (some (.ref f__law_refused)))
    (l1__law_refused : K.lookup f__law_refused = some ⟨oc__law_refused, od__law_refused, .func (PySem.W.fnOf "_law_refused" "_law_refused" (defArgs s__law_refused) (defBody s__law_refused) (defScope s__law_refused) .none kV__law_refused dc__law_refused pm__law_refused an__law_refused cd__law_refused ct__law_refused), sl__law_refused⟩)
    (c1__law_refused : PySem.W.codeIn K cd__law_refused "_law_refused" = true)
    (k1__law_refused : PySem.W.keepIn K (.ref f__law_refused) = true)
    (a1_law : PySem.W.nsIn K mainGlobals "law" = some (some (.ref f_law)))
    (l1_law : K.lookup f_law = some ⟨oc_law, od_law, .func (PySem.W.fnOf "law" "law" (defArgs s_law) (defBody s_law) (defScope s_law) .none kV_law dc_law pm_law an_law cd_law ct_law), sl_law⟩)
    (c1_law : PySem.W.codeIn K cd_law "law" = true)
    (k1_law : PySem.W.keepIn K (.ref f_law) = true)
    (z_isinstance : PySem.W.nsIn K mainGlobals "isinstance" = some none)
    (z_int : PySem.W.nsIn K mainGlobals "int" = some none)
    (z_bool : PySem.W.nsIn K mainGlobals "bool" = some none)
    (z_str : PySem.W.nsIn K mainGlobals "str" = some none)
    (z_all : PySem.W.nsIn K mainGlobals "all" = some none)
    (z_len : PySem.W.nsIn K mainGlobals "len" = some none)
    (z_range : PySem.W.nsIn K mainGlobals "range" = some none)
    (z_zip : PySem.W.nsIn K mainGlobals "zip" = some none)
    (z_list : PySem.W.nsIn K mainGlobals "list" = some none)
    (z_sorted : PySem.W.nsIn K mainGlobals "sorted" = some none)
    (z_abs : PySem.W.nsIn K mainGlobals "abs" = some none)
    (z_sum : PySem.W.nsIn K mainGlobals "sum" = some none)
    (z_ValueError : PySem.W.nsIn K mainGlobals "ValueError" = some none)
    (z_min : PySem.W.nsIn K mainGlobals "min" = some none)
    (z_comb : PySem.W.nsIn K mainGlobals "comb" = some (some (.builtin "math.comb")))
    (xL_InvalidRow : K.lookup C_InvalidRow = some (excClassObj nm_InvalidRow q_InvalidRow C_InvalidRow N_InvalidRow bs_InvalidRow [.ref C_CacheError, .type "ValueError", .type "Exception", .type "BaseException", .type "object"] true sn_InvalidRow sub_InvalidRow ab_InvalidRow col_InvalidRow dd_InvalidRow m0_InvalidRow m1_InvalidRow m2_InvalidRow m3_InvalidRow m5_InvalidRow "ValueError.__new__"))
    (xs_InvalidRow : PySem.W.findIn K (.ref C_InvalidRow) "__setattr__" = some (some (.builtin "object.__setattr__")))
    (xe_InvalidRow : PySem.W.subIn K (.ref C_InvalidRow) (.type "BaseException") = some true)
    (sx_InvalidRow : PySem.W.subIn K (.ref C_InvalidRow) (.type "StopIteration") = some false)
    (xt_InvalidRow : PySem.W.typeIn K (.ref C_InvalidRow) = some (.type "type"))
    (xk_InvalidRow : PySem.W.keepIn K (.ref C_InvalidRow) = true)
    (xg_InvalidRow : PySem.W.findIn K (.ref C_InvalidRow) "__getattribute__" = some (some (.builtin "BaseException.__getattribute__")))
    (xn_InvalidRow : PySem.W.findIn K (.ref C_InvalidRow) "__getattr__" = some none)
    (xh_InvalidRow : PySem.W.hasDictIn K C_InvalidRow = true)
    (xf_InvalidRow_index : PySem.W.findIn K (.ref C_InvalidRow) "index" = some none)
    (xL_InvalidNumber : K.lookup C_InvalidNumber = some (excClassObj nm_InvalidNumber q_InvalidNumber C_InvalidNumber N_InvalidNumber bs_InvalidNumber [.ref C_CacheError, .type "ValueError", .type "Exception", .type "BaseException", .type "object"] true sn_InvalidNumber sub_InvalidNumber ab_InvalidNumber col_InvalidNumber dd_InvalidNumber m0_InvalidNumber m1_InvalidNumber m2_InvalidNumber m3_InvalidNumber m5_InvalidNumber "ValueError.__new__"))
    (xs_InvalidNumber : PySem.W.findIn K (.ref C_InvalidNumber) "__setattr__" = some (some (.builtin "object.__setattr__")))
    (xe_InvalidNumber : PySem.W.subIn K (.ref C_InvalidNumber) (.type "BaseException") = some true)
    (sx_InvalidNumber : PySem.W.subIn K (.ref C_InvalidNumber) (.type "StopIteration") = some false)
    (xt_InvalidNumber : PySem.W.typeIn K (.ref C_InvalidNumber) = some (.type "type"))
    (xk_InvalidNumber : PySem.W.keepIn K (.ref C_InvalidNumber) = true)
    (xg_InvalidNumber : PySem.W.findIn K (.ref C_InvalidNumber) "__getattribute__" = some (some (.builtin "BaseException.__getattribute__")))
    (xn_InvalidNumber : PySem.W.findIn K (.ref C_InvalidNumber) "__getattr__" = some none)
    (xh_InvalidNumber : PySem.W.hasDictIn K C_InvalidNumber = true)
    (xf_InvalidNumber_number : PySem.W.findIn K (.ref C_InvalidNumber) "number" = some none)
    (em_InvalidNumber_CacheError : PySem.W.exmOne K (.ref C_InvalidNumber) (.ref C_CacheError) = some true)
    (em_InvalidRow_CacheError : PySem.W.exmOne K (.ref C_InvalidRow) (.ref C_CacheError) = some true)
    (xa_InvalidNumber : PySem.W.findIn K (.ref C_InvalidNumber) "__class__" = some (some (.builtin "object.__class__")))
    (xm_InvalidNumber : PySem.W.mroIn K C_InvalidNumber (.type "object") = some true)
    (xz1 : PySem.W.specialIn K (.builtin "object.__class__") "__get__" = some (some (.builtin "getset_descriptor.__get__")))
    (xz2 : PySem.W.takesIn K (.builtin "object.__class__") = some true)
    (q_InvalidNumber_InvalidRow : PySem.W.kitOne K (.ref C_InvalidNumber) (.ref C_InvalidRow) = some false)
    (xa_InvalidRow : PySem.W.findIn K (.ref C_InvalidRow) "__class__" = some (some (.builtin "object.__class__")))
    (xm_InvalidRow : PySem.W.mroIn K C_InvalidRow (.type "object") = some true)
    (q_InvalidRow_InvalidRow : PySem.W.kitOne K (.ref C_InvalidRow) (.ref C_InvalidRow) = some true)
    (q_InvalidNumber_InvalidNumber : PySem.W.kitOne K (.ref C_InvalidNumber) (.ref C_InvalidNumber) = some true)
    (q_InvalidRow_InvalidNumber : PySem.W.kitOne K (.ref C_InvalidRow) (.ref C_InvalidNumber) = some false)
    (q_InvalidNumber_InvalidFlags : PySem.W.kitOne K (.ref C_InvalidNumber) (.ref C_InvalidFlags) = some false)
    (q_InvalidRow_InvalidFlags : PySem.W.kitOne K (.ref C_InvalidRow) (.ref C_InvalidFlags) = some false)
    (q_InvalidNumber_InvalidLine : PySem.W.kitOne K (.ref C_InvalidNumber) (.ref C_InvalidLine) = some false)
    (q_InvalidRow_InvalidLine : PySem.W.kitOne K (.ref C_InvalidRow) (.ref C_InvalidLine) = some false)
    (q_InvalidNumber_InvalidSlot : PySem.W.kitOne K (.ref C_InvalidNumber) (.ref C_InvalidSlot) = some false)
    (q_InvalidRow_InvalidSlot : PySem.W.kitOne K (.ref C_InvalidRow) (.ref C_InvalidSlot) = some false)
    (q_InvalidNumber_InvalidText : PySem.W.kitOne K (.ref C_InvalidNumber) (.ref C_InvalidText) = some false)
    (q_InvalidRow_InvalidText : PySem.W.kitOne K (.ref C_InvalidRow) (.ref C_InvalidText) = some false)
    (q_InvalidNumber_Refused : PySem.W.kitOne K (.ref C_InvalidNumber) (.ref C_Refused) = some false)
    (q_InvalidRow_Refused : PySem.W.kitOne K (.ref C_InvalidRow) (.ref C_Refused) = some false)
    (q_InvalidNumber_TooMany : PySem.W.kitOne K (.ref C_InvalidNumber) (.ref C_TooMany) = some false)
    (q_InvalidRow_TooMany : PySem.W.kitOne K (.ref C_InvalidRow) (.ref C_TooMany) = some false)
    (q_InvalidNumber_ValueError : PySem.W.kitOne K (.ref C_InvalidNumber) (.type "ValueError") = some true)
    (q_InvalidRow_ValueError : PySem.W.kitOne K (.ref C_InvalidRow) (.type "ValueError") = some true) :
    ∃ fd : FuncData, (∀ (s : Shared) (v : Value), BindsTo s fd ⟨[v], []⟩ [("script", v)]) ∧ ∀ base : Heap, K.In base → base.Ns mainGlobals mg → FnOk l.prog w K mg base CX0 10 fa fd ["script"] (sp_law K) := by
  have e := hfa.symm.trans (PySem.W.mg_of X G a1_law)
  cases e
  obtain ⟨cls, e_InvalidNumber, e_CacheError, e_InvalidRow, e_InvalidFlags, e_InvalidLine, e_InvalidSlot, e_InvalidText, e_Refused, e_TooMany⟩ : ∃ cls : Str → Addr, cls "InvalidNumber" = C_InvalidNumber ∧ cls "CacheError" = C_CacheError ∧ cls "InvalidRow" = C_InvalidRow ∧ cls "InvalidFlags" = C_InvalidFlags ∧ cls "InvalidLine" = C_InvalidLine ∧ cls "InvalidSlot" = C_InvalidSlot ∧ cls "InvalidText" = C_InvalidText ∧ cls "Refused" = C_Refused ∧ cls "TooMany" = C_TooMany := ⟨clsOf [("InvalidNumber", C_InvalidNumber), ("CacheError", C_CacheError), ("InvalidRow", C_InvalidRow), ("InvalidFlags", C_InvalidFlags), ("InvalidLine", C_InvalidLine), ("InvalidSlot", C_InvalidSlot), ("InvalidText", C_InvalidText), ("Refused", C_Refused), ("TooMany", C_TooMany)], clsOf_hit, (clsOf_miss (by decide +kernel)).trans (clsOf_hit), (clsOf_miss (by decide +kernel)).trans ((clsOf_miss (by decide +kernel)).trans (clsOf_hit)), (clsOf_miss (by decide +kernel)).trans ((clsOf_miss (by decide +kernel)).trans ((clsOf_miss (by decide +kernel)).trans (clsOf_hit))), (clsOf_miss (by decide +kernel)).trans ((clsOf_miss (by decide +kernel)).trans ((clsOf_miss (by decide +kernel)).trans ((clsOf_miss (by decide +kernel)).trans (clsOf_hit)))), (clsOf_miss (by decide +kernel)).trans ((clsOf_miss (by decide +kernel)).trans ((clsOf_miss (by decide +kernel)).trans ((clsOf_miss (by decide +kernel)).trans ((clsOf_miss (by decide +kernel)).trans (clsOf_hit))))), (clsOf_miss (by decide +kernel)).trans ((clsOf_miss (by decide +kernel)).trans ((clsOf_miss (by decide +kernel)).trans ((clsOf_miss (by decide +kernel)).trans ((clsOf_miss (by decide +kernel)).trans ((clsOf_miss (by decide +kernel)).trans (clsOf_hit)))))), (clsOf_miss (by decide +kernel)).trans ((clsOf_miss (by decide +kernel)).trans ((clsOf_miss (by decide +kernel)).trans ((clsOf_miss (by decide +kernel)).trans ((clsOf_miss (by decide +kernel)).trans ((clsOf_miss (by decide +kernel)).trans ((clsOf_miss (by decide +kernel)).trans (clsOf_hit))))))), (clsOf_miss (by decide +kernel)).trans ((clsOf_miss (by decide +kernel)).trans ((clsOf_miss (by decide +kernel)).trans ((clsOf_miss (by decide +kernel)).trans ((clsOf_miss (by decide +kernel)).trans ((clsOf_miss (by decide +kernel)).trans ((clsOf_miss (by decide +kernel)).trans ((clsOf_miss (by decide +kernel)).trans (clsOf_hit))))))))⟩
  have F_InvalidRow_init := fun_mk (st := s_InvalidRow_init) l1_InvalidRow_init c1_InvalidRow_init k1_InvalidRow_init
  have F_InvalidNumber_init := fun_mk (st := s_InvalidNumber_init) l1_InvalidNumber_init c1_InvalidNumber_init k1_InvalidNumber_init
  have F_is_whole := fun_mk (st := s_is_whole) l1_is_whole c1_is_whole k1_is_whole
  have F_is_number := fun_mk (st := s_is_number) l1_is_number c1_is_number k1_is_number
  have F_check_number := fun_mk (st := s_check_number) l1_check_number c1_check_number k1_check_number
  have F_is_made_of := fun_mk (st := s_is_made_of) l1_is_made_of c1_is_made_of k1_is_made_of
  have F_is_row := fun_mk (st := s_is_row) l1_is_row c1_is_row k1_is_row
  have F_choose := fun_mk (st := s_choose) l1_choose c1_choose k1_choose
  have F_block_count := fun_mk (st := s_block_count) l1_block_count c1_block_count k1_block_count
  have F_check_row := fun_mk (st := s_check_row) l1_check_row c1_check_row k1_check_row
  have F_least_blocks := fun_mk (st := s_least_blocks) l1_least_blocks c1_least_blocks k1_least_blocks
  have F_cut_count := fun_mk (st := s_cut_count) l1_cut_count c1_cut_count k1_cut_count
  have F_next_choice := fun_mk (st := s_next_choice) l1_next_choice c1_next_choice k1_next_choice
  have F_cut_at := fun_mk (st := s_cut_at) l1_cut_at c1_cut_at k1_cut_at
  have F_each_cut := fun_mk (st := s_each_cut) l1_each_cut c1_each_cut k1_each_cut
  have F__law_cell := fun_mk (st := s__law_cell) l1__law_cell c1__law_cell k1__law_cell
  have F__law_box := fun_mk (st := s__law_box) l1__law_box c1__law_box k1__law_box
  have F__law_take := fun_mk (st := s__law_take) l1__law_take c1__law_take k1__law_take
  have F__law_row := fun_mk (st := s__law_row) l1__law_row c1__law_row k1__law_row
  have F__law_ways := fun_mk (st := s__law_ways) l1__law_ways c1__law_ways k1__law_ways
  have F__law_is_number := fun_mk (st := s__law_is_number) l1__law_is_number c1__law_is_number k1__law_is_number
  have F__law_is_cut := fun_mk (st := s__law_is_cut) l1__law_is_cut c1__law_is_cut k1__law_is_cut
  have F__law_is_listing := fun_mk (st := s__law_is_listing) l1__law_is_listing c1__law_is_listing k1__law_is_listing
  have F__law_counted := fun_mk (st := s__law_counted) l1__law_counted c1__law_counted k1__law_counted
  have F__law_listed := fun_mk (st := s__law_listed) l1__law_listed c1__law_listed k1__law_listed
  have F__law_wrong_row := fun_mk (st := s__law_wrong_row) l1__law_wrong_row c1__law_wrong_row k1__law_wrong_row
  have F__law_wrong_number := fun_mk (st := s__law_wrong_number) l1__law_wrong_number c1__law_wrong_number k1__law_wrong_number
  have F__law_ask := fun_mk (st := s__law_ask) l1__law_ask c1__law_ask k1__law_ask
  have F__law_refusal := fun_mk (st := s__law_refusal) l1__law_refusal c1__law_refusal k1__law_refusal
  have F__law_same := fun_mk (st := s__law_same) l1__law_same c1__law_same k1__law_same
  have F__law_refused := fun_mk (st := s__law_refused) l1__law_refused c1__law_refused k1__law_refused
  have F_law := fun_mk (st := s_law) l1_law c1_law k1_law
  let T : TX K mg := {
    cls := cls
    m_InvalidNumber := (by rw [e_InvalidNumber]; exact PySem.W.mg_of X G aC_InvalidNumber)
    m_InvalidRow := (by rw [e_InvalidRow]; exact PySem.W.mg_of X G aC_InvalidRow)
    m_CacheError := (by rw [e_CacheError]; exact PySem.W.mg_of X G aC_CacheError)
    m_InvalidFlags := (by rw [e_InvalidFlags]; exact PySem.W.mg_of X G aC_InvalidFlags)
    m_InvalidLine := (by rw [e_InvalidLine]; exact PySem.W.mg_of X G aC_InvalidLine)
    m_InvalidSlot := (by rw [e_InvalidSlot]; exact PySem.W.mg_of X G aC_InvalidSlot)
    m_InvalidText := (by rw [e_InvalidText]; exact PySem.W.mg_of X G aC_InvalidText)
    m_Refused := (by rw [e_Refused]; exact PySem.W.mg_of X G aC_Refused)
    m_TooMany := (by rw [e_TooMany]; exact PySem.W.mg_of X G aC_TooMany)
    a_InvalidRow_init := f_InvalidRow_init
    d_InvalidRow_init := PySem.W.fnOf "__init__" "InvalidRow.__init__" (defArgs s_InvalidRow_init) (defBody s_InvalidRow_init) (defScope s_InvalidRow_init) .none kV_InvalidRow_init dc_InvalidRow_init pm_InvalidRow_init an_InvalidRow_init cd_InvalidRow_init ct_InvalidRow_init
    F_InvalidRow_init := F_InvalidRow_init
    b_InvalidRow_init := F_InvalidRow_init.binds (ps := p_InvalidRow_init) fun _ _ _ _ _ _ us hl => by obtain ⟨a, b, rfl⟩ := MR.lenE2 hl; rfl
    a_InvalidNumber_init := f_InvalidNumber_init
    d_InvalidNumber_init := PySem.W.fnOf "__init__" "InvalidNumber.__init__" (defArgs s_InvalidNumber_init) (defBody s_InvalidNumber_init) (defScope s_InvalidNumber_init) .none kV_InvalidNumber_init dc_InvalidNumber_init pm_InvalidNumber_init an_InvalidNumber_init cd_InvalidNumber_init ct_InvalidNumber_init
    F_InvalidNumber_init := F_InvalidNumber_init
    b_InvalidNumber_init := F_InvalidNumber_init.binds (ps := p_InvalidNumber_init) fun _ _ _ _ _ _ us hl => by obtain ⟨a, b, rfl⟩ := MR.lenE2 hl; rfl
    a_is_whole := f_is_whole
    d_is_whole := PySem.W.fnOf "is_whole" "is_whole" (defArgs s_is_whole) (defBody s_is_whole) (defScope s_is_whole) .none kV_is_whole dc_is_whole pm_is_whole an_is_whole cd_is_whole ct_is_whole
    F_is_whole := F_is_whole
    m_is_whole := PySem.W.mg_of X G a1_is_whole
    k_is_whole := k1_is_whole
    b_is_whole := F_is_whole.binds (ps := p_is_whole) fun _ _ _ _ _ _ us hl => by obtain ⟨a, rfl⟩ := MR.lenE1 hl; rfl
    a_is_number := f_is_number
    d_is_number := PySem.W.fnOf "is_number" "is_number" (defArgs s_is_number) (defBody s_is_number) (defScope s_is_number) .none kV_is_number dc_is_number pm_is_number an_is_number cd_is_number ct_is_number
    F_is_number := F_is_number
    m_is_number := PySem.W.mg_of X G a1_is_number
    k_is_number := k1_is_number
    b_is_number := F_is_number.binds (ps := p_is_number) fun _ _ _ _ _ _ us hl => by obtain ⟨a, b, c, rfl⟩ := MR.lenE3 hl; rfl
    a_check_number := f_check_number
    d_check_number := PySem.W.fnOf "check_number" "check_number" (defArgs s_check_number) (defBody s_check_number) (defScope s_check_number) .none kV_check_number dc_check_number pm_check_number an_check_number cd_check_number ct_check_number
    F_check_number := F_check_number
    m_check_number := PySem.W.mg_of X G a1_check_number
    k_check_number := k1_check_number
    b_check_number := F_check_number.binds (ps := p_check_number) fun _ _ _ _ _ _ us hl => by obtain ⟨a, b, c, rfl⟩ := MR.lenE3 hl; rfl
    a_is_made_of := f_is_made_of
    d_is_made_of := PySem.W.fnOf "is_made_of" "is_made_of" (defArgs s_is_made_of) (defBody s_is_made_of) (defScope s_is_made_of) .none kV_is_made_of dc_is_made_of pm_is_made_of an_is_made_of cd_is_made_of ct_is_made_of
    F_is_made_of := F_is_made_of
    m_is_made_of := PySem.W.mg_of X G a1_is_made_of
    k_is_made_of := k1_is_made_of
    b_is_made_of := F_is_made_of.binds (ps := p_is_made_of) fun _ _ _ _ _ _ us hl => by obtain ⟨a, b, rfl⟩ := MR.lenE2 hl; rfl
    a_is_row := f_is_row
    d_is_row := PySem.W.fnOf "is_row" "is_row" (defArgs s_is_row) (defBody s_is_row) (defScope s_is_row) .none kV_is_row dc_is_row pm_is_row an_is_row cd_is_row ct_is_row
    F_is_row := F_is_row
    m_is_row := PySem.W.mg_of X G a1_is_row
    k_is_row := k1_is_row
    b_is_row := F_is_row.binds (ps := p_is_row) fun _ _ _ _ _ _ us hl => by obtain ⟨a, rfl⟩ := MR.lenE1 hl; rfl
    a_choose := f_choose
    d_choose := PySem.W.fnOf "choose" "choose" (defArgs s_choose) (defBody s_choose) (defScope s_choose) .none kV_choose dc_choose pm_choose an_choose cd_choose ct_choose
    F_choose := F_choose
    m_choose := PySem.W.mg_of X G a1_choose
    k_choose := k1_choose
    b_choose := F_choose.binds (ps := p_choose) fun _ _ _ _ _ _ us hl => by obtain ⟨a, b, rfl⟩ := MR.lenE2 hl; rfl
    a_block_count := f_block_count
    d_block_count := PySem.W.fnOf "block_count" "block_count" (defArgs s_block_count) (defBody s_block_count) (defScope s_block_count) .none kV_block_count dc_block_count pm_block_count an_block_count cd_block_count ct_block_count
    F_block_count := F_block_count
    m_block_count := PySem.W.mg_of X G a1_block_count
    k_block_count := k1_block_count
    b_block_count := F_block_count.binds (ps := p_block_count) fun _ _ _ _ _ _ us hl => by obtain ⟨a, rfl⟩ := MR.lenE1 hl; rfl
    a_check_row := f_check_row
    d_check_row := PySem.W.fnOf "check_row" "check_row" (defArgs s_check_row) (defBody s_check_row) (defScope s_check_row) .none kV_check_row dc_check_row pm_check_row an_check_row cd_check_row ct_check_row
    F_check_row := F_check_row
    m_check_row := PySem.W.mg_of X G a1_check_row
    k_check_row := k1_check_row
    b_check_row := F_check_row.binds (ps := p_check_row) fun _ _ _ _ _ _ us hl => by obtain ⟨a, rfl⟩ := MR.lenE1 hl; rfl
    a_least_blocks := f_least_blocks
    d_least_blocks := PySem.W.fnOf "least_blocks" "least_blocks" (defArgs s_least_blocks) (defBody s_least_blocks) (defScope s_least_blocks) .none kV_least_blocks dc_least_blocks pm_least_blocks an_least_blocks cd_least_blocks ct_least_blocks
    F_least_blocks := F_least_blocks
    m_least_blocks := PySem.W.mg_of X G a1_least_blocks
    k_least_blocks := k1_least_blocks
    b_least_blocks := F_least_blocks.binds (ps := p_least_blocks) fun _ _ _ _ _ _ us hl => by obtain ⟨a, rfl⟩ := MR.lenE1 hl; rfl
    a_cut_count := f_cut_count
    d_cut_count := PySem.W.fnOf "cut_count" "cut_count" (defArgs s_cut_count) (defBody s_cut_count) (defScope s_cut_count) .none kV_cut_count dc_cut_count pm_cut_count an_cut_count cd_cut_count ct_cut_count
    F_cut_count := F_cut_count
    m_cut_count := PySem.W.mg_of X G a1_cut_count
    k_cut_count := k1_cut_count
    b_cut_count := F_cut_count.binds (ps := p_cut_count) fun _ _ _ _ _ _ us hl => by obtain ⟨a, b, rfl⟩ := MR.lenE2 hl; rfl
    a_next_choice := f_next_choice
    d_next_choice := PySem.W.fnOf "next_choice" "next_choice" (defArgs s_next_choice) (defBody s_next_choice) (defScope s_next_choice) .none kV_next_choice dc_next_choice pm_next_choice an_next_choice cd_next_choice ct_next_choice
    F_next_choice := F_next_choice
    m_next_choice := PySem.W.mg_of X G a1_next_choice
    k_next_choice := k1_next_choice
    b_next_choice := F_next_choice.binds (ps := p_next_choice) fun _ _ _ _ _ _ us hl => by obtain ⟨a, b, rfl⟩ := MR.lenE2 hl; rfl
    a_cut_at := f_cut_at
    d_cut_at := PySem.W.fnOf "cut_at" "cut_at" (defArgs s_cut_at) (defBody s_cut_at) (defScope s_cut_at) .none kV_cut_at dc_cut_at pm_cut_at an_cut_at cd_cut_at ct_cut_at
    F_cut_at := F_cut_at
    m_cut_at := PySem.W.mg_of X G a1_cut_at
    k_cut_at := k1_cut_at
    b_cut_at := F_cut_at.binds (ps := p_cut_at) fun _ _ _ _ _ _ us hl => by obtain ⟨a, b, rfl⟩ := MR.lenE2 hl; rfl
    a_each_cut := f_each_cut
    d_each_cut := PySem.W.fnOf "each_cut" "each_cut" (defArgs s_each_cut) (defBody s_each_cut) (defScope s_each_cut) .none kV_each_cut dc_each_cut pm_each_cut an_each_cut cd_each_cut ct_each_cut
    F_each_cut := F_each_cut
    m_each_cut := PySem.W.mg_of X G a1_each_cut
    k_each_cut := k1_each_cut
    b_each_cut := F_each_cut.binds (ps := p_each_cut) fun _ _ _ _ _ _ us hl => by obtain ⟨a, b, rfl⟩ := MR.lenE2 hl; rfl
    a__law_cell := f__law_cell
    d__law_cell := PySem.W.fnOf "_law_cell" "_law_cell" (defArgs s__law_cell) (defBody s__law_cell) (defScope s__law_cell) .none kV__law_cell dc__law_cell pm__law_cell an__law_cell cd__law_cell ct__law_cell
    F__law_cell := F__law_cell
    m__law_cell := PySem.W.mg_of X G a1__law_cell
    k__law_cell := k1__law_cell
    b__law_cell := F__law_cell.binds (ps := p__law_cell) fun _ _ _ _ _ _ us hl => by obtain ⟨a, b, rfl⟩ := MR.lenE2 hl; rfl
    a__law_box := f__law_box
    d__law_box := PySem.W.fnOf "_law_box" "_law_box" (defArgs s__law_box) (defBody s__law_box) (defScope s__law_box) .none kV__law_box dc__law_box pm__law_box an__law_box cd__law_box ct__law_box
    F__law_box := F__law_box
    m__law_box := PySem.W.mg_of X G a1__law_box
    k__law_box := k1__law_box
    b__law_box := F__law_box.binds (ps := p__law_box) fun _ _ _ _ _ _ us hl => by obtain ⟨a, b, rfl⟩ := MR.lenE2 hl; rfl
    a__law_take := f__law_take
    d__law_take := PySem.W.fnOf "_law_take" "_law_take" (defArgs s__law_take) (defBody s__law_take) (defScope s__law_take) .none kV__law_take dc__law_take pm__law_take an__law_take cd__law_take ct__law_take
    F__law_take := F__law_take
    m__law_take := PySem.W.mg_of X G a1__law_take
    k__law_take := k1__law_take
    b__law_take := F__law_take.binds (ps := p__law_take) fun _ _ _ _ _ _ us hl => by obtain ⟨a, b, rfl⟩ := MR.lenE2 hl; rfl
    a__law_row := f__law_row
    d__law_row := PySem.W.fnOf "_law_row" "_law_row" (defArgs s__law_row) (defBody s__law_row) (defScope s__law_row) .none kV__law_row dc__law_row pm__law_row an__law_row cd__law_row ct__law_row
    F__law_row := F__law_row
    m__law_row := PySem.W.mg_of X G a1__law_row
    k__law_row := k1__law_row
    b__law_row := F__law_row.binds (ps := p__law_row) fun _ _ _ _ _ _ us hl => by obtain ⟨a, b, c, rfl⟩ := MR.lenE3 hl; rfl
    a__law_ways := f__law_ways
    d__law_ways := PySem.W.fnOf "_law_ways" "_law_ways" (defArgs s__law_ways) (defBody s__law_ways) (defScope s__law_ways) .none kV__law_ways dc__law_ways pm__law_ways an__law_ways cd__law_ways ct__law_ways
    F__law_ways := F__law_ways
    m__law_ways := PySem.W.mg_of X G a1__law_ways
    k__law_ways := k1__law_ways
    b__law_ways := F__law_ways.binds (ps := p__law_ways) fun _ _ _ _ _ _ us hl => by obtain ⟨a, rfl⟩ := MR.lenE1 hl; rfl
    a__law_is_number := f__law_is_number
    d__law_is_number := PySem.W.fnOf "_law_is_number" "_law_is_number" (defArgs s__law_is_number) (defBody s__law_is_number) (defScope s__law_is_number) .none kV__law_is_number dc__law_is_number pm__law_is_number an__law_is_number cd__law_is_number ct__law_is_number
    F__law_is_number := F__law_is_number
    m__law_is_number := PySem.W.mg_of X G a1__law_is_number
    k__law_is_number := k1__law_is_number
    b__law_is_number := F__law_is_number.binds (ps := p__law_is_number) fun _ _ _ _ _ _ us hl => by obtain ⟨a, b, rfl⟩ := MR.lenE2 hl; rfl
    a__law_is_cut := f__law_is_cut
    d__law_is_cut := PySem.W.fnOf "_law_is_cut" "_law_is_cut" (defArgs s__law_is_cut) (defBody s__law_is_cut) (defScope s__law_is_cut) .none kV__law_is_cut dc__law_is_cut pm__law_is_cut an__law_is_cut cd__law_is_cut ct__law_is_cut
    F__law_is_cut := F__law_is_cut
    m__law_is_cut := PySem.W.mg_of X G a1__law_is_cut
    k__law_is_cut := k1__law_is_cut
    b__law_is_cut := F__law_is_cut.binds (ps := p__law_is_cut) fun _ _ _ _ _ _ us hl => by obtain ⟨a, b, c, rfl⟩ := MR.lenE3 hl; rfl
    a__law_is_listing := f__law_is_listing
    d__law_is_listing := PySem.W.fnOf "_law_is_listing" "_law_is_listing" (defArgs s__law_is_listing) (defBody s__law_is_listing) (defScope s__law_is_listing) .none kV__law_is_listing dc__law_is_listing pm__law_is_listing an__law_is_listing cd__law_is_listing ct__law_is_listing
    F__law_is_listing := F__law_is_listing
    m__law_is_listing := PySem.W.mg_of X G a1__law_is_listing
    k__law_is_listing := k1__law_is_listing
    b__law_is_listing := F__law_is_listing.binds (ps := p__law_is_listing) fun _ _ _ _ _ _ us hl => by obtain ⟨a, b, c, d, rfl⟩ := MR.lenE4 hl; rfl
    a__law_counted := f__law_counted
    d__law_counted := PySem.W.fnOf "_law_counted" "_law_counted" (defArgs s__law_counted) (defBody s__law_counted) (defScope s__law_counted) .none kV__law_counted dc__law_counted pm__law_counted an__law_counted cd__law_counted ct__law_counted
    F__law_counted := F__law_counted
    m__law_counted := PySem.W.mg_of X G a1__law_counted
    k__law_counted := k1__law_counted
    b__law_counted := F__law_counted.binds (ps := p__law_counted) fun _ _ _ _ _ _ us hl => by obtain ⟨a, b, c, rfl⟩ := MR.lenE3 hl; rfl
    a__law_listed := f__law_listed
    d__law_listed := PySem.W.fnOf "_law_listed" "_law_listed" (defArgs s__law_listed) (defBody s__law_listed) (defScope s__law_listed) .none kV__law_listed dc__law_listed pm__law_listed an__law_listed cd__law_listed ct__law_listed
    F__law_listed := F__law_listed
    m__law_listed := PySem.W.mg_of X G a1__law_listed
    k__law_listed := k1__law_listed
    b__law_listed := F__law_listed.binds (ps := p__law_listed) fun _ _ _ _ _ _ us hl => by obtain ⟨a, b, c, rfl⟩ := MR.lenE3 hl; rfl
    a__law_wrong_row := f__law_wrong_row
    d__law_wrong_row := PySem.W.fnOf "_law_wrong_row" "_law_wrong_row" (defArgs s__law_wrong_row) (defBody s__law_wrong_row) (defScope s__law_wrong_row) .none kV__law_wrong_row dc__law_wrong_row pm__law_wrong_row an__law_wrong_row cd__law_wrong_row ct__law_wrong_row
    F__law_wrong_row := F__law_wrong_row
    m__law_wrong_row := PySem.W.mg_of X G a1__law_wrong_row
    k__law_wrong_row := k1__law_wrong_row
    b__law_wrong_row := F__law_wrong_row.binds (ps := p__law_wrong_row) fun _ _ _ _ _ _ us hl => by obtain ⟨a, b, rfl⟩ := MR.lenE2 hl; rfl
    a__law_wrong_number := f__law_wrong_number
    d__law_wrong_number := PySem.W.fnOf "_law_wrong_number" "_law_wrong_number" (defArgs s__law_wrong_number) (defBody s__law_wrong_number) (defScope s__law_wrong_number) .none kV__law_wrong_number dc__law_wrong_number pm__law_wrong_number an__law_wrong_number cd__law_wrong_number ct__law_wrong_number
    F__law_wrong_number := F__law_wrong_number
    m__law_wrong_number := PySem.W.mg_of X G a1__law_wrong_number
    k__law_wrong_number := k1__law_wrong_number
    b__law_wrong_number := F__law_wrong_number.binds (ps := p__law_wrong_number) fun _ _ _ _ _ _ us hl => by obtain ⟨a, rfl⟩ := MR.lenE1 hl; rfl
    a__law_ask := f__law_ask
    d__law_ask := PySem.W.fnOf "_law_ask" "_law_ask" (defArgs s__law_ask) (defBody s__law_ask) (defScope s__law_ask) .none kV__law_ask dc__law_ask pm__law_ask an__law_ask cd__law_ask ct__law_ask
    F__law_ask := F__law_ask
    m__law_ask := PySem.W.mg_of X G a1__law_ask
    k__law_ask := k1__law_ask
    b__law_ask := F__law_ask.binds (ps := p__law_ask) fun _ _ _ _ _ _ us hl => by obtain ⟨a, b, c, rfl⟩ := MR.lenE3 hl; rfl
    a__law_refusal := f__law_refusal
    d__law_refusal := PySem.W.fnOf "_law_refusal" "_law_refusal" (defArgs s__law_refusal) (defBody s__law_refusal) (defScope s__law_refusal) .none kV__law_refusal dc__law_refusal pm__law_refusal an__law_refusal cd__law_refusal ct__law_refusal
    F__law_refusal := F__law_refusal
    m__law_refusal := PySem.W.mg_of X G a1__law_refusal
    k__law_refusal := k1__law_refusal
    b__law_refusal := F__law_refusal.binds (ps := p__law_refusal) fun _ _ _ _ _ _ us hl => by obtain ⟨a, b, c, rfl⟩ := MR.lenE3 hl; rfl
    a__law_same := f__law_same
    d__law_same := PySem.W.fnOf "_law_same" "_law_same" (defArgs s__law_same) (defBody s__law_same) (defScope s__law_same) .none kV__law_same dc__law_same pm__law_same an__law_same cd__law_same ct__law_same
    F__law_same := F__law_same
    m__law_same := PySem.W.mg_of X G a1__law_same
    k__law_same := k1__law_same
    b__law_same := F__law_same.binds (ps := p__law_same) fun _ _ _ _ _ _ us hl => by obtain ⟨a, b, rfl⟩ := MR.lenE2 hl; rfl
    a__law_refused := f__law_refused
    d__law_refused := PySem.W.fnOf "_law_refused" "_law_refused" (defArgs s__law_refused) (defBody s__law_refused) (defScope s__law_refused) .none kV__law_refused dc__law_refused pm__law_refused an__law_refused cd__law_refused ct__law_refused
    F__law_refused := F__law_refused
    m__law_refused := PySem.W.mg_of X G a1__law_refused
    k__law_refused := k1__law_refused
    b__law_refused := F__law_refused.binds (ps := p__law_refused) fun _ _ _ _ _ _ us hl => by obtain ⟨a, b, rfl⟩ := MR.lenE2 hl; rfl
    m_isinstance := PySem.W.mg_none_of X G z_isinstance
    m_int := PySem.W.mg_none_of X G z_int
    m_bool := PySem.W.mg_none_of X G z_bool
    m_str := PySem.W.mg_none_of X G z_str
    m_all := PySem.W.mg_none_of X G z_all
    m_len := PySem.W.mg_none_of X G z_len
    m_range := PySem.W.mg_none_of X G z_range
    m_zip := PySem.W.mg_none_of X G z_zip
    m_list := PySem.W.mg_none_of X G z_list
    m_sorted := PySem.W.mg_none_of X G z_sorted
    m_abs := PySem.W.mg_none_of X G z_abs
    m_sum := PySem.W.mg_none_of X G z_sum
    m_ValueError := PySem.W.mg_none_of X G z_ValueError
    m_min := PySem.W.mg_none_of X G z_min
    m_comb := PySem.W.mg_of X G z_comb
    ns_InvalidRow := (by rw [e_InvalidRow]; exact sx_InvalidRow)
    o_InvalidRow := (by rw [e_InvalidRow]; exact ⟨⟨nm_InvalidRow, q_InvalidRow, N_InvalidRow, bs_InvalidRow, _, sn_InvalidRow, sub_InvalidRow, ab_InvalidRow, col_InvalidRow, dd_InvalidRow, m0_InvalidRow, m1_InvalidRow, m2_InvalidRow, m3_InvalidRow, m5_InvalidRow, xL_InvalidRow, by rfl⟩, xs_InvalidRow, xe_InvalidRow, xt_InvalidRow, xk_InvalidRow⟩)
    i_InvalidRow := (by rw [e_InvalidRow]; exact a1_InvalidRow_init)
    t_InvalidRow := t1_InvalidRow_init
    n_InvalidRow_index := (by rw [e_InvalidRow]; exact xf_InvalidRow_index)
    x_InvalidRow := (by rw [e_InvalidRow]; exact ⟨xg_InvalidRow, xn_InvalidRow, xe_InvalidRow, xh_InvalidRow⟩)
    ns_InvalidNumber := (by rw [e_InvalidNumber]; exact sx_InvalidNumber)
    o_InvalidNumber := (by rw [e_InvalidNumber]; exact ⟨⟨nm_InvalidNumber, q_InvalidNumber, N_InvalidNumber, bs_InvalidNumber, _, sn_InvalidNumber, sub_InvalidNumber, ab_InvalidNumber, col_InvalidNumber, dd_InvalidNumber, m0_InvalidNumber, m1_InvalidNumber, m2_InvalidNumber, m3_InvalidNumber, m5_InvalidNumber, xL_InvalidNumber, by rfl⟩, xs_InvalidNumber, xe_InvalidNumber, xt_InvalidNumber, xk_InvalidNumber⟩)
    i_InvalidNumber := (by rw [e_InvalidNumber]; exact a1_InvalidNumber_init)
    t_InvalidNumber := t1_InvalidNumber_init
    n_InvalidNumber_number := (by rw [e_InvalidNumber]; exact xf_InvalidNumber_number)
    x_InvalidNumber := (by rw [e_InvalidNumber]; exact ⟨xg_InvalidNumber, xn_InvalidNumber, xe_InvalidNumber, xh_InvalidNumber⟩)
    em_InvalidNumber_CacheError := (by rw [e_InvalidNumber, e_CacheError]; exact em_InvalidNumber_CacheError)
    em_InvalidRow_CacheError := (by rw [e_InvalidRow, e_CacheError]; exact em_InvalidRow_CacheError)
    xc_InvalidNumber := (by rw [e_InvalidNumber]; exact ⟨xg_InvalidNumber, xn_InvalidNumber, xe_InvalidNumber, xh_InvalidNumber, xa_InvalidNumber, xz1, xz2, xm_InvalidNumber⟩)
    q_InvalidNumber_InvalidRow := (by rw [e_InvalidNumber, e_InvalidRow]; exact q_InvalidNumber_InvalidRow)
    xc_InvalidRow := (by rw [e_InvalidRow]; exact ⟨xg_InvalidRow, xn_InvalidRow, xe_InvalidRow, xh_InvalidRow, xa_InvalidRow, xz1, xz2, xm_InvalidRow⟩)
    q_InvalidRow_InvalidRow := (by rw [e_InvalidRow]; exact q_InvalidRow_InvalidRow)
    q_InvalidNumber_InvalidNumber := (by rw [e_InvalidNumber]; exact q_InvalidNumber_InvalidNumber)
    q_InvalidRow_InvalidNumber := (by rw [e_InvalidRow, e_InvalidNumber]; exact q_InvalidRow_InvalidNumber)
    q_InvalidNumber_InvalidFlags := (by rw [e_InvalidNumber, e_InvalidFlags]; exact q_InvalidNumber_InvalidFlags)
    q_InvalidRow_InvalidFlags := (by rw [e_InvalidRow, e_InvalidFlags]; exact q_InvalidRow_InvalidFlags)
    q_InvalidNumber_InvalidLine := (by rw [e_InvalidNumber, e_InvalidLine]; exact q_InvalidNumber_InvalidLine)
    q_InvalidRow_InvalidLine := (by rw [e_InvalidRow, e_InvalidLine]; exact q_InvalidRow_InvalidLine)
    q_InvalidNumber_InvalidSlot := (by rw [e_InvalidNumber, e_InvalidSlot]; exact q_InvalidNumber_InvalidSlot)
    q_InvalidRow_InvalidSlot := (by rw [e_InvalidRow, e_InvalidSlot]; exact q_InvalidRow_InvalidSlot)
    q_InvalidNumber_InvalidText := (by rw [e_InvalidNumber, e_InvalidText]; exact q_InvalidNumber_InvalidText)
    q_InvalidRow_InvalidText := (by rw [e_InvalidRow, e_InvalidText]; exact q_InvalidRow_InvalidText)
    q_InvalidNumber_Refused := (by rw [e_InvalidNumber, e_Refused]; exact q_InvalidNumber_Refused)
    q_InvalidRow_Refused := (by rw [e_InvalidRow, e_Refused]; exact q_InvalidRow_Refused)
    q_InvalidNumber_TooMany := (by rw [e_InvalidNumber, e_TooMany]; exact q_InvalidNumber_TooMany)
    q_InvalidRow_TooMany := (by rw [e_InvalidRow, e_TooMany]; exact q_InvalidRow_TooMany)
    q_InvalidNumber_ValueError := (by rw [e_InvalidNumber]; exact q_InvalidNumber_ValueError)
    q_InvalidRow_ValueError := (by rw [e_InvalidRow]; exact q_InvalidRow_ValueError) }
  exact ⟨PySem.W.fnOf "law" "law" (defArgs s_law) (defBody s_law) (defScope s_law) .none kV_law dc_law pm_law an_law cd_law ct_law, fun s v => .of_eq rfl, fun base _ _ => ok_law T F_law⟩
end M10
open PySem PySem.W PyProof.Rows
set_option maxHeartbeats 0 in
theorem PySem.Challenge.cw_lastside_k10_cuts_holds : PySem.Challenge.rw_lastside_k10_cuts.Holds := by
  w_on; o_law; k_head; (case hw => w_witness2)
  k_fill
  refine L2.walk_of (l := PySem.Challenge.rw_lastside_k10_cuts) (n := 63) (k := 10) (x := "script") (CX := fun _ => L2.CX0) (sp := fun w => M10.sp_law _) rfl (by decide) rfl ⟨rfl, by decide, by decide⟩ (fun w h Y => PySem.W.kIn_of Y) ?F (fun _ _ a ns hl hb hS => ⟨a, ns, rfl, hS, hl, fun _ => rfl⟩) (fun _ _ _ _ _ h => h)
  case F =>
    intro w mg fa h KX G hmg
    refine' M10.all_mk KX G hmg ?aC_InvalidNumber ?aC_InvalidRow ?aC_CacheError ?aC_InvalidFlags ?aC_InvalidLine ?aC_InvalidSlot ?aC_InvalidText ?aC_Refused ?aC_TooMany ?a1_InvalidRow_init ?t1_InvalidRow_init ?l1_InvalidRow_init ?c1_InvalidRow_init ?k1_InvalidRow_init ?a1_InvalidNumber_init ?t1_InvalidNumber_init ?l1_InvalidNumber_init ?c1_InvalidNumber_init ?k1_InvalidNumber_init ?a1_is_whole ?l1_is_whole ?c1_is_whole ?k1_is_whole ?a1_is_number ?l1_is_number ?c1_is_number ?k1_is_number ?a1_check_number ?l1_check_number ?c1_check_number ?k1_check_number ?a1_is_made_of ?l1_is_made_of ?c1_is_made_of ?k1_is_made_of ?a1_is_row ?l1_is_row ?c1_is_row ?k1_is_row ?a1_choose ?l1_choose ?c1_choose ?k1_choose ?a1_block_count ?l1_block_count ?c1_block_count ?k1_block_count ?a1_check_row ?l1_check_row ?c1_check_row ?k1_check_row ?a1_least_blocks ?l1_least_blocks ?c1_least_blocks ?k1_least_blocks ?a1_cut_count ?l1_cut_count ?c1_cut_count ?k1_cut_count ?a1_next_choice ?l1_next_choice ?c1_next_choice ?k1_next_choice ?a1_cut_at ?l1_cut_at ?c1_cut_at ?k1_cut_at ?a1_each_cut ?l1_each_cut ?c1_each_cut ?k1_each_cut ?a1__law_cell ?l1__law_cell ?c1__law_cell ?k1__law_cell ?a1__law_box ?l1__law_box ?c1__law_box ?k1__law_box ?a1__law_take ?l1__law_take ?c1__law_take ?k1__law_take ?a1__law_row ?l1__law_row ?c1__law_row ?k1__law_row ?a1__law_ways ?l1__law_ways ?c1__law_ways ?k1__law_ways ?a1__law_is_number ?l1__law_is_number ?c1__law_is_number ?k1__law_is_number ?a1__law_is_cut ?l1__law_is_cut ?c1__law_is_cut ?k1__law_is_cut ?a1__law_is_listing ?l1__law_is_listing ?c1__law_is_listing ?k1__law_is_listing ?a1__law_counted ?l1__law_counted ?c1__law_counted ?k1__law_counted ?a1__law_listed ?l1__law_listed ?c1__law_listed ?k1__law_listed ?a1__law_wrong_row ?l1__law_wrong_row ?c1__law_wrong_row ?k1__law_wrong_row ?a1__law_wrong_number ?l1__law_wrong_number ?c1__law_wrong_number ?k1__law_wrong_number ?a1__law_ask ?l1__law_ask ?c1__law_ask ?k1__law_ask ?a1__law_refusal ?l1__law_refusal ?c1__law_refusal ?k1__law_refusal ?a1__law_same ?l1__law_same ?c1__law_same ?k1__law_same ?a1__law_refused ?l1__law_refused ?c1__law_refused ?k1__law_refused ?a1_law ?l1_law ?c1_law ?k1_law ?z_isinstance ?z_int ?z_bool ?z_str ?z_all ?z_len ?z_range ?z_zip ?z_list ?z_sorted ?z_abs ?z_sum ?z_ValueError ?z_min ?z_comb ?xL_InvalidRow ?xs_InvalidRow ?xe_InvalidRow ?sx_InvalidRow ?xt_InvalidRow ?xk_InvalidRow ?xg_InvalidRow ?xn_InvalidRow ?xh_InvalidRow ?xf_InvalidRow_index ?xL_InvalidNumber ?xs_InvalidNumber ?xe_InvalidNumber ?sx_InvalidNumber ?xt_InvalidNumber ?xk_InvalidNumber ?xg_InvalidNumber ?xn_InvalidNumber ?xh_InvalidNumber ?xf_InvalidNumber_number ?em_InvalidNumber_CacheError ?em_InvalidRow_CacheError ?xa_InvalidNumber ?xm_InvalidNumber ?xz1 ?xz2 ?q_InvalidNumber_InvalidRow ?xa_InvalidRow ?xm_InvalidRow ?q_InvalidRow_InvalidRow ?q_InvalidNumber_InvalidNumber ?q_InvalidRow_InvalidNumber ?q_InvalidNumber_InvalidFlags ?q_InvalidRow_InvalidFlags ?q_InvalidNumber_InvalidLine ?q_InvalidRow_InvalidLine ?q_InvalidNumber_InvalidSlot ?q_InvalidRow_InvalidSlot ?q_InvalidNumber_InvalidText ?q_InvalidRow_InvalidText ?q_InvalidNumber_Refused ?q_InvalidRow_Refused ?q_InvalidNumber_TooMany ?q_InvalidRow_TooMany ?q_InvalidNumber_ValueError ?q_InvalidRow_ValueError
    (case aC_InvalidNumber => first | k_is | kit_is | rfl)
    (case aC_InvalidRow => first | k_is | kit_is | rfl)
    (case aC_CacheError => first | k_is | kit_is | rfl)
    (case aC_InvalidFlags => first | k_is | kit_is | rfl)
    (case aC_InvalidLine => first | k_is | kit_is | rfl)
    (case aC_InvalidSlot => first | k_is | kit_is | rfl)
    (case aC_InvalidText => first | k_is | kit_is | rfl)
    (case aC_Refused => first | k_is | kit_is | rfl)
    (case aC_TooMany => first | k_is | kit_is | rfl)
    (case a1_InvalidRow_init => first | k_is | kit_is | rfl)
    (case t1_InvalidRow_init => first | k_is | kit_is | rfl)
    (case l1_InvalidRow_init => first | k_is | kit_is | rfl)
    (case c1_InvalidRow_init => first | k_is | kit_is | rfl)
    (case k1_InvalidRow_init => first | k_is | kit_is | rfl)
    (case a1_InvalidNumber_init => first | k_is | kit_is | rfl)
    (case t1_InvalidNumber_init => first | k_is | kit_is | rfl)
    (case l1_InvalidNumber_init => first | k_is | kit_is | rfl)
    (case c1_InvalidNumber_init => first | k_is | kit_is | rfl)
    (case k1_InvalidNumber_init => first | k_is | kit_is | rfl)
    (case a1_is_whole => first | k_is | kit_is | rfl)
    (case l1_is_whole => first | k_is | kit_is | rfl)
    (case c1_is_whole => first | k_is | kit_is | rfl)
    (case k1_is_whole => first | k_is | kit_is | rfl)
    (case a1_is_number => first | k_is | kit_is | rfl)
    (case l1_is_number => first | k_is | kit_is | rfl)
    (case c1_is_number => first | k_is | kit_is | rfl)
    (case k1_is_number => first | k_is | kit_is | rfl)
    (case a1_check_number => first | k_is | kit_is | rfl)
    (case l1_check_number => first | k_is | kit_is | rfl)
    (case c1_check_number => first | k_is | kit_is | rfl)
    (case k1_check_number => first | k_is | kit_is | rfl)
    (case a1_is_made_of => first | k_is | kit_is | rfl)
    (case l1_is_made_of => first | k_is | kit_is | rfl)
    (case c1_is_made_of => first | k_is | kit_is | rfl)
    (case k1_is_made_of => first | k_is | kit_is | rfl)
    (case a1_is_row => first | k_is | kit_is | rfl)
    (case l1_is_row => first | k_is | kit_is | rfl)
    (case c1_is_row => first | k_is | kit_is | rfl)
    (case k1_is_row => first | k_is | kit_is | rfl)
    (case a1_choose => first | k_is | kit_is | rfl)
    (case l1_choose => first | k_is | kit_is | rfl)
    (case c1_choose => first | k_is | kit_is | rfl)
    (case k1_choose => first | k_is | kit_is | rfl)
    (case a1_block_count => first | k_is | kit_is | rfl)
    (case l1_block_count => first | k_is | kit_is | rfl)
    (case c1_block_count => first | k_is | kit_is | rfl)
    (case k1_block_count => first | k_is | kit_is | rfl)
    (case a1_check_row => first | k_is | kit_is | rfl)
    (case l1_check_row => first | k_is | kit_is | rfl)
    (case c1_check_row => first | k_is | kit_is | rfl)
    (case k1_check_row => first | k_is | kit_is | rfl)
    (case a1_least_blocks => first | k_is | kit_is | rfl)
    (case l1_least_blocks => first | k_is | kit_is | rfl)
    (case c1_least_blocks => first | k_is | kit_is | rfl)
    (case k1_least_blocks => first | k_is | kit_is | rfl)
    (case a1_cut_count => first | k_is | kit_is | rfl)
    (case l1_cut_count => first | k_is | kit_is | rfl)
    (case c1_cut_count => first | k_is | kit_is | rfl)
    (case k1_cut_count => first | k_is | kit_is | rfl)
    (case a1_next_choice => first | k_is | kit_is | rfl)
    (case l1_next_choice => first | k_is | kit_is | rfl)
    (case c1_next_choice => first | k_is | kit_is | rfl)
    (case k1_next_choice => first | k_is | kit_is | rfl)
    (case a1_cut_at => first | k_is | kit_is | rfl)
    (case l1_cut_at => first | k_is | kit_is | rfl)
    (case c1_cut_at => first | k_is | kit_is | rfl)
    (case k1_cut_at => first | k_is | kit_is | rfl)
    (case a1_each_cut => first | k_is | kit_is | rfl)
    (case l1_each_cut => first | k_is | kit_is | rfl)
    (case c1_each_cut => first | k_is | kit_is | rfl)
    (case k1_each_cut => first | k_is | kit_is | rfl)
    (case a1__law_cell => first | k_is | kit_is | rfl)
    (case l1__law_cell => first | k_is | kit_is | rfl)
    (case c1__law_cell => first | k_is | kit_is | rfl)
    (case k1__law_cell => first | k_is | kit_is | rfl)
    (case a1__law_box => first | k_is | kit_is | rfl)
    (case l1__law_box => first | k_is | kit_is | rfl)
    (case c1__law_box => first | k_is | kit_is | rfl)
    (case k1__law_box => first | k_is | kit_is | rfl)
    (case a1__law_take => first | k_is | kit_is | rfl)
    (case l1__law_take => first | k_is | kit_is | rfl)
    (case c1__law_take => first | k_is | kit_is | rfl)
    (case k1__law_take => first | k_is | kit_is | rfl)
    (case a1__law_row => first | k_is | kit_is | rfl)
    (case l1__law_row => first | k_is | kit_is | rfl)
    (case c1__law_row => first | k_is | kit_is | rfl)
    (case k1__law_row => first | k_is | kit_is | rfl)
    (case a1__law_ways => first | k_is | kit_is | rfl)
    (case l1__law_ways => first | k_is | kit_is | rfl)
    (case c1__law_ways => first | k_is | kit_is | rfl)
    (case k1__law_ways => first | k_is | kit_is | rfl)
    (case a1__law_is_number => first | k_is | kit_is | rfl)
    (case l1__law_is_number => first | k_is | kit_is | rfl)
    (case c1__law_is_number => first | k_is | kit_is | rfl)
    (case k1__law_is_number => first | k_is | kit_is | rfl)
    (case a1__law_is_cut => first | k_is | kit_is | rfl)
    (case l1__law_is_cut => first | k_is | kit_is | rfl)
    (case c1__law_is_cut => first | k_is | kit_is | rfl)
    (case k1__law_is_cut => first | k_is | kit_is | rfl)
    (case a1__law_is_listing => first | k_is | kit_is | rfl)
    (case l1__law_is_listing => first | k_is | kit_is | rfl)
    (case c1__law_is_listing => first | k_is | kit_is | rfl)
    (case k1__law_is_listing => first | k_is | kit_is | rfl)
    (case a1__law_counted => first | k_is | kit_is | rfl)
    (case l1__law_counted => first | k_is | kit_is | rfl)
    (case c1__law_counted => first | k_is | kit_is | rfl)
    (case k1__law_counted => first | k_is | kit_is | rfl)
    (case a1__law_listed => first | k_is | kit_is | rfl)
    (case l1__law_listed => first | k_is | kit_is | rfl)
    (case c1__law_listed => first | k_is | kit_is | rfl)
    (case k1__law_listed => first | k_is | kit_is | rfl)
    (case a1__law_wrong_row => first | k_is | kit_is | rfl)
    (case l1__law_wrong_row => first | k_is | kit_is | rfl)
    (case c1__law_wrong_row => first | k_is | kit_is | rfl)
    (case k1__law_wrong_row => first | k_is | kit_is | rfl)
    (case a1__law_wrong_number => first | k_is | kit_is | rfl)
    (case l1__law_wrong_number => first | k_is | kit_is | rfl)
    (case c1__law_wrong_number => first | k_is | kit_is | rfl)
    (case k1__law_wrong_number => first | k_is | kit_is | rfl)
    (case a1__law_ask => first | k_is | kit_is | rfl)
    (case l1__law_ask => first | k_is | kit_is | rfl)
    (case c1__law_ask => first | k_is | kit_is | rfl)
    (case k1__law_ask => first | k_is | kit_is | rfl)
    (case a1__law_refusal => first | k_is | kit_is | rfl)
    (case l1__law_refusal => first | k_is | kit_is | rfl)
    (case c1__law_refusal => first | k_is | kit_is | rfl)
    (case k1__law_refusal => first | k_is | kit_is | rfl)
    (case a1__law_same => first | k_is | kit_is | rfl)
    (case l1__law_same => first | k_is | kit_is | rfl)
    (case c1__law_same => first | k_is | kit_is | rfl)
    (case k1__law_same => first | k_is | kit_is | rfl)
    (case a1__law_refused => first | k_is | kit_is | rfl)
    (case l1__law_refused => first | k_is | kit_is | rfl)
    (case c1__law_refused => first | k_is | kit_is | rfl)
    (case k1__law_refused => first | k_is | kit_is | rfl)
    (case a1_law => first | k_is | kit_is | rfl)
    (case l1_law => first | k_is | kit_is | rfl)
    (case c1_law => first | k_is | kit_is | rfl)
    (case k1_law => first | k_is | kit_is | rfl)
    (case z_isinstance => first | k_is | kit_is | rfl)
    (case z_int => first | k_is | kit_is | rfl)
    (case z_bool => first | k_is | kit_is | rfl)
    (case z_str => first | k_is | kit_is | rfl)
    (case z_all => first | k_is | kit_is | rfl)
    (case z_len => first | k_is | kit_is | rfl)
    (case z_range => first | k_is | kit_is | rfl)
    (case z_zip => first | k_is | kit_is | rfl)
    (case z_list => first | k_is | kit_is | rfl)
    (case z_sorted => first | k_is | kit_is | rfl)
    (case z_abs => first | k_is | kit_is | rfl)
    (case z_sum => first | k_is | kit_is | rfl)
    (case z_ValueError => first | k_is | kit_is | rfl)
    (case z_min => first | k_is | kit_is | rfl)
    (case z_comb => first | k_is | kit_is | rfl)
    (case xL_InvalidRow => first | k_is | kit_is | rfl)
    (case xs_InvalidRow => first | k_is | kit_is | rfl)
    (case xe_InvalidRow => first | k_is | kit_is | rfl)
    (case sx_InvalidRow => first | k_is | kit_is | rfl)
    (case xt_InvalidRow => first | k_is | kit_is | rfl)
    (case xk_InvalidRow => first | k_is | kit_is | rfl)
    (case xg_InvalidRow => first | k_is | kit_is | rfl)
    (case xn_InvalidRow => first | k_is | kit_is | rfl)
    (case xh_InvalidRow => first | k_is | kit_is | rfl)
    (case xf_InvalidRow_index => first | k_is | kit_is | rfl)
    (case xL_InvalidNumber => first | k_is | kit_is | rfl)
    (case xs_InvalidNumber => first | k_is | kit_is | rfl)
    (case xe_InvalidNumber => first | k_is | kit_is | rfl)
    (case sx_InvalidNumber => first | k_is | kit_is | rfl)
    (case xt_InvalidNumber => first | k_is | kit_is | rfl)
    (case xk_InvalidNumber => first | k_is | kit_is | rfl)
    (case xg_InvalidNumber => first | k_is | kit_is | rfl)
    (case xn_InvalidNumber => first | k_is | kit_is | rfl)
    (case xh_InvalidNumber => first | k_is | kit_is | rfl)
    (case xf_InvalidNumber_number => first | k_is | kit_is | rfl)
    (case em_InvalidNumber_CacheError => first | k_is | kit_is | rfl)
    (case em_InvalidRow_CacheError => first | k_is | kit_is | rfl)
    (case xa_InvalidNumber => first | k_is | kit_is | rfl)
    (case xm_InvalidNumber => first | k_is | kit_is | rfl)
    (case xz1 => first | k_is | kit_is | rfl)
    (case xz2 => first | k_is | kit_is | rfl)
    (case q_InvalidNumber_InvalidRow => first | k_is | kit_is | rfl)
    (case xa_InvalidRow => first | k_is | kit_is | rfl)
    (case xm_InvalidRow => first | k_is | kit_is | rfl)
    (case q_InvalidRow_InvalidRow => first | k_is | kit_is | rfl)
    (case q_InvalidNumber_InvalidNumber => first | k_is | kit_is | rfl)
    (case q_InvalidRow_InvalidNumber => first | k_is | kit_is | rfl)
    (case q_InvalidNumber_InvalidFlags => first | k_is | kit_is | rfl)
    (case q_InvalidRow_InvalidFlags => first | k_is | kit_is | rfl)
    (case q_InvalidNumber_InvalidLine => first | k_is | kit_is | rfl)
    (case q_InvalidRow_InvalidLine => first | k_is | kit_is | rfl)
    (case q_InvalidNumber_InvalidSlot => first | k_is | kit_is | rfl)
    (case q_InvalidRow_InvalidSlot => first | k_is | kit_is | rfl)
    (case q_InvalidNumber_InvalidText => first | k_is | kit_is | rfl)
    (case q_InvalidRow_InvalidText => first | k_is | kit_is | rfl)
    (case q_InvalidNumber_Refused => first | k_is | kit_is | rfl)
    (case q_InvalidRow_Refused => first | k_is | kit_is | rfl)
    (case q_InvalidNumber_TooMany => first | k_is | kit_is | rfl)
    (case q_InvalidRow_TooMany => first | k_is | kit_is | rfl)
    (case q_InvalidNumber_ValueError => first | k_is | kit_is | rfl)
    (case q_InvalidRow_ValueError => first | k_is | kit_is | rfl)

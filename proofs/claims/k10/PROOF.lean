import PyProof.Rows.All
import Wide.All
import OpenK.AllK
import Wide.FinOn
import KE.KDictKeyed
import HandS.ForMost
import HandS.Evl
import HandS.ForExc
import HandS.Deep
import HandS.Flow
import HandS.Exc
import HandS.ExcCtx
import HandS.RevRange
import HandS.Rev
import HandS.Zip
import HandS.Comp
import HandS.Words
import HandS.Text
import HandS.IsInst
import HandS.Wide
import HandS.SortInts
import HandS.Iter
import HandS.Style
import HandS.TupAny
import HandS.TupSets
import KE.KeyNested
import KE.SortData
import HandS.Keys
import HandS.SetBool
import HandS.FStr
import HandS.ExcInit
import KE.KExcSuper
import KE.KSuper
import HandS.Codes
import HandS.ExcOwn
import HandS.ExcIs
import HandS.HotCalls
import HandS.Star
import HandS.SetFor
import HandS.Strs
import HandS.DictComp
import HandS.OwnEq
import KE.GoesEnum
import KE.RegKSuper
import KE.RegKTryMore
import KE.RegKIsAll
import PySem.Challenge.RW_someobjects_k10_who_objects
section
set_option Elab.async false
set_option linter.all false
set_option maxRecDepth 100000
set_option maxHeartbeats 4000000
/-! dicts whose keys are tuples, as tracked things -/
namespace NS
open PySem PySem.Spec PyProof.Rows L2
abbrev DLs := List (NestedKey × Addr × Value)
/-- the dict at a, but for the key tuples themselves; its hashes are no World's own -/
def DictS (a : Addr) (xs : DLs) (h : Heap) : Prop := (a == sysModules) = false ∧ ∃ (o : Obj) (es : Array DictEntry) (ep : Nat), h.get? a = some o ∧ o.ExactDict ∧ o.data = .dict es ep ∧ (∀ w : World, es.toList = xs.map fun x => ⟨x.1.hash w, .ref x.2.1, x.2.2⟩) ∧ (xs.map (·.1)).Nodup
def DicO (a : Addr) (xs : DLs) : HO := .ext (DictS a xs)
theorem dico_new {P : Program} {w : World} {H : Hp} {h : Heap} {a : Addr} {xs : DLs} (x : DictS a xs h) : ObjOk P w H h a (DicO a xs) := by
  obtain ⟨_, o, es, ep, ho, r⟩ := id x
  refine ⟨x, ⟨o, ho⟩, fun h1 h2 y k => ?_⟩
  obtain ⟨z, o', es', ep', ho', r'⟩ := y
  exact ⟨z, o', es', ep', k o' ho', r'⟩
theorem DictS.whole {P : Program} {w : World} {h : Heap} {a : Addr} {xs : DLs} (x : DictS a xs h) (e : ∀ p ∈ xs, (nestedKind P w).is h p.1 p.2.1) : h.DictOfH (nestedKind P w) a xs := by
  obtain ⟨_, o, es, ep, h1, h2, h3, h4, h5⟩ := x
  exact ⟨o, es, ep, h1, h2, h3, h4 w, e, h5⟩
theorem dict_none {h : Heap} {a : Addr} (z : (a == sysModules) = false) (e : h.get? a = some { cls := .type "dict", data := .dict #[] }) : DictS a [] h := ⟨z, _, #[], 0, e, ⟨rfl, rfl, rfl⟩, rfl, fun _ => rfl, .nil⟩
end NS
end

section
set_option Elab.async false
set_option linter.all false
set_option maxRecDepth 100000
set_option maxHeartbeats 4000000
namespace DL
open PySem L2
open Evl (Ex)

/-- data, without the heap -/
inductive D where
  | non | bl (b : Bool) | int (i : Int) | str (x : Str) | tup (l : List D) | lst (l : List D) | ins (C : Addr) (ns : List Str) (l : List D) | any | err (e0 dd C : Addr) (a : Str) (v : D) | scr (ns : List Int) | dct (ks : List D) (vs : List D)
mutual
/-- data as a key -/
def kD : D → PySem.NestedKey
  | .int i => .num i
  | .tup l => .tup (kDs l)
  | _ => .none
def kDs : List D → List PySem.NestedKey
  | [] => []
  | d :: ds => kD d :: kDs ds
end
mutual
def keyK : D → Bool
  | .int _ => true
  | .non => true
  | .tup l => keyKs l
  | _ => false
def keyKs : List D → Bool
  | [] => true
  | d :: ds => keyK d && keyKs ds
end
/-- a tuple that may be a key -/
def keyOk (d : D) : Prop := (∃ l, d = .tup l) ∧ keyK d = true ∧ (kD d).depth ≤ 8

mutual
inductive Rep (K : PySem.W.Frag) (S : Hp) : V → D → Prop
  | non : Rep K S .non .non
  | any (v : V) : Rep K S v .any
  | bl (b : Bool) : Rep K S (.bl b) (.bl b)
  | int (i : Int) : Rep K S (.int i) (.int i)
  | str (x : Str) : Rep K S (.str x) (.str x)
  | lst {a : Addr} {xs : List V} {ds : List D} : S a = some (.lst xs) → Reps K S xs ds → Rep K S (.ref a) (.lst ds)
  | tup {a : Addr} {xs : List V} {ds : List D} : SqT K S a xs → Reps K S xs ds → Rep K S (.ref a) (.tup ds)
  | ins {a C dx : Addr} {fs : List (Str × V)} {ns : List Str} {xs : List V} {ds : List D} : S a = some (.ins C dx fs) → fs.map (·.1) = ns → fs.map (·.2) = xs → Reps K S xs ds → Rep K S (.ref a) (.ins C ns ds)
  | err {e0 dd C : Addr} {a : Str} {u : V} {v : D} : S dd = some (.xd [(a, u)]) → Rep K S u v → Rep K S (.ref e0) (.err e0 dd C a v)
  | scr {a : Addr} {ns : List Int} : SqL K S a (ns.map V.int) → Rep K S (.ref a) (.scr ns)
  | dct {a : Addr} {xs : NS.DLs} {ws ks : List V} {dk dv : List D} : S a = some (NS.DicO a xs) → ks = xs.map (fun x => V.ref x.2.1) → Reps K S ks dk → xs.map (·.1) = kDs dk → (∀ d ∈ dk, keyOk d) → Vals ws (xs.map (·.2.2)) → Reps K S ws dv → Rep K S (.ref a) (.dct dk dv)
inductive Reps (K : PySem.W.Frag) (S : Hp) : List V → List D → Prop
  | nil : Reps K S [] []
  | cons {v : V} {vs : List V} {d : D} {ds : List D} : Rep K S v d → Reps K S vs ds → Reps K S (v :: vs) (d :: ds)
end

section
variable {K : PySem.W.Frag} {S S' H H' : Hp}
mutual
theorem Rep.mono (e : Ex S S') : ∀ {v : V} {d : D}, Rep K S v d → Rep K S' v d
  | _, _, .non => .non
  | _, _, .any v => .any v
  | _, _, .bl b => .bl b
  | _, _, .int i => .int i
  | _, _, .str x => .str x
  | _, _, .lst h r => .lst (e _ _ h) (Reps.mono e r)
  | _, _, .tup h r => .tup (Evl.ex_t e h) (Reps.mono e r)
  | _, _, .ins h h1 h2 r => .ins (e _ _ h) h1 h2 (Reps.mono e r)
  | _, _, .err h r => .err (e _ _ h) (Rep.mono e r)
  | _, _, .scr h => .scr (Evl.ex_l e h)
  | _, _, .dct h h1 r h2 h0 h3 q => .dct (e _ _ h) h1 (Reps.mono e r) h2 h0 h3 (Reps.mono e q)
theorem Reps.mono (e : Ex S S') : ∀ {v : List V} {d : List D}, Reps K S v d → Reps K S' v d
  | _, _, .nil => .nil
  | _, _, .cons h r => .cons (Rep.mono e h) (Reps.mono e r)
end
theorem Reps.length : ∀ {vs : List V} {ds : List D}, Reps K S vs ds → vs.length = ds.length
  | _, _, .nil => rfl
  | _, _, .cons _ r => by rw [List.length_cons, List.length_cons, Reps.length r]
theorem Reps.get : ∀ {vs : List V} {ds : List D} {i : Nat} {d : D}, Reps K S vs ds → ds[i]? = some d → ∃ v, vs[i]? = some v ∧ Rep K S v d
  | _, _, _, _, .nil, e => by simp at e
  | _, _, 0, _, .cons h _, e => by
    simp at e
    subst e
    exact ⟨_, rfl, h⟩
  | _, _, i + 1, _, .cons _ r, e => by
    simp at e
    obtain ⟨v, h1, h2⟩ := Reps.get r e
    exact ⟨v, by simpa using h1, h2⟩
theorem Reps.getV : ∀ {vs : List V} {ds : List D} {i : Nat} {v : V}, Reps K S vs ds → vs[i]? = some v → ∃ d, ds[i]? = some d ∧ Rep K S v d
  | _, _, _, _, .nil, e => by simp at e
  | _, _, 0, _, .cons h _, e => by
    simp at e
    subst e
    exact ⟨_, rfl, h⟩
  | _, _, i + 1, _, .cons _ r, e => by
    simp at e
    obtain ⟨v, h1, h2⟩ := Reps.getV r e
    exact ⟨v, by simpa using h1, h2⟩
theorem Reps.append : ∀ {vs ws : List V} {ds es : List D}, Reps K S vs ds → Reps K S ws es → Reps K S (vs ++ ws) (ds ++ es)
  | _, _, _, _, .nil, q => q
  | _, _, _, _, .cons h r, q => .cons h (Reps.append r q)
theorem Reps.drop : ∀ (n : Nat) {vs : List V} {ds : List D}, Reps K S vs ds → Reps K S (vs.drop n) (ds.drop n)
  | 0, _, _, h => h
  | _ + 1, _, _, .nil => .nil
  | n + 1, _, _, .cons _ r => Reps.drop n r
theorem Reps.take : ∀ (n : Nat) {vs : List V} {ds : List D}, Reps K S vs ds → Reps K S (vs.take n) (ds.take n)
  | 0, _, _, _ => .nil
  | _ + 1, _, _, .nil => .nil
  | n + 1, _, _, .cons h r => .cons h (Reps.take n r)
theorem Reps.set : ∀ (n : Nat) {vs : List V} {ds : List D} {v : V} {d : D}, Reps K S vs ds → Rep K S v d → Reps K S (vs.set n v) (ds.set n d)
  | _, _, _, _, _, .nil, _ => .nil
  | 0, _, _, _, _, .cons _ r, q => .cons q r
  | n + 1, _, _, _, _, .cons h r, q => .cons h (Reps.set n r q)
theorem Reps.reverse : ∀ {vs : List V} {ds : List D}, Reps K S vs ds → Reps K S vs.reverse ds.reverse
  | _, _, .nil => .nil
  | _, _, .cons h r => by
    rw [List.reverse_cons, List.reverse_cons]
    exact Reps.append (Reps.reverse r) (.cons h .nil)
theorem Reps.ints : ∀ (l : List Int), Reps K S (l.map V.int) (l.map D.int)
  | [] => .nil
  | i :: l => .cons (.int i) (Reps.ints l)
theorem Reps.strs : ∀ (l : List Str), Reps K S (l.map V.str) (l.map D.str)
  | [] => .nil
  | i :: l => .cons (.str i) (Reps.strs l)
theorem Reps.ints_inv : ∀ {vs : List V} (l : List Int), Reps K S vs (l.map D.int) → vs = l.map V.int
  | _, [], h => by cases h; rfl
  | _, i :: l, h => by
    cases h with
    | cons h r =>
      cases h
      rw [Reps.ints_inv l r] <;> rfl
theorem Reps.strs_inv : ∀ {vs : List V} (l : List Str), Reps K S vs (l.map D.str) → vs = l.map V.str
  | _, [], h => by cases h; rfl
  | _, i :: l, h => by
    cases h with
    | cons h r =>
      cases h
      rw [Reps.strs_inv l r] <;> rfl
theorem Reps.bls_inv : ∀ {vs : List V} (l : List Bool), Reps K S vs (l.map D.bl) → vs = l.map V.bl
  | _, [], h => by cases h; rfl
  | _, i :: l, h => by
    cases h with
    | cons h r =>
      cases h
      rw [Reps.bls_inv l r] <;> rfl
end

/-- a thing that a name alone may change: a list, an instance with its fields -/
inductive FxL where
  | lst (l : List D) | ins (C dx : Addr) (ns : List Str) (l : List D)
def FxAt (K : PySem.W.Frag) (S : Hp) : FxL → HO → Prop
  | .lst l, o => ∃ vs, o = .lst vs ∧ Reps K S vs l
  | .ins C dx ns l, o => ∃ fs : List (Str × V), o = .ins C dx fs ∧ fs.map (·.1) = ns ∧ Reps K S (fs.map (·.2)) l
theorem FxAt.mono {K : PySem.W.Frag} {S S' : Hp} (e : Ex S S') {l : FxL} {o : HO} (h : FxAt K S l o) : FxAt K S' l o := by
  cases l with
  | lst l =>
    obtain ⟨vs, h1, h2⟩ := h
    exact ⟨vs, h1, h2.mono e⟩
  | ins C dx ns l =>
    obtain ⟨fs, h1, h2, h3⟩ := h
    exact ⟨fs, h1, h2, h3.mono e⟩
/-- what an expression has given: a value; a new list of its own; the own list of the i-th name, looked at; the pool -/
inductive R where
  | val (d : D) | own (l : List D) | brw (i : Nat) (l : List D) | pool
/-- what a name holds -/
inductive Nv where
  | val (d : D) | own (l : List D) | pool | fix (p : Addr) (l : FxL)
abbrev En := List (Option Nv)
abbrev Has (env : En) (i : Nat) (n : Nv) : Prop := env[i]? = some (some n)
abbrev Slt (σ : St) (i : Nat) (v : V) : Prop := σ[i]? = some (some v)
theorem Has.inj {env : En} {i : Nat} {a b : Nv} (h : Has env i a) (k : Has env i b) : a = b := Option.some.inj (Option.some.inj (h.symm.trans k))
theorem Slt.inj {σ : St} {i : Nat} {a b : V} (h : Slt σ i a) (k : Slt σ i b) : a = b := Option.some.inj (Option.some.inj (h.symm.trans k))
theorem Slt.ref {σ : St} {i : Nat} {a b : Addr} (h : Slt σ i (.ref a)) (k : Slt σ i (.ref b)) : a = b := by
  have := h.inj k
  cases this
  rfl

def R.data : R → D
  | .val d => d
  | .own l => .lst l
  | .brw _ l => .lst l
  | .pool => .any

/-- the pool of a law: its list at a, the script's ints -/
def PoolAt (S H : Hp) (a : Addr) : Prop :=
  S a = none ∧ ∃ (l : Addr) (cells : List Int) (pos big seed cnt bud : Int), H a = some (.lst [.ref l, .int pos, .int big, .int seed, .int cnt, .int bud]) ∧ S l = some (.lst (cells.map V.int)) ∧ 0 ≤ pos

/-- the first item of a list -/
def headO : Option HO → Option V
  | some (.lst (x :: _)) => some x
  | _ => none
/-- what a def's run stands on: the heaps at its entry, the pool's place -/
structure Bs where
  S0 : Hp
  H0 : Hp
  pa : Option Addr

structure SR (K : PySem.W.Frag) (B : Bs) (S H : Hp) (env : En) (σ : St) : Prop where
  ex0 : Ex B.S0 S
  nw0 : ∀ a o, B.H0 a = some o → B.S0 a = none → S a = none
  keep0 : ∀ a o, B.H0 a = some o → B.pa ≠ some a → H a = some o
  old0 : ∀ a, H a = none → B.H0 a = none
  len : env.length = σ.length
  ex : Ex S H
  val : ∀ i d, Has env i (.val d) → ∃ v, Slt σ i v ∧ Rep K S v d
  own : ∀ i l, Has env i (.own l) → ∃ p vs, Slt σ i (.ref p) ∧ S p = none ∧ B.H0 p = none ∧ H p = some (.lst vs) ∧ Reps K S vs l
  dis : ∀ i j l m p, Has env i (.own l) → Has env j (.own m) → Slt σ i (.ref p) → Slt σ j (.ref p) → i = j
  pl : ∀ i, Has env i .pool → ∃ a, B.pa = some a ∧ Slt σ i (.ref a)
  pool : ∀ a, B.pa = some a → PoolAt S H a ∧ ∃ o, B.H0 a = some o
  fix : ∀ i p l, Has env i (.fix p l) → Slt σ i (.ref p) ∧ S p = none ∧ B.H0 p = none ∧ ∃ o, H p = some o ∧ FxAt K S l o
  dfx : ∀ i j p l m, Has env i (.fix p l) → Has env j (.own m) → ¬ Slt σ j (.ref p)
  dff : ∀ i j p l m, Has env i (.fix p l) → Has env j (.fix p m) → i = j
  pin : ∀ a, B.pa = some a → headO (H a) = headO (B.H0 a)

/-- the places that belong to the names, or are the pool's -/
def Ow (B : Bs) (env : En) (σ : St) (a : Addr) : Prop := B.pa = some a ∨ (∃ i l, Has env i (.own l) ∧ Slt σ i (.ref a)) ∨ ∃ i l, Has env i (.fix a l)

/-- a name's list may have come to stand still -/
def Frz (env env' : En) : Prop := env'.length = env.length ∧ ∀ i : Nat, env'[i]? = env[i]? ∨ ∃ l, Has env i (.own l) ∧ Has env' i (.val (.lst l))
theorem Frz.refl (env : En) : Frz env env := ⟨rfl, fun _ => .inl rfl⟩
theorem Frz.trans {a b c : En} (h : Frz a b) (k : Frz b c) : Frz a c := ⟨k.1.trans h.1, fun i => by
  rcases h.2 i with e | ⟨l, e1, e2⟩
  · rcases k.2 i with q | ⟨l, q1, q2⟩
    · exact .inl (q.trans e)
    · exact .inr ⟨l, e.symm.trans q1, q2⟩
  · rcases k.2 i with q | ⟨m, q1, q2⟩
    · exact .inr ⟨l, e1, q.trans e2⟩
    · exact nomatch Has.inj e2 q1⟩

/-- new things alone have come; what belongs to the names (A) may have changed -/
structure Go (A : Addr → Prop) (S H S' H' : Hp) : Prop where
  ex : Ex S S'
  keep : ∀ a o, H a = some o → ¬ A a → H' a = some o
  nw : ∀ a o, H a = some o → ¬ A a → S a = none → S' a = none
  old : ∀ a, H' a = none → H a = none

def Res (K : PySem.W.Frag) (B : Bs) (A : Addr → Prop) (H S' H' : Hp) (env' : En) (σ : St) : R → V → Prop
  | .val d, v => Rep K S' v d
  | .own l, v => ∃ p vs, v = .ref p ∧ S' p = none ∧ B.H0 p = none ∧ H p = none ∧ ¬ Ow B env' σ p ∧ H' p = some (.lst vs) ∧ Reps K S' vs l
  | .brw i l, v => ∃ p, v = .ref p ∧ Slt σ i (.ref p) ∧ (Has env' i (.own l))
  | .pool, v => ∃ a, B.pa = some a ∧ v = .ref a

/-- behind an expression -/
structure EPo (K : PySem.W.Frag) (B : Bs) (S H : Hp) (env : En) (σ : St) (S' H' : Hp) (env' : En) (r : R) (v : V) : Prop where
  sr : SR K B S' H' env' σ
  go : Go (Ow B env σ) S H S' H'
  fz : Frz env env'
  res : Res K B (Ow B env σ) H S' H' env' σ r v

abbrev DM := En → (En → R → Prop) → Prop
def DE (X : Cx) (e : Expr) (m : DM) (t : TE) : Prop := PE X e t ∧ ∀ (B : Bs) (S H : Hp) (env : En) (σ : St) (Q : En → R → Prop) (Qv : VK), SR X.K B S H env σ → m env Q →
  (∀ v H' S' env' r, EPo X.K B S H env σ S' H' env' r v → Q env' r → Qv v H') → t σ H Qv
/-- a test -/
abbrev DTM := En → (En → Bool → Prop) → Prop
structure TPo (K : PySem.W.Frag) (B : Bs) (S H : Hp) (env : En) (σ : St) (S' H' : Hp) (env' : En) : Prop where
  sr : SR K B S' H' env' σ
  go : Go (Ow B env σ) S H S' H'
  fz : Frz env env'
def DT (X : Cx) (e : Expr) (m : DTM) (t : TT) : Prop := PT X e t ∧ ∀ (B : Bs) (S H : Hp) (env : En) (σ : St) (Q : En → Bool → Prop) (Qv : Bool → Hp → Prop), SR X.K B S H env σ → m env Q →
  (∀ b H' S' env', TPo X.K B S H env σ S' H' env' → Q env' b → Qv b H') → t σ H Qv

/-! ### lemmas on the state -/
section
variable {K : PySem.W.Frag} {B : Bs} {S H S' H' S'' H'' : Hp} {env env' env'' : En} {σ : St} {A A' : Addr → Prop}
theorem Go.refl : Go A S H S H := ⟨Ex.refl _, fun _ _ h _ => h, fun _ _ _ _ h => h, fun _ h => h⟩
theorem Go.trans (a : Go A S H S' H') (b : Go A' S' H' S'' H'') (hs : ∀ x o, H x = some o → ¬ A x → ¬ A' x) : Go A S H S'' H'' :=
  ⟨a.ex.trans b.ex, fun x o h n => b.keep x o (a.keep x o h n) (hs x o h n), fun x o h n e => b.nw x o (a.keep x o h n) (hs x o h n) (a.nw x o h n e), fun x h => a.old x (b.old x h)⟩
theorem Go.mono (a : Go A S H S' H') (hs : ∀ x, A x → A' x) : Go A' S H S' H' := ⟨a.ex, fun x o h n => a.keep x o h (fun z => n (hs x z)), fun x o h n => a.nw x o h (fun z => n (hs x z)), a.old⟩
theorem Ow.frz {x : Addr} (f : Frz env env') (h : Ow B env' σ x) : Ow B env σ x := by
  rcases h with h | ⟨i, l, h1, h2⟩ | ⟨i, l, h1⟩
  · exact .inl h
  · rcases f.2 i with e | ⟨m, e1, e2⟩
    · exact .inr (.inl ⟨i, l, e.symm.trans h1, h2⟩)
    · exact nomatch Has.inj e2 h1
  · rcases f.2 i with e | ⟨m, e1, e2⟩
    · exact .inr (.inr ⟨i, l, e.symm.trans h1⟩)
    · exact nomatch Has.inj e2 h1
/-- new things alone -/
structure Nw (S H S' H' : Hp) : Prop where
  ex : Ex S S'
  keep : Ex H H'
  nw : ∀ a o, H a = some o → S a = none → S' a = none
  sh : Ex S' H'
theorem Nw.refl (h : Ex S H) : Nw S H S H := ⟨Ex.refl _, Ex.refl _, fun _ _ _ h => h, h⟩
theorem Nw.trans (a : Nw S H S' H') (b : Nw S' H' S'' H'') : Nw S H S'' H'' := ⟨a.ex.trans b.ex, a.keep.trans b.keep, fun x o h e => b.nw x o (a.keep x o h) (a.nw x o h e), b.sh⟩
theorem Nw.old (a : Nw S H S' H') : ∀ x, H' x = none → H x = none := fun x h => Evl.fresh_back a.keep h
theorem Nw.go (a : Nw S H S' H') : Go A S H S' H' := ⟨a.ex, fun x o h _ => a.keep x o h, fun x o h _ e => a.nw x o h e, a.old⟩
/-- a new object, known from now on | not known -/
theorem Nw.add (e : Ex S H) {p : Addr} {o : HO} (h : H p = none) : Nw S H (upd S p o) (upd H p o) := by
  have s : S p = none := Evl.fresh_back e h
  refine ⟨Ex.new s, Ex.new h, fun a u q z => ?_, fun a u q => ?_⟩
  · rw [upd_ne (ne_of_none q h)]
    exact z
  · by_cases c : a = p
    · subst c
      rw [upd_same] at q ⊢
      exact q
    · rw [upd_ne c] at q ⊢
      exact e a u q
theorem Nw.hid (e : Ex S H) {p : Addr} {o : HO} (h : H p = none) : Nw S H S (upd H p o) := ⟨Ex.refl _, Ex.new h, fun _ _ _ z => z, e.trans (Ex.new h)⟩
theorem PoolAt.nw {a : Addr} (h : PoolAt S H a) (n : Nw S H S' H') : PoolAt S' H' a := by
  obtain ⟨s, l, cells, pos, big, seed, cnt, bud, h1, h2, r⟩ := h
  exact ⟨n.nw _ _ h1 s, l, cells, pos, big, seed, cnt, bud, n.keep _ _ h1, n.ex _ _ h2, r⟩
theorem SR.nw (r : SR K B S H env σ) (n : Nw S H S' H') : SR K B S' H' env σ where
  ex0 := r.ex0.trans n.ex
  nw0 := fun a o h e => by
    by_cases c : B.pa = some a
    · exact (r.pool a c).1.nw n |>.1
    · exact n.nw a o (r.keep0 a o h c) (r.nw0 a o h e)
  keep0 := fun a o h c => n.keep a o (r.keep0 a o h c)
  old0 := fun a h => r.old0 a (n.old a h)
  len := r.len
  ex := n.sh
  val := fun i d h => let ⟨v, h1, h2⟩ := r.val i d h; ⟨v, h1, h2.mono n.ex⟩
  own := fun i l h => let ⟨p, vs, h1, h2, h3, h4, h5⟩ := r.own i l h; ⟨p, vs, h1, n.nw _ _ h4 h2, h3, n.keep _ _ h4, h5.mono n.ex⟩
  dis := r.dis
  fix := fun i p l h => let ⟨k1, k2, k3, vs, k4, k5⟩ := r.fix i p l h; ⟨k1, n.nw _ _ k4 k2, k3, vs, n.keep _ _ k4, k5.mono n.ex⟩
  dfx := r.dfx
  dff := r.dff
  pin := fun a e => by
    obtain ⟨⟨_, l, cells, y1, y2, y3, y4, y5, y6, _⟩, _⟩ := r.pool a e
    rw [n.keep _ _ y6, ← r.pin a e, y6]
  pl := r.pl
  pool := fun a h => let ⟨q, o⟩ := r.pool a h; ⟨q.nw n, o⟩
theorem SR.hp0 (r : SR K B S H env σ) {p : Addr} (h : H p = none) : B.H0 p = none := r.old0 p h
theorem SR.sp0 (r : SR K B S H env σ) {p : Addr} (h : H p = none) : S p = none := Evl.fresh_back r.ex h
theorem SR.now (r : SR K B S H env σ) {p : Addr} (h : H p = none) : ¬ Ow B env σ p := by
  rintro (e | ⟨i, l, e, e2⟩ | ⟨i, l, e⟩)
  · obtain ⟨⟨_, l, cells, pos, big, seed, cnt, bud, h1, _⟩, _⟩ := r.pool p e
    rw [h] at h1
    cases h1
  · obtain ⟨q, vs, h1, _, _, h4, _⟩ := r.own i l e
    cases Slt.ref e2 h1
    rw [h] at h4
    cases h4
  · obtain ⟨_, _, _, vs, h4, _⟩ := r.fix i p l e
    rw [h] at h4
    cases h4
/-- what a rule by values has given: new things alone -/
def NwR (K : PySem.W.Frag) (S H S' H' : Hp) : R → V → Prop
  | .val d, v => Nw S H S' H' ∧ Rep K S' v d
  | .own l, v => Nw S H S' H' ∧ ∃ p vs, v = .ref p ∧ H p = none ∧ S' p = none ∧ H' p = some (.lst vs) ∧ Reps K S' vs l
  | _, _ => False
theorem NwR.nw {r : R} {v : V} (h : NwR K S H S' H' r v) : Nw S H S' H' := by
  cases r with
  | val d => exact h.1
  | own l => exact h.1
  | brw i l => exact h.elim
  | pool => exact h.elim
theorem EPo.of {r : R} {v : V} (s : SR K B S H env σ) (h : NwR K S H S' H' r v) : EPo K B S H env σ S' H' env r v := by
  refine ⟨s.nw h.nw, h.nw.go, .refl _, ?_⟩
  cases r with
  | val d => exact h.2
  | own l =>
    obtain ⟨n, p, vs, e, h1, h2, h3, h4⟩ := h
    exact ⟨p, vs, e, h2, s.hp0 h1, h1, s.now h1, h3, h4⟩
  | brw i l => exact h.elim
  | pool => exact h.elim
/-- two steps, the second one's result -/
theorem EPo.trans {r q : R} {v u : V} (a : EPo K B S H env σ S' H' env' r v) (b : EPo K B S' H' env' σ S'' H'' env'' q u) : EPo K B S H env σ S'' H'' env'' q u := by
  refine ⟨b.sr, a.go.trans b.go fun x o _ n z => n (Ow.frz a.fz z), a.fz.trans b.fz, ?_⟩
  have hq := b.res
  cases q with
  | val d => exact hq
  | own l =>
    obtain ⟨p, vs, e, h1, h2, h3, h4⟩ := hq
    exact ⟨p, vs, e, h1, h2, a.go.old p h3, h4⟩
  | brw i l => exact hq
  | pool => exact hq
/-- looked at: what the value is, its top list perhaps a name's own -/
def RepB (K : PySem.W.Frag) (S H : Hp) (v : V) (d : D) : Prop := Rep K S v d ∨ ∃ p vs l, v = .ref p ∧ d = .lst l ∧ H p = some (.lst vs) ∧ Reps K S vs l
theorem Res.look {r : R} {v : V} (s : SR K B S' H' env' σ) (h : Res K B A H S' H' env' σ r v) : RepB K S' H' v r.data := by
  cases r with
  | val d => exact .inl h
  | own l =>
    obtain ⟨p, vs, e, _, _, _, _, h3, h4⟩ := h
    exact .inr ⟨p, vs, l, e, rfl, h3, h4⟩
  | brw i l =>
    obtain ⟨p, e, h1, h2⟩ := h
    obtain ⟨q, vs, k1, _, _, k4, k5⟩ := s.own i l h2
    cases Slt.ref h1 k1
    exact .inr ⟨p, vs, l, e, rfl, k4, k5⟩
  | pool => exact .inl (.any v)
/-- .. behind a further step -/
theorem EPo.look {r q : R} {v u : V} (a : EPo K B S H env σ S' H' env' r v) (b : EPo K B S' H' env' σ S'' H'' env'' q u) : RepB K S'' H'' v r.data := by
  have h := a.res
  cases r with
  | val d => exact .inl (Rep.mono b.go.ex h)
  | own l =>
    obtain ⟨p, vs, e, h1, _, _, h2, h3, h4⟩ := h
    exact .inr ⟨p, vs, l, e, rfl, b.go.keep p _ h3 h2, h4.mono b.go.ex⟩
  | brw i l =>
    obtain ⟨p, e, h1, h2⟩ := h
    rcases b.fz.2 i with f | ⟨m, f1, f2⟩
    · obtain ⟨q, vs, k1, _, _, k4, k5⟩ := b.sr.own i l (f.trans h2)
      cases Slt.ref h1 k1
      exact .inr ⟨p, vs, l, e, rfl, k4, k5⟩
    · cases Has.inj h2 f1
      obtain ⟨w, k1, k2⟩ := b.sr.val i _ f2
      cases Slt.inj h1 k1
      subst e
      exact .inl k2
  | pool => exact .inl (.any v)
theorem RepB.nw {v : V} {d : D} (h : RepB K S H v d) (n : Nw S H S' H') : RepB K S' H' v d := by
  rcases h with h | ⟨p, vs, l, h1, h2, h3, h4⟩
  · exact .inl (h.mono n.ex)
  · exact .inr ⟨p, vs, l, h1, h2, n.keep _ _ h3, h4.mono n.ex⟩
theorem EPo.t {r : R} {v : V} (a : EPo K B S H env σ S' H' env' r v) : TPo K B S H env σ S' H' env' := ⟨a.sr, a.go, a.fz⟩
theorem TPo.trans (a : TPo K B S H env σ S' H' env') (b : TPo K B S' H' env' σ S'' H'' env'') : TPo K B S H env σ S'' H'' env'' :=
  ⟨b.sr, a.go.trans b.go fun x o _ n z => n (Ow.frz a.fz z), a.fz.trans b.fz⟩
theorem TPo.refl (s : SR K B S H env σ) : TPo K B S H env σ S H env := ⟨s, .refl, .refl _⟩
theorem TPo.e {q : R} {u : V} (a : TPo K B S H env σ S' H' env') (b : EPo K B S' H' env' σ S'' H'' env'' q u) : EPo K B S H env σ S'' H'' env'' q u :=
  EPo.trans (r := .val .any) (v := .non) ⟨a.sr, a.go, a.fz, .any _⟩ b
theorem TPo.nw (a : TPo K B S H env σ S' H' env') (n : Nw S' H' S'' H'') : TPo K B S H env σ S'' H'' env' := a.trans ⟨a.sr.nw n, n.go, .refl _⟩
/-- RepB behind a further test or step -/
theorem RepB.go {v : V} {d : D} {r : R} (a : EPo K B S H env σ S' H' env' r v) (hd : d = r.data) (b : TPo K B S' H' env' σ S'' H'' env'') : RepB K S'' H'' v d := by
  subst hd
  exact a.look (q := .val .any) (u := .non) ⟨b.sr, b.go, b.fz, .any _⟩
end
end DL
end

section
set_option Elab.async false
set_option linter.all false
set_option maxRecDepth 100000
set_option maxHeartbeats 4000000
namespace DL
open PySem L2
open Evl (Ex)

/-! data as Python's == sees it -/
mutual
def toPy : D → PyData
  | .non => .none
  | .bl b => .bool b
  | .int i => .int i
  | .str x => .str x
  | .tup l => .tuple (toPys l)
  | .lst l => .list (toPys l)
  | .ins _ _ _ => .dict []
  | .any => .dict []
  | .err _ _ _ _ _ => .dict []
  | .scr _ => .dict []
  | .dct _ _ => .dict []
def toPys : List D → List PyData
  | [] => []
  | d :: l => toPy d :: toPys l
end
/-! plain data, all the way down -/
mutual
def isDat : D → Bool
  | .non => true
  | .bl _ => true
  | .int _ => true
  | .str _ => true
  | .tup l => isDats l
  | .lst l => isDats l
  | .ins _ _ _ => false
  | .any => false
  | .err _ _ _ _ _ => false
  | .scr _ => false
  | .dct _ _ => false
def isDats : List D → Bool
  | [] => true
  | d :: l => isDat d && isDats l
end
def eqD (x y : D) : Bool := PyData.eqv (toPy x) (toPy y)
def okD (x : D) : Prop := isDat x = true ∧ SeqAt.shaped (toPy x) = true

section
variable {K : PySem.W.Frag} {S H : Hp}
mutual
theorem Rep.dp (e : Ex S H) : ∀ {v : V} {d : D}, Rep K S v d → isDat d = true → Dp K H v (toPy d)
  | _, _, .non, _ => by
    rw [toPy]
    exact .non
  | _, _, .any v, h => by
    rw [isDat] at h
    cases h
  | _, _, .bl b, _ => by
    rw [toPy]
    exact .bl b
  | _, _, .int i, _ => by
    rw [toPy]
    exact .int i
  | _, _, .str x, _ => by
    rw [toPy]
    exact .str x
  | _, _, .lst h r, q => by
    rw [toPy]
    rw [isDat] at q
    exact .lst (SqL.of (e _ _ h)) (Reps.dp e r q)
  | _, _, .tup h r, q => by
    rw [toPy]
    rw [isDat] at q
    exact .tup (Evl.ex_t e h) (Reps.dp e r q)
  | _, _, .ins h h1 h2 r, q => by
    rw [isDat] at q
    cases q
  | _, _, .err h r, q => by
    rw [isDat] at q
    cases q
  | _, _, .scr h, q => by
    rw [isDat] at q
    cases q
  | _, _, .dct _ _ _ _ _ _ _, q => by
    rw [isDat] at q
    cases q
theorem Reps.dp (e : Ex S H) : ∀ {v : List V} {d : List D}, Reps K S v d → isDats d = true → DpAll K H v (toPys d)
  | _, _, .nil, _ => by
    rw [toPys]
    exact .nil
  | _, _, .cons h r, q => by
    rw [isDats, Bool.and_eq_true] at q
    rw [toPys]
    exact .cons (Rep.dp e h q.1) (Reps.dp e r q.2)
end
theorem RepB.dp (e : Ex S H) {v : V} {d : D} (h : RepB K S H v d) (q : isDat d = true) : Dp K H v (toPy d) := by
  rcases h with h | ⟨p, vs, l, rfl, rfl, h3, h4⟩
  · exact h.dp e q
  · rw [toPy]
    rw [isDat] at q
    exact .lst (SqL.of h3) (h4.dp e q)
/-- a list that is looked at -/
theorem RepB.lst (e : Ex S H) {v : V} {l : List D} (h : RepB K S H v (.lst l)) : ∃ p vs, v = .ref p ∧ SqL K H p vs ∧ Reps K S vs l := by
  rcases h with h | ⟨p, vs, l, rfl, h2, h3, h4⟩
  · cases h with
    | lst h r => exact ⟨_, _, rfl, SqL.of (e _ _ h), r⟩
  · cases h2
    exact ⟨p, vs, rfl, SqL.of h3, h4⟩
theorem RepB.lstH (e : Ex S H) {v : V} {l : List D} (h : RepB K S H v (.lst l)) : ∃ p vs, v = .ref p ∧ H p = some (.lst vs) ∧ Reps K S vs l := by
  rcases h with h | ⟨p, vs, l, rfl, h2, h3, h4⟩
  · cases h with
    | lst h r => exact ⟨_, _, rfl, e _ _ h, r⟩
  · cases h2
    exact ⟨p, vs, rfl, h3, h4⟩
theorem RepB.tup (e : Ex S H) {v : V} {l : List D} (h : RepB K S H v (.tup l)) : ∃ p vs, v = .ref p ∧ SqT K H p vs ∧ Reps K S vs l := by
  rcases h with h | ⟨p, vs, l, rfl, h2, h3, h4⟩
  · cases h with
    | tup h r => exact ⟨_, _, rfl, Evl.ex_t e h, r⟩
  · cases h2
theorem RepB.int {v : V} {i : Int} (h : RepB K S H v (.int i)) : v = .int i := by
  rcases h with h | ⟨p, vs, l, rfl, h2, h3, h4⟩
  · cases h
    rfl
  · cases h2
theorem RepB.bl {v : V} {i : Bool} (h : RepB K S H v (.bl i)) : v = .bl i := by
  rcases h with h | ⟨p, vs, l, rfl, h2, h3, h4⟩
  · cases h
    rfl
  · cases h2
theorem RepB.str {v : V} {i : Str} (h : RepB K S H v (.str i)) : v = .str i := by
  rcases h with h | ⟨p, vs, l, rfl, h2, h3, h4⟩
  · cases h
    rfl
  · cases h2
theorem RepB.non {v : V} (h : RepB K S H v .non) : v = .non := by
  rcases h with h | ⟨p, vs, l, rfl, h2, h3, h4⟩
  · cases h
    rfl
  · cases h2
theorem RepB.ins {v : V} {C : Addr} {ns : List Str} {l : List D} (h : RepB K S H v (.ins C ns l)) : Rep K S v (.ins C ns l) := by
  rcases h with h | ⟨p, vs, l, rfl, h2, h3, h4⟩
  · exact h
  · cases h2
/-- is it None? -/
def isNon : D → Option Bool
  | .non => some true
  | .any => none
  | _ => some false
theorem RepB.isNon {v : V} {d : D} (h : RepB K S H v d) {b : Bool} (e : isNon d = some b) : decide (v = V.non) = b := by
  rcases h with h | ⟨p, vs, l, rfl, rfl, h3, h4⟩
  · cases h <;> first
      | (cases e; rfl)
      | cases e
  · cases e
    rfl
end

/-! ### rules by values -/
abbrev M1 := D → (R → Prop) → Prop
abbrev M2 := D → D → (R → Prop) → Prop
abbrev MA := List D → (R → Prop) → Prop
/-- two values looked at, new things made -/
def OpD (K : PySem.W.Frag) (r : R2) (m : M2) : Prop := ∀ (S H : Hp) (x y : V) (dx dy : D) (Q : R → Prop) (Qv : VK), Ex S H → RepB K S H x dx → RepB K S H y dy → m dx dy Q →
  (∀ v H' S' q, NwR K S H S' H' q v → Q q → Qv v H') → r x y H Qv
def UnD (K : PySem.W.Frag) (r : V → Hp → VK → Prop) (m : M1) : Prop := ∀ (S H : Hp) (x : V) (dx : D) (Q : R → Prop) (Qv : VK), Ex S H → RepB K S H x dx → m dx Q →
  (∀ v H' S' q, NwR K S H S' H' q v → Q q → Qv v H') → r x H Qv
inductive RepBs (K : PySem.W.Frag) (S H : Hp) : List V → List D → Prop
  | nil : RepBs K S H [] []
  | cons {v : V} {vs : List V} {d : D} {ds : List D} : RepB K S H v d → RepBs K S H vs ds → RepBs K S H (v :: vs) (d :: ds)
def CallD (K : PySem.W.Frag) (r : List V → Hp → VK → Prop) (m : MA) : Prop := ∀ (S H : Hp) (vs : List V) (ds : List D) (Q : R → Prop) (Qv : VK), Ex S H → RepBs K S H vs ds → m ds Q →
  (∀ v H' S' q, NwR K S H S' H' q v → Q q → Qv v H') → r vs H Qv
theorem RepBs.nw {K : PySem.W.Frag} {S H S' H' : Hp} (n : Nw S H S' H') : ∀ {vs : List V} {ds : List D}, RepBs K S H vs ds → RepBs K S' H' vs ds
  | _, _, .nil => .nil
  | _, _, .cons h r => .cons (h.nw n) (RepBs.nw n r)

def tTruth (K : PySem.W.Frag) (ta : TE) : TT := fun σ H Q => ta σ H fun x H' => ∃ k, TruV K x H' k ∧ Q k H'
/-! ### expressions -/
def dVar (i : Nat) : DM := fun env Q => match env[i]? with
  | some (some (.val d)) => Q env (.val d)
  | some (some (.own l)) => Q env (.brw i l)
  | some (some .pool) => Q env .pool
  | _ => False
def dC (d : D) : DM := fun env Q => Q env (.val d)
/-- what is kept: a list of one's own stands still from now on -/
def dKeep (m : DM) : DM := fun env Q => m env fun env' r => match r with
  | .val d => Q env' (.val d)
  | .own l => Q env' (.val (.lst l))
  | .brw i l => Q (env'.set i (some (.val (.lst l)))) (.val (.lst l))
  | .pool => Q env' .pool
def dOp (m : M2) (ma mb : DM) : DM := fun env Q => ma env fun env1 r1 => mb env1 fun env2 r2 => m r1.data r2.data fun q => Q env2 q
def dUn (m : M1) (ma : DM) : DM := fun env Q => ma env fun env1 r1 => m r1.data fun q => Q env1 q
/-- both ways of a test -/
def dIte (c : Bool) (p q : Prop) : Prop := (c = true → p) ∧ (c = false → q)
theorem dIte_of {c : Bool} {p q : Prop} (h1 : c = true → p) (h2 : c = false → q) : dIte c p q := ⟨h1, h2⟩
theorem dIte_t {p q : Prop} (h : dIte true p q) : p := h.1 rfl
theorem dIte_f {p q : Prop} (h : dIte false p q) : q := h.2 rfl
def dIf (t : DTM) (ma mb : DM) : DM := fun env Q => t env fun env1 c => dIte c (ma env1 Q) (mb env1 Q)
def dAndV (ma mb : DM) : DM := fun env Q => ma env fun env1 r => match r with
  | .val (.bl c) => dIte c (mb env1 Q) (Q env1 (.val (.bl false)))
  | _ => False
def dOrV (ma mb : DM) : DM := fun env Q => ma env fun env1 r => match r with
  | .val (.bl c) => dIte c (Q env1 (.val (.bl true))) (mb env1 Q)
  | _ => False
def dNotV (ma : DM) : DM := fun env Q => ma env fun env1 r => match r with
  | .val (.bl c) => Q env1 (.val (.bl (!c)))
  | _ => False
/-- tests -/
def dB (m : DM) : DTM := fun env Q => m env fun env1 r => match r with
  | .val (.bl c) => Q env1 c
  | _ => False
def dAnd (ma mb : DTM) : DTM := fun env Q => ma env fun env1 c => dIte c (mb env1 Q) (Q env1 false)
def dOr (ma mb : DTM) : DTM := fun env Q => ma env fun env1 c => dIte c (Q env1 true) (mb env1 Q)
def dNot (ma : DTM) : DTM := fun env Q => ma env fun env1 c => Q env1 (!c)
/-- a value's truth -/
def truD : D → Option Bool
  | .non => some false
  | .bl b => some b
  | .int i => some (i != 0)
  | .str x => if x.length ≤ sizeLine then some ((x.length : Int) != 0) else none
  | .lst l => some (!l.isEmpty)
  | .tup l => some (!l.isEmpty)
  | _ => none
def dTru (m : DM) : DTM := fun env Q => m env fun env1 r => ∃ b, truD r.data = some b ∧ Q env1 b

section
variable {X : Cx} {a b c : Expr} {ma mb mc : DM} {pos : Pos} {ta tb : TE} {tc td : TT}
theorem Frz.set {env : En} {i : Nat} {l : List D} (h : Has env i (.own l)) : Frz env (env.set i (some (.val (.lst l)))) := ⟨List.length_set, fun j => by
  by_cases c : i = j
  · subst c
    refine .inr ⟨l, h, ?_⟩
    have : i < env.length := (List.getElem?_eq_some_iff.mp h).1
    show (env.set i _)[i]? = _
    rw [List.getElem?_set_self this]
  · exact .inl (List.getElem?_set_ne c)⟩
/-- a name's list stands still from now on -/
theorem SR.frz {K : PySem.W.Frag} {B : Bs} {S H : Hp} {env : En} {σ : St} {i : Nat} {l : List D} (s : SR K B S H env σ) (h : Has env i (.own l)) :
    ∃ p S', Slt σ i (.ref p) ∧ TPo K B S H env σ S' H (env.set i (some (.val (.lst l)))) ∧ Rep K S' (.ref p) (.lst l) := by
  have hh := h
  obtain ⟨p, vs, h1, h2, h3, h4, h5⟩ := s.own i l h
  have e1 : Ex S (upd S p (.lst vs)) := Ex.new h2
  have nx : ∀ a, a ≠ p → upd S p (.lst vs) a = S a := fun a c => upd_ne c
  have hp : ∀ a, B.pa = some a → a ≠ p := fun a e c => by
    obtain ⟨_, o, q⟩ := s.pool a e
    rw [c, h3] at q
    cases q
  have rp : Rep K (upd S p (.lst vs)) (.ref p) (.lst l) := .lst upd_same (h5.mono e1)
  have hi : i < env.length := (List.getElem?_eq_some_iff.mp h).1
  have self : (env.set i (some (.val (.lst l))))[i]? = some (some (.val (.lst l))) := List.getElem?_set_self hi
  have other : ∀ j, j ≠ i → (env.set i (some (.val (.lst l))))[j]? = env[j]? := fun j c => List.getElem?_set_ne (Ne.symm c)
  refine ⟨p, upd S p (.lst vs), h1, ⟨⟨s.ex0.trans e1, fun a o h e => ?_, s.keep0, s.old0, by rw [List.length_set]; exact s.len, fun a o q => ?_, fun j d hj => ?_, fun j m hj => ?_, fun j k m n q hj hk r1 r2 => ?_, fun j hj => ?_, fun a e => ?_, fun j q m hj => ?_, fun j k q m n hj hk r1 => ?_, fun j k q m n hj hk => ?_, s.pin⟩, ⟨e1, fun _ _ h _ => h, fun a o _ n e => ?_, fun _ h => h⟩, .set hh⟩, rp⟩
  · rw [nx a (fun c => by rw [c, h3] at h; cases h)]
    exact s.nw0 a o h e
  · by_cases c : a = p
    · subst c
      rw [upd_same] at q
      cases q
      exact h4
    · rw [nx a c] at q
      exact s.ex a o q
  · by_cases c : j = i
    · subst c
      rw [Has.inj hj self |> fun z => (by injection z : d = .lst l)]
      exact ⟨_, h1, rp⟩
    · obtain ⟨v, q1, q2⟩ := s.val j d ((other j c).symm.trans hj)
      exact ⟨v, q1, q2.mono e1⟩
  · by_cases c : j = i
    · subst c
      exact nomatch Has.inj hj self
    · have hj' : Has env j (.own m) := (other j c).symm.trans hj
      obtain ⟨q, ws, q1, q2, q3, q4, q5⟩ := s.own j m hj'
      refine ⟨q, ws, q1, ?_, q3, q4, q5.mono e1⟩
      rw [nx q (fun z => c (s.dis j i m l p hj' h (z ▸ q1) h1))]
      exact q2
  · have c1 : j ≠ i := fun z => by
      subst z
      exact nomatch Has.inj hj self
    have c2 : k ≠ i := fun z => by
      subst z
      exact nomatch Has.inj hk self
    exact s.dis j k m n q ((other j c1).symm.trans hj) ((other k c2).symm.trans hk) r1 r2
  · by_cases c : j = i
    · subst c
      exact nomatch Has.inj hj self
    · exact s.pl j ((other j c).symm.trans hj)
  · obtain ⟨⟨z, l', cells, pos, big, seed, cnt, bud, k1, k2, k3⟩, o⟩ := s.pool a e
    exact ⟨⟨(nx a (hp a e)).trans z, l', cells, pos, big, seed, cnt, bud, k1, e1 _ _ k2, k3⟩, o⟩
  · have c : j ≠ i := fun c => by
      subst c
      exact nomatch Has.inj hj self
    have hj' := (other j c).symm.trans hj
    obtain ⟨k1, k2, k3, ws, k4, k5⟩ := s.fix j q m hj'
    refine ⟨k1, ?_, k3, ws, k4, k5.mono e1⟩
    rw [nx q (fun z => s.dfx j i q m l hj' h (z ▸ h1))]
    exact k2
  · have c1 : j ≠ i := fun c => by
      subst c
      exact nomatch Has.inj hj self
    have c2 : k ≠ i := fun c => by
      subst c
      exact nomatch Has.inj hk self
    exact s.dfx j k q m n ((other j c1).symm.trans hj) ((other k c2).symm.trans hk) r1
  · have c1 : j ≠ i := fun c => by
      subst c
      exact nomatch Has.inj hj self
    have c2 : k ≠ i := fun c => by
      subst c
      exact nomatch Has.inj hk self
    exact s.dff j k q m n ((other j c1).symm.trans hj) ((other k c2).symm.trans hk)
  · rw [nx a (fun c => n (.inr (.inl ⟨i, l, hh, c ▸ h1⟩)))]
    exact e
theorem de_var (i : Nat) (h : PE X a (tVar i)) : DE X a (dVar i) (tVar i) := by
  refine ⟨h, fun B S H env σ Q Qv s m k => ?_⟩
  unfold dVar at m
  split at m
  · rename_i d e
    obtain ⟨v, h1, h2⟩ := s.val i d e
    exact ⟨v, h1, k v H S env (.val d) ⟨s, .refl, .refl _, h2⟩ m⟩
  · rename_i l e
    obtain ⟨p, vs, h1, h2, h3, h4, h5⟩ := s.own i l e
    exact ⟨_, h1, k _ H S env (.brw i l) ⟨s, .refl, .refl _, p, rfl, h1, e⟩ m⟩
  · rename_i e
    obtain ⟨a, h1, h2⟩ := s.pl i e
    exact ⟨_, h2, k _ H S env .pool ⟨s, .refl, .refl _, a, h1, rfl⟩ m⟩
  · exact m.elim
theorem de_c {v : V} {d : D} (h : PE X a (tC v)) (r : ∀ K S, Rep K S v d) : DE X a (dC d) (tC v) :=
  ⟨h, fun B S H env σ Q Qv s m k => k v H S env (.val d) ⟨s, .refl, .refl _, r _ _⟩ m⟩
theorem de_int {i : Int} {j pos} : DE X (.Constant (.int i) j pos) (dC (.int i)) (tC (.int i)) := de_c pe_int fun _ _ => .int i
theorem de_bl {i : Bool} {j pos} : DE X (.Constant (.bool i) j pos) (dC (.bl i)) (tC (.bl i)) := de_c pe_bl fun _ _ => .bl i
theorem de_str {i : Str} {j pos} : DE X (.Constant (.str i) j pos) (dC (.str i)) (tC (.str i)) := de_c pe_str fun _ _ => .str i
theorem de_non {j pos} : DE X (.Constant .none j pos) (dC .non) (tC .non) := de_c pe_non fun _ _ => .non
/-- a list of one's own is known from now on -/
theorem SR.add {K : PySem.W.Frag} {B : Bs} {S H : Hp} {env : En} {σ : St} {p : Addr} {o' : HO} (s : SR K B S H env σ) (z1 : S p = none) (z2 : B.H0 p = none) (z4 : ¬ Ow B env σ p) (z5 : H p = some o') : SR K B (upd S p o') H env σ := by
  have e1 : Ex S (upd S p o') := Ex.new z1
  have nx : ∀ b, b ≠ p → upd S p o' b = S b := fun b c => upd_ne c
  refine ⟨s.ex0.trans e1, fun b o h1 h2 => ?_, s.keep0, s.old0, s.len, fun b o h1 => ?_, fun i d h1 => ?_, fun i m h1 => ?_, s.dis, s.pl, fun b h1 => ?_, fun i q m h1 => ?_, s.dfx, s.dff, s.pin⟩
  · rw [nx b (fun c => by rw [c, z2] at h1; cases h1)]
    exact s.nw0 b o h1 h2
  · by_cases c : b = p
    · subst c
      rw [upd_same] at h1
      cases h1
      exact z5
    · rw [nx b c] at h1
      exact s.ex b o h1
  · obtain ⟨v, q1, q2⟩ := s.val i d h1
    exact ⟨v, q1, q2.mono e1⟩
  · obtain ⟨q, ws, q1, q2, q3, q4, q5⟩ := s.own i m h1
    refine ⟨q, ws, q1, ?_, q3, q4, q5.mono e1⟩
    rw [nx q (fun c => z4 (.inr (.inl ⟨i, m, h1, c ▸ q1⟩)))]
    exact q2
  · obtain ⟨⟨y, l', cells, pos, big, seed, cnt, bud, k1, k2, k3⟩, o⟩ := s.pool b h1
    exact ⟨⟨(nx b (fun c => z4 (.inl (c ▸ h1)))).trans y, l', cells, pos, big, seed, cnt, bud, k1, e1 _ _ k2, k3⟩, o⟩
  · obtain ⟨k1, k2, k3, ws, k4, k5⟩ := s.fix i q m h1
    refine ⟨k1, ?_, k3, ws, k4, k5.mono e1⟩
    rw [nx q (fun c => z4 (.inr (.inr ⟨i, m, c ▸ h1⟩)))]
    exact k2
theorem de_keep (h : DE X a ma ta) : DE X a (dKeep ma) ta := by
  obtain ⟨h1, h2⟩ := h
  refine ⟨h1, fun B S H env σ Q Qv s m k => h2 B S H env σ _ Qv s m fun v H' S' env' r e q => ?_⟩
  have er := e.res
  cases r with
  | val d => exact k v H' S' env' _ e q
  | own l =>
    obtain ⟨p, vs, rfl, z1, z2, z3, z4, z5, z6⟩ := er
    have ne : ∀ b o, H b = some o → b ≠ p := fun b o q z => by rw [z, z3] at q; cases q
    have e1 : Ex S' (upd S' p (.lst vs)) := Ex.new z1
    exact k _ H' (upd S' p (.lst vs)) env' (.val (.lst l)) ⟨e.sr.add z1 z2 z4 z5, ⟨e.go.ex.trans e1, e.go.keep, fun b o h1 h2 h3 => by rw [upd_ne (ne b o h1)]; exact e.go.nw b o h1 h2 h3, e.go.old⟩, e.fz, .lst upd_same (z6.mono e1)⟩ q
  | brw i l =>
    obtain ⟨p, rfl, z1, z2⟩ := er
    obtain ⟨p', S2, y1, y2, y3⟩ := e.sr.frz z2
    cases Slt.ref z1 y1
    exact k _ H' S2 _ (.val (.lst l)) (e.t.e ⟨y2.sr, y2.go, y2.fz, y3⟩) q
  | pool => exact k v H' S' env' .pool e q
/-- behind the operands: what a rule by values has given -/
theorem EPo.fin {K : PySem.W.Frag} {B : Bs} {S H S' H' S'' H'' : Hp} {env env' : En} {σ : St} {q : R} {v : V} (t : TPo K B S H env σ S' H' env') (n : NwR K S' H' S'' H'' q v) : EPo K B S H env σ S'' H'' env' q v := t.e (.of t.sr n)
theorem EPo.look1 {K : PySem.W.Frag} {B : Bs} {S H S' H' : Hp} {env env' : En} {σ : St} {q : R} {v : V} (e : EPo K B S H env σ S' H' env' q v) : RepB K S' H' v q.data := e.res.look e.sr
theorem de_op {op : Operator} {r : R2} {m : M2} (ho : OpR X (binaryOp op) r) (hd : OpD X.K r m) (ha : DE X a ma ta) (hb : DE X b mb tb) : DE X (.BinOp a op b pos) (dOp m ma mb) (tOp r ta tb) := by
  obtain ⟨a1, a2⟩ := ha
  obtain ⟨b1, b2⟩ := hb
  refine ⟨pe_op ho a1 b1, fun B S H env σ Q Qv s q k => ?_⟩
  refine a2 B S H env σ _ _ s q fun x H1 S1 env1 r1 e1 q1 => ?_
  refine b2 B S1 H1 env1 σ _ _ e1.sr q1 fun y H2 S2 env2 r2 e2 q2 => ?_
  exact hd S2 H2 x y _ _ _ _ e2.sr.ex (e1.look e2) e2.look1 q2 fun v H3 S3 q n q3 => k v H3 S3 env2 q (.fin (e1.t.trans e2.t) n) q3
theorem de_cmp {op : CmpOp} {r : R2} {m : M2} (ho : OpR X (compareOp op) r) (hd : OpD X.K r m) (ha : DE X a ma ta) (hb : DE X b mb tb) (hm : behindInMarks op b = false) : DE X (.Compare a [op] [b] pos) (dOp m ma mb) (tOp r ta tb) := by
  obtain ⟨a1, a2⟩ := ha
  obtain ⟨b1, b2⟩ := hb
  refine ⟨pe_cmpR ho a1 b1 hm, fun B S H env σ Q Qv s q k => ?_⟩
  refine a2 B S H env σ _ _ s q fun x H1 S1 env1 r1 e1 q1 => ?_
  refine b2 B S1 H1 env1 σ _ _ e1.sr q1 fun y H2 S2 env2 r2 e2 q2 => ?_
  exact hd S2 H2 x y _ _ _ _ e2.sr.ex (e1.look e2) e2.look1 q2 fun v H3 S3 q n q3 => k v H3 S3 env2 q (.fin (e1.t.trans e2.t) n) q3
theorem de_ix {r : R2} {m : M2} (ho : IxR X r) (hd : OpD X.K r m) (ha : DE X a ma ta) (hb : DE X b mb tb) (hs : PlainIx b) : DE X (.Subscript a b pos) (dOp m ma mb) (tOp r ta tb) := by
  obtain ⟨a1, a2⟩ := ha
  obtain ⟨b1, b2⟩ := hb
  refine ⟨pe_ix ho a1 b1 hs, fun B S H env σ Q Qv s q k => ?_⟩
  refine a2 B S H env σ _ _ s q fun x H1 S1 env1 r1 e1 q1 => ?_
  refine b2 B S1 H1 env1 σ _ _ e1.sr q1 fun y H2 S2 env2 r2 e2 q2 => ?_
  exact hd S2 H2 x y _ _ _ _ e2.sr.ex (e1.look e2) e2.look1 q2 fun v H3 S3 q n q3 => k v H3 S3 env2 q (.fin (e1.t.trans e2.t) n) q3
theorem de_un {op : UnaryOp} {r : V → Hp → VK → Prop} {m : M1} (ho : UnR X (unaryOp op) r) (hd : UnD X.K r m) (ha : DE X a ma ta) : DE X (.UnaryOp op a pos) (dUn m ma) (tUn r ta) := by
  obtain ⟨a1, a2⟩ := ha
  refine ⟨pe_un ho a1, fun B S H env σ Q Qv s q k => ?_⟩
  refine a2 B S H env σ _ _ s q fun x H1 S1 env1 r1 e1 q1 => ?_
  exact hd S1 H1 x _ _ _ e1.sr.ex e1.look1 q1 fun v H3 S3 q n q3 => k v H3 S3 env1 q (.fin e1.t n) q3
theorem de_if {t : DTM} (hc : DT X c t tc) (ha : DE X a ma ta) (hb : DE X b mb tb) : DE X (.IfExp c a b pos) (dIf t ma mb) (L2.tIf tc ta tb) := by
  obtain ⟨c1, c2⟩ := hc
  obtain ⟨a1, a2⟩ := ha
  obtain ⟨b1, b2⟩ := hb
  refine ⟨pe_ifExp c1 a1 b1, fun B S H env σ Q Qv s q k => ?_⟩
  refine c2 B S H env σ _ _ s q fun c H1 S1 env1 e1 q1 => ?_
  cases c with
  | true => exact a2 B S1 H1 env1 σ _ _ e1.sr (dIte_t q1) fun v H2 S2 env2 r2 e2 q2 => k v H2 S2 env2 r2 (e1.e e2) q2
  | false => exact b2 B S1 H1 env1 σ _ _ e1.sr (dIte_f q1) fun v H2 S2 env2 r2 e2 q2 => k v H2 S2 env2 r2 (e1.e e2) q2
theorem Res.bl {K : PySem.W.Frag} {B : Bs} {A : Addr → Prop} {H S' H' : Hp} {env' : En} {σ : St} {c : Bool} {v : V} (h : Res K B A H S' H' env' σ (.val (.bl c)) v) : v = .bl c := by
  have h' : Rep K S' v (.bl c) := h
  cases h'
  rfl
theorem de_one {op : BoolOp} (ha : DE X a ma ta) : DE X (.BoolOp op [a] pos) ma ta := by
  obtain ⟨a1, a2⟩ := ha
  exact ⟨pe_one a1, a2⟩
theorem de_and {rest : List Expr} (ha : DE X a ma ta) (hb : DE X (.BoolOp .And (b :: rest) pos) mb tb) : DE X (.BoolOp .And (a :: b :: rest) pos) (dAndV ma mb) (tAndV ta tb) := by
  obtain ⟨a1, a2⟩ := ha
  obtain ⟨b1, b2⟩ := hb
  refine ⟨pe_and a1 b1, fun B S H env σ Q Qv s q k => ?_⟩
  refine a2 B S H env σ _ _ s q fun x H1 S1 env1 r1 e1 q1 => ?_
  split at q1
  · rename_i c
    refine ⟨c, e1.res.bl, ?_⟩
    cases c with
    | true => exact b2 B S1 H1 env1 σ _ _ e1.sr (dIte_t q1) fun v H2 S2 env2 r2 e2 q2 => k v H2 S2 env2 r2 (e1.t.e e2) q2
    | false => exact k _ H1 S1 env1 (.val (.bl false)) ⟨e1.sr, e1.go, e1.fz, Rep.bl _⟩ (dIte_f q1)
  · exact q1.elim
theorem de_or {rest : List Expr} (ha : DE X a ma ta) (hb : DE X (.BoolOp .Or (b :: rest) pos) mb tb) : DE X (.BoolOp .Or (a :: b :: rest) pos) (dOrV ma mb) (tOrV ta tb) := by
  obtain ⟨a1, a2⟩ := ha
  obtain ⟨b1, b2⟩ := hb
  refine ⟨pe_or a1 b1, fun B S H env σ Q Qv s q k => ?_⟩
  refine a2 B S H env σ _ _ s q fun x H1 S1 env1 r1 e1 q1 => ?_
  split at q1
  · rename_i c
    refine ⟨c, e1.res.bl, ?_⟩
    cases c with
    | true => exact k _ H1 S1 env1 (.val (.bl true)) ⟨e1.sr, e1.go, e1.fz, Rep.bl _⟩ (dIte_t q1)
    | false => exact b2 B S1 H1 env1 σ _ _ e1.sr (dIte_f q1) fun v H2 S2 env2 r2 e2 q2 => k v H2 S2 env2 r2 (e1.t.e e2) q2
  · exact q1.elim
theorem de_not (ha : DE X a ma ta) : DE X (.UnaryOp .Not a pos) (dNotV ma) (tNotV ta) := by
  obtain ⟨a1, a2⟩ := ha
  refine ⟨pe_not a1, fun B S H env σ Q Qv s q k => ?_⟩
  refine a2 B S H env σ _ _ s q fun x H1 S1 env1 r1 e1 q1 => ?_
  split at q1
  · rename_i c
    exact ⟨c, e1.res.bl, k _ H1 S1 env1 (.val (.bl (!c))) ⟨e1.sr, e1.go, e1.fz, Rep.bl _⟩ q1⟩
  · exact q1.elim

/-! ### tests -/
def DW (X : Cx) (e : Expr) (m : DTM) (t : TT) : Prop := PW X e t ∧ ∀ (B : Bs) (S H : Hp) (env : En) (σ : St) (Q : En → Bool → Prop) (Qv : Bool → Hp → Prop), SR X.K B S H env σ → m env Q →
  (∀ b H' S' env', TPo X.K B S H env σ S' H' env' → Q env' b → Qv b H') → t σ H Qv
theorem DW.dt {e : Expr} {m : DTM} (h : DW X e m tc) : DT X e m tc := by
  obtain ⟨h1, h2⟩ := h
  exact ⟨h1.pt, h2⟩
theorem dt_val (ha : DE X a ma ta) (he : ∀ whole, isTrue a X.env whole = (do let v ← whole; standAt a.pos; holding [v] (truthy v)) := by intro _; rfl) : DT X a (dB ma) (tB ta) := by
  obtain ⟨a1, a2⟩ := ha
  refine ⟨pt_val a1 he, fun B S H env σ Q Qv s q k => ?_⟩
  refine a2 B S H env σ _ _ s q fun x H1 S1 env1 r1 e1 q1 => ?_
  split at q1
  · rename_i c
    exact ⟨c, e1.res.bl, k _ H1 S1 env1 e1.t q1⟩
  · exact q1.elim
theorem dt_cmp {op : CmpOp} {r : R2} {m : M2} (ho : OpR X (compareOp op) r) (hd : OpD X.K r m) (ha : DE X a ma ta) (hb : DE X b mb tb) (hm : behindInMarks op b = false) : DT X (.Compare a [op] [b] pos) (dB (dOp m ma mb)) (tTest (tOp r ta tb)) := by
  obtain ⟨a1, a2⟩ := ha
  obtain ⟨b1, b2⟩ := hb
  refine ⟨pt_cmpR ho a1 b1 hm, fun B S H env σ Q Qv s q k => ?_⟩
  refine a2 B S H env σ _ _ s q fun x H1 S1 env1 r1 e1 q1 => ?_
  refine b2 B S1 H1 env1 σ _ _ e1.sr q1 fun y H2 S2 env2 r2 e2 q2 => ?_
  refine hd S2 H2 x y _ _ _ _ e2.sr.ex (e1.look e2) e2.look1 q2 fun v H3 S3 q n q3 => ?_
  have f := EPo.fin (e1.t.trans e2.t) n
  dsimp only at q3
  split at q3
  · rename_i c
    exact ⟨c, f.res.bl, k _ H3 S3 env2 f.t q3⟩
  · exact q3.elim
theorem dw_and1 {m : DTM} (ha : DT X a m tc) : DW X (.BoolOp .And [a] pos) m tc := by
  obtain ⟨a1, a2⟩ := ha
  exact ⟨pw_and1 a1, a2⟩
theorem dw_or1 {m : DTM} (ha : DT X a m tc) : DW X (.BoolOp .Or [a] pos) m tc := by
  obtain ⟨a1, a2⟩ := ha
  exact ⟨pw_or1 a1, a2⟩
theorem dw_and {m n : DTM} {rest : List Expr} (ha : DT X a m tc) (hb : DW X (.BoolOp .And (b :: rest) pos) n td) : DW X (.BoolOp .And (a :: b :: rest) pos) (dAnd m n) (tAnd tc td) := by
  obtain ⟨a1, a2⟩ := ha
  obtain ⟨b1, b2⟩ := hb
  refine ⟨pw_and a1 b1, fun B S H env σ Q Qv s q k => ?_⟩
  refine a2 B S H env σ _ _ s q fun c H1 S1 env1 e1 q1 => ?_
  cases c with
  | true => exact b2 B S1 H1 env1 σ _ _ e1.sr (dIte_t q1) fun v H2 S2 env2 e2 q2 => k v H2 S2 env2 (e1.trans e2) q2
  | false => exact k _ H1 S1 env1 e1 (dIte_f q1)
theorem dw_or {m n : DTM} {rest : List Expr} (ha : DT X a m tc) (hb : DW X (.BoolOp .Or (b :: rest) pos) n td) : DW X (.BoolOp .Or (a :: b :: rest) pos) (dOr m n) (tOr tc td) := by
  obtain ⟨a1, a2⟩ := ha
  obtain ⟨b1, b2⟩ := hb
  refine ⟨pw_or a1 b1, fun B S H env σ Q Qv s q k => ?_⟩
  refine a2 B S H env σ _ _ s q fun c H1 S1 env1 e1 q1 => ?_
  cases c with
  | true => exact k _ H1 S1 env1 e1 (dIte_t q1)
  | false => exact b2 B S1 H1 env1 σ _ _ e1.sr (dIte_f q1) fun v H2 S2 env2 e2 q2 => k v H2 S2 env2 (e1.trans e2) q2
theorem dt_not {m : DTM} (ha : DT X a m tc) : DT X (.UnaryOp .Not a pos) (dNot m) (tNot tc) := by
  obtain ⟨a1, a2⟩ := ha
  refine ⟨pt_not a1, fun B S H env σ Q Qv s q k => ?_⟩
  exact a2 B S H env σ _ _ s q fun c H1 S1 env1 e1 q1 => k _ H1 S1 env1 e1 q1
theorem RepB.tru {K : PySem.W.Frag} {S H : Hp} {v : V} {d : D} {b : Bool} (e : Ex S H) (h : RepB K S H v d) (q : truD d = some b) : TruV K v H b := by
  have em : ∀ {vs : List V} {l : List D}, Reps K S vs l → (!l.isEmpty) = !vs.isEmpty := fun r => by cases r <;> rfl
  cases d with
  | non => rw [h.non]; cases q; rfl
  | bl c => rw [h.bl]; cases q; rfl
  | int i => rw [h.int]; cases q; rfl
  | str x =>
    rw [h.str]
    have q' : (if x.length ≤ sizeLine then some ((x.length : Int) != 0) else Option.none) = some b := q
    split at q'
    · rename_i c
      cases q'
      exact ⟨c, rfl⟩
    · cases q'
  | lst l =>
    obtain ⟨p, vs, rfl, h1, h2⟩ := h.lst e
    cases q
    exact .inl ⟨vs, h1, em h2⟩
  | tup l =>
    obtain ⟨p, vs, rfl, h1, h2⟩ := h.tup e
    cases q
    exact .inr (.inl ⟨vs, h1, em h2⟩)
  | ins C ns l => cases q
  | any => cases q
  | err _ _ _ _ _ => cases q
  | scr _ => cases q
  | dct _ _ => cases q
theorem dt_tru (ha : DE X a ma ta) (he : ∀ whole, isTrue a X.env whole = (do let v ← whole; standAt a.pos; holding [v] (truthy v)) := by intro _; rfl) : DT X a (dTru ma) (tTruth X.K ta) := by
  obtain ⟨a1, a2⟩ := ha
  refine ⟨pt_truth a1 he, fun B S H env σ Q Qv s q k => ?_⟩
  refine a2 B S H env σ _ _ s q fun x H1 S1 env1 r1 e1 q1 => ?_
  obtain ⟨b, h1, h2⟩ := q1
  exact ⟨b, e1.look1.tru e1.sr.ex h1, k _ H1 S1 env1 e1.t h2⟩

/-! ### arguments, displays, calls of built-ins -/
abbrev DAM := En → (En → List R → Prop) → Prop
/-- a value looked at, or the pool -/
inductive LkA (K : PySem.W.Frag) (B : Bs) (S H : Hp) : List V → List R → Prop
  | nil : LkA K B S H [] []
  | cons {v : V} {vs : List V} {r : R} {rs : List R} : RepB K S H v r.data → (∀ d, r = .val d → Rep K S v d) → (r = .pool → ∃ a, B.pa = some a ∧ v = .ref a) → LkA K B S H vs rs → LkA K B S H (v :: vs) (r :: rs)
def DA (X : Cx) (es : List Expr) (m : DAM) (t : TA) : Prop := PA X es t ∧ ∀ (B : Bs) (S H : Hp) (env : En) (σ : St) (Q : En → List R → Prop) (Qv : List V → Hp → Prop), SR X.K B S H env σ → m env Q →
  (∀ vs H' S' env' rs, TPo X.K B S H env σ S' H' env' → LkA X.K B S' H' vs rs → vs.length = es.length → Q env' rs → Qv vs H') → t σ H Qv
def dNil : DAM := fun env Q => Q env []
def dCons (m : DM) (n : DAM) : DAM := fun env Q => m env fun env1 r => n env1 fun env2 rs => Q env2 (r :: rs)
theorem da_nil : DA X [] dNil tNil := ⟨pa_nil, fun B S H env σ Q Qv s q k => k [] H S env [] (.refl s) .nil rfl q⟩
theorem da_cons {es : List Expr} {n : DAM} {tn : TA} (ha : DE X a ma ta) (hb : DA X es n tn) (hs : starEach (a :: es) X.env = (false, eval a X.env) :: starEach es X.env := by rfl) : DA X (a :: es) (dCons ma n) (tCons ta tn) := by
  obtain ⟨a1, a2⟩ := ha
  obtain ⟨b1, b2⟩ := hb
  refine ⟨pa_cons a1 b1 hs, fun B S H env σ Q Qv s q k => ?_⟩
  refine a2 B S H env σ _ _ s q fun x H1 S1 env1 r1 e1 q1 => ?_
  refine b2 B S1 H1 env1 σ _ _ e1.sr q1 fun vs H2 S2 env2 rs e2 l2 len2 q2 => ?_
  refine k _ H2 S2 env2 _ (e1.t.trans e2) (.cons (RepB.go e1 rfl e2) (fun d e => ?_) (fun e => ?_) l2) (by rw [List.length_cons, List.length_cons, len2]) q2
  · subst e
    have := e1.res
    exact Rep.mono e2.go.ex this
  · subst e
    exact e1.res
/-- plain values -/
def vals : List R → Option (List D)
  | [] => some []
  | .val d :: r => (vals r).map (d :: ·)
  | _ => none
theorem LkA.vals {K : PySem.W.Frag} {B : Bs} {S H : Hp} : ∀ {vs : List V} {rs : List R} {ds : List D}, LkA K B S H vs rs → vals rs = some ds → Reps K S vs ds
  | _, _, ds, .nil, e => by
    cases e
    exact .nil
  | _, _, ds, .cons (r := r) (rs := rs) h k p t, e => by
    cases r with
    | val d =>
      have e' : (DL.vals rs).map (d :: ·) = some ds := e
      cases q : DL.vals rs with
      | none =>
        rw [q] at e'
        cases e'
      | some l =>
        rw [q] at e'
        cases e'
        exact .cons (k d rfl) (LkA.vals t q)
    | own l => cases e
    | brw i l => cases e
    | pool => cases e
theorem LkA.repBs {K : PySem.W.Frag} {B : Bs} {S H : Hp} : ∀ {vs : List V} {rs : List R}, LkA K B S H vs rs → RepBs K S H vs (rs.map R.data)
  | _, _, .nil => .nil
  | _, _, .cons h k p t => .cons h (LkA.repBs t)
def dTup (n : DAM) : DM := fun env Q => n env fun env' rs => ∃ ds, vals rs = some ds ∧ ds.length ≤ sizeLine ∧ Q env' (.val (.tup ds))
def dLst (n : DAM) : DM := fun env Q => n env fun env' rs => ∃ ds, vals rs = some ds ∧ ds.length ≤ sizeLine ∧ Q env' (.own ds)
def dCB (m : MA) (n : DAM) : DM := fun env Q => n env fun env' rs => m (rs.map R.data) fun q => Q env' q
theorem de_tup {es : List Expr} {x1} {n : DAM} {tn : TA} (h : DA X es n tn) : DE X (.Tuple es x1 pos) (dTup n) (tTup tn) := by
  obtain ⟨a1, a2⟩ := h
  refine ⟨pe_tup a1, fun B S H env σ Q Qv s q k => ?_⟩
  refine a2 B S H env σ _ _ s q fun vs H1 S1 env1 rs e1 l1 _ q1 => ?_
  obtain ⟨ds, h1, h2, h3⟩ := q1
  have r := l1.vals h1
  refine ⟨by rw [r.length]; exact h2, fun p hp => ?_⟩
  have n := Nw.add e1.sr.ex (o := .tup vs) hp
  exact k _ _ _ env1 (.val (.tup ds)) (EPo.fin e1 (q := .val (.tup ds)) ⟨n, .tup (SqT.of upd_same) (r.mono n.ex)⟩) h3
theorem de_lst {es : List Expr} {n : DAM} {tn : TA} (h : DA X es n tn) : DE X (.List es pos) (dLst n) (tLst tn) := by
  obtain ⟨a1, a2⟩ := h
  refine ⟨pe_lst a1, fun B S H env σ Q Qv s q k => ?_⟩
  refine a2 B S H env σ _ _ s q fun vs H1 S1 env1 rs e1 l1 _ q1 => ?_
  obtain ⟨ds, h1, h2, h3⟩ := q1
  have r := l1.vals h1
  refine ⟨by rw [r.length]; exact h2, fun p hp => ?_⟩
  have n := Nw.hid e1.sr.ex (o := .lst vs) hp
  exact k _ _ _ env1 (.own ds) (EPo.fin e1 (q := .own ds) ⟨n, p, vs, rfl, hp, e1.sr.sp0 hp, upd_same, r⟩) h3
theorem de_callB {id : String} {r : List V → Hp → VK → Prop} {m : MA} {x : Str} {p : Pos} {es : List Expr} {n : DAM} {tn : TA} (hc : CallR X (.builtin id) r) (hd : CallD X.K r m) (hg : Gl X x) (hm : X.mg x = none) (hv : bootBuiltins x = some (.builtin id)) (ha : DA X (a :: es) n tn)
    (hn : x ≠ "__name__" := by decide) (hdb : (x == ("__debug__" : Str)) = false := by decide)
    (he : starEach (a :: es) X.env = (false, eval a X.env) :: starEach es X.env := by rfl) (hpl : (backTo pos (starEach es X.env)).any (·.1) = false := by rfl) : DE X (.Call (.Name x p) (a :: es) [] pos) (dCB m n) (tCB r tn) := by
  obtain ⟨a1, a2⟩ := ha
  refine ⟨pe_callB hc hg hm hv a1 hn hdb he hpl, fun B S H env σ Q Qv s q k => ?_⟩
  refine a2 B S H env σ _ _ s q fun vs H1 S1 env1 rs e1 l1 _ q1 => ?_
  exact hd S1 H1 vs _ _ _ e1.sr.ex l1.repBs q1 fun v H3 S3 q n q3 => k v H3 S3 env1 q (.fin e1 n) q3
theorem de_callTy {T : String} {r : List V → Hp → VK → Prop} {m : MA} {x : Str} {p : Pos} {es : List Expr} {n : DAM} {tn : TA} (hc : CallR X (.type T) r) (hd : CallD X.K r m) (hg : Gl X x) (hm : X.mg x = none) (hv : bootBuiltins x = some (.type T)) (ha : DA X (a :: es) n tn)
    (hn : x ≠ "__name__" := by decide) (hdb : (x == ("__debug__" : Str)) = false := by decide)
    (he : starEach (a :: es) X.env = (false, eval a X.env) :: starEach es X.env := by rfl) (hpl : (backTo pos (starEach es X.env)).any (·.1) = false := by rfl) : DE X (.Call (.Name x p) (a :: es) [] pos) (dCB m n) (tCB r tn) := by
  obtain ⟨a1, a2⟩ := ha
  refine ⟨pe_callTy hc hg hm hv a1 hn hdb he hpl, fun B S H env σ Q Qv s q k => ?_⟩
  refine a2 B S H env σ _ _ s q fun vs H1 S1 env1 rs e1 l1 _ q1 => ?_
  exact hd S1 H1 vs _ _ _ e1.sr.ex l1.repBs q1 fun v H3 S3 q n q3 => k v H3 S3 env1 q (.fin e1 n) q3
end
end DL
end

section
set_option Elab.async false
set_option linter.all false
set_option maxRecDepth 100000
set_option maxHeartbeats 4000000
namespace DL
open PySem L2
open Evl (Ex)

/-- what an error tells: its class, its field, the field's data -/
structure Xd where
  C : Addr
  a : Str
  v : D
/-- the weakest wish of what leaves X -/
def wk (X : Cx) : WX := fun cls d σ H => ∀ u s', L2N.XE X (fun c' d' σ' H' => c' = cls ∧ d' = d ∧ σ' = σ ∧ H' = H) u s' → X.xe u s'
theorem takes_wk {X : Cx} : L2N.Takes X (wk X) := fun u s' ⟨a, B, sI, pins, σ, H, cls, d, e, I, nb, up, sky, na, os, ag, w⟩ => w u s' ⟨a, B, sI, pins, σ, H, cls, d, e, I, nb, up, sky, na, os, ag, rfl, rfl, rfl, rfl⟩
theorem wk_of {X : Cx} {W : WX} (t : L2N.Takes X W) {cls : Value} {d : Option Addr} {σ : L2.St} {H : Hp} (h : W cls d σ H) : wk X cls d σ H := fun u s' ⟨a, B, sI, pins, σ', H', cls', d', e, I, nb, up, sky, na, os, ag, w⟩ => by
  obtain ⟨rfl, rfl, rfl, rfl⟩ := w
  exact t u s' ⟨a, B, sI, pins, σ', H', cls', d', e, I, nb, up, sky, na, os, ag, h⟩
structure DEn where
  nx : En → Prop
  rt : En → R → Prop
  bk : En → Prop := fun _ => False
  ct : En → Prop := fun _ => False
  xc : Xd → Prop := fun _ => False
/-- what a def hands back -/
def RetR (K : PySem.W.Frag) (B : Bs) (S H : Hp) : R → V → Prop
  | .val d, v => Rep K S v d
  | .own l, v => ∃ p vs, v = .ref p ∧ S p = none ∧ B.H0 p = none ∧ H p = some (.lst vs) ∧ Reps K S vs l
  | .pool, v => ∃ a, B.pa = some a ∧ v = .ref a
  | .brw _ _, _ => False
/-- an error leaves -/
def XcOk (X : Cx) (B : Bs) (σ : L2.St) (Qx : Xd → Prop) : Prop := ∀ S H env d x v, SR X.K B S H env σ → B.H0 d = none → S d = none → H d = some (.xd [(x.a, v)]) → Rep X.K S v x.v → Qx x → wk X (.ref x.C) (some d) σ H
structure EndOk (X : Cx) (B : Bs) (E : DEn) (D : Ends) : Prop where
  nx : ∀ S H env σ, SR X.K B S H env σ → E.nx env → D.nx σ H
  rt : ∀ S H env σ r v, SR X.K B S H env σ → RetR X.K B S H r v → E.rt env r → D.rt v H
  bk : ∀ S H env σ, SR X.K B S H env σ → E.bk env → D.bk σ H
  ct : ∀ S H env σ, SR X.K B S H env σ → E.ct env → D.ct σ H
  xc : ∀ σ, XcOk X B σ E.xc := by intro _ _ _ _ _ _ _ _ _ _ _ _ z; exact z.elim
abbrev DSM := DEn → En → Prop
def DS (X : Cx) (st : Stmt) (m : DSM) (t : TS) : Prop := PS X st t ∧ ∀ (B : Bs) (S H : Hp) (env : En) (σ : St) (E : DEn) (D : Ends), SR X.K B S H env σ → m E env → EndOk X B E D → t D σ H
def DSs (X : Cx) (st : List Stmt) (m : DSM) (t : TS) : Prop := PSs X st t ∧ ∀ (B : Bs) (S H : Hp) (env : En) (σ : St) (E : DEn) (D : Ends), SR X.K B S H env σ → m E env → EndOk X B E D → t D σ H

/-! ### stores -/
def R.nv : R → Option Nv
  | .val d => some (.val d)
  | .own l => some (.own l)
  | .pool => some .pool
  | .brw _ _ => none
section
variable {K : PySem.W.Frag} {B : Bs} {S H S' H' : Hp} {env env' : En} {σ : St}
theorem set_self {env : En} {i : Nat} {n : Option Nv} {m : Nv} (h : Has (env.set i n) i m) : n = some m := by
  have hi : i < (env.set i n).length := (List.getElem?_eq_some_iff.mp h).1
  rw [List.length_set] at hi
  have q : (env.set i n)[i]? = some (some m) := h
  rw [List.getElem?_set_self hi] at q
  exact Option.some.inj q
theorem set_other {env : En} {i j : Nat} {n : Option Nv} {m : Nv} (h : Has (env.set i n) j m) (c : j ≠ i) : Has env j m := (List.getElem?_set_ne (Ne.symm c)).symm.trans h
theorem sset_self {σ : St} {i : Nat} {v : V} (h : i < σ.length) : Slt (σ.set i (some v)) i v := List.getElem?_set_self h
theorem sset_other {σ : St} {i j : Nat} {n : Option V} {v : V} (c : j ≠ i) : Slt (σ.set i n) j v ↔ Slt σ j v := by
  show (σ.set i n)[j]? = _ ↔ σ[j]? = _
  rw [List.getElem?_set_ne (Ne.symm c)]
/-- a name takes what an expression gave -/
theorem SR.store {i : Nat} {n : Option Nv} {v : V} (s : SR K B S H env σ) (hv : ∀ d, n = some (.val d) → Rep K S v d)
    (ho : ∀ l, n = some (.own l) → ∃ p vs, v = .ref p ∧ S p = none ∧ B.H0 p = none ∧ H p = some (.lst vs) ∧ Reps K S vs l ∧ (∀ j m, j ≠ i → Has env j (.own m) → ¬ Slt σ j (.ref p)) ∧ ∀ j m, ¬ Has env j (.fix p m)) (hp : n = some .pool → ∃ a, B.pa = some a ∧ v = .ref a) (hf : ∀ q m, n ≠ some (.fix q m) := by intro q m e; cases e) :
    SR K B S H (env.set i n) (σ.set i (some v)) := by
  have hl : ∀ j (m : Nv), Has (env.set i n) j m → j < σ.length := fun j m h => by
    have q := (List.getElem?_eq_some_iff.mp h).1
    rw [List.length_set] at q
    exact s.len ▸ q
  refine ⟨s.ex0, s.nw0, s.keep0, s.old0, by rw [List.length_set, List.length_set]; exact s.len, s.ex, fun j d h => ?_, fun j l h => ?_, fun j k l m p h1 h2 h3 h4 => ?_, fun j h => ?_, s.pool, fun j q m h => ?_, fun j k q m n h1 h2 h3 => ?_, fun j k q m n h1 h2 => ?_, s.pin⟩
  · by_cases c : j = i
    · subst c
      exact ⟨v, sset_self (hl _ _ h), hv d (set_self h)⟩
    · obtain ⟨w, q1, q2⟩ := s.val j d (set_other h c)
      exact ⟨w, (sset_other c).mpr q1, q2⟩
  · by_cases c : j = i
    · subst c
      obtain ⟨p, vs, rfl, q1, q2, q3, q4, _⟩ := ho l (set_self h)
      exact ⟨p, vs, sset_self (hl _ _ h), q1, q2, q3, q4⟩
    · obtain ⟨p, vs, q1, q2⟩ := s.own j l (set_other h c)
      exact ⟨p, vs, (sset_other c).mpr q1, q2⟩
  · by_cases c : j = i
    · subst c
      by_cases c2 : k = j
      · exact c2.symm
      · obtain ⟨q, vs, rfl, q1, q2, q3, q4, q5⟩ := ho l (set_self h1)
        cases Slt.ref h3 (sset_self (hl _ _ h1))
        exact absurd ((sset_other c2).mp h4) (q5.1 k m c2 (set_other h2 c2))
    · by_cases c2 : k = i
      · subst c2
        obtain ⟨q, vs, rfl, q1, q2, q3, q4, q5⟩ := ho m (set_self h2)
        cases Slt.ref h4 (sset_self (hl _ _ h2))
        exact absurd ((sset_other c).mp h3) (q5.1 j l c (set_other h1 c))
      · exact s.dis j k l m p (set_other h1 c) (set_other h2 c2) ((sset_other c).mp h3) ((sset_other c2).mp h4)
  · by_cases c : j = i
    · subst c
      obtain ⟨a, e1, e2⟩ := hp (set_self h)
      subst e2
      exact ⟨a, e1, sset_self (hl _ _ h)⟩
    · obtain ⟨a, e1, e2⟩ := s.pl j (set_other h c)
      exact ⟨a, e1, (sset_other c).mpr e2⟩
  · have c : j ≠ i := fun z => by
      subst z
      exact hf q m (set_self h)
    obtain ⟨k1, k2⟩ := s.fix j q m (set_other h c)
    exact ⟨(sset_other c).mpr k1, k2⟩
  · have c : j ≠ i := fun z => by
      subst z
      exact hf q m (set_self h1)
    by_cases c2 : k = i
    · subst c2
      obtain ⟨p, vs, rfl, _, _, _, _, _, nf⟩ := ho n (set_self h2)
      cases Slt.ref h3 (sset_self (hl _ _ h2))
      exact nf j m (set_other h1 c)
    · exact s.dfx j k q m n (set_other h1 c) (set_other h2 c2) ((sset_other c2).mp h3)
  · have c : j ≠ i := fun z => by
      subst z
      exact hf q m (set_self h1)
    have c2 : k ≠ i := fun z => by
      subst z
      exact hf q n (set_self h2)
    exact s.dff j k q m n (set_other h1 c) (set_other h2 c2)
theorem SR.storeD {i : Nat} {d : D} {v : V} (s : SR K B S H env σ) (h : Rep K S v d) : SR K B S H (env.set i (some (.val d))) (σ.set i (some v)) :=
  s.store (fun d' e => by cases e; exact h) (fun l e => by cases e) fun e => by cases e
/-- a name is forgotten -/
theorem SR.drop {i : Nat} {n : Option V} (s : SR K B S H env σ) : SR K B S H (env.set i none) (σ.set i n) := by
  have ne : ∀ j (m : Nv), Has (env.set i none) j m → j ≠ i := fun j m h c => by
    subst c
    exact nomatch set_self h
  exact ⟨s.ex0, s.nw0, s.keep0, s.old0, by rw [List.length_set, List.length_set]; exact s.len, s.ex,
    fun j d h => let ⟨w, q1, q2⟩ := s.val j d (set_other h (ne j _ h)); ⟨w, (sset_other (ne j _ h)).mpr q1, q2⟩,
    fun j l h => let ⟨p, vs, q1, q2⟩ := s.own j l (set_other h (ne j _ h)); ⟨p, vs, (sset_other (ne j _ h)).mpr q1, q2⟩,
    fun j k l m p h1 h2 h3 h4 => s.dis j k l m p (set_other h1 (ne j _ h1)) (set_other h2 (ne k _ h2)) ((sset_other (ne j _ h1)).mp h3) ((sset_other (ne k _ h2)).mp h4),
    fun j h => let ⟨a, e1, e2⟩ := s.pl j (set_other h (ne j _ h)); ⟨a, e1, (sset_other (ne j _ h)).mpr e2⟩, s.pool,
    fun j q m h => let ⟨k1, k2⟩ := s.fix j q m (set_other h (ne j _ h)); ⟨(sset_other (ne j _ h)).mpr k1, k2⟩,
    fun j k q m n h1 h2 h3 => s.dfx j k q m n (set_other h1 (ne j _ h1)) (set_other h2 (ne k _ h2)) ((sset_other (ne k _ h2)).mp h3),
    fun j k q m n h1 h2 => s.dff j k q m n (set_other h1 (ne j _ h1)) (set_other h2 (ne k _ h2)), s.pin⟩
/-- an own list is written -/
theorem SR.put {i : Nat} {l l' : List D} {p : Addr} {vs' : List V} (s : SR K B S H env σ) (h : Has env i (.own l)) (hp : Slt σ i (.ref p)) (r : Reps K S vs' l') : SR K B S (upd H p (.lst vs')) (env.set i (some (.own l'))) σ := by
  obtain ⟨q, vs, h1, h2, h3, h4, h5⟩ := s.own i l h
  cases Slt.ref hp h1
  have hi : i < env.length := (List.getElem?_eq_some_iff.mp h).1
  have npa : ∀ a, B.pa = some a → a ≠ p := fun a e c => by
    obtain ⟨_, o, q⟩ := s.pool a e
    rw [c, h3] at q
    cases q
  refine ⟨s.ex0, s.nw0, fun a o e c => ?_, fun a e => ?_, by rw [List.length_set]; exact s.len, fun a o e => ?_, fun j d e => ?_, fun j m e => ?_, fun j k m n q e1 e2 e3 e4 => ?_, fun j e => ?_, fun a e => ?_, fun j q m e => ?_, fun j k q m n e1 e2 e3 => ?_, fun j k q m n e1 e2 => ?_, fun a e => by rw [upd_ne (npa a e)]; exact s.pin a e⟩
  · rw [upd_ne (fun z => by rw [z, h3] at e; cases e)]
    exact s.keep0 a o e c
  · by_cases z : a = p
    · subst z
      exact h3
    · rw [upd_ne z] at e
      exact s.old0 a e
  · rw [upd_ne (fun z => by rw [z, h2] at e; cases e)]
    exact s.ex a o e
  · by_cases z : j = i
    · subst z
      exact nomatch set_self e
    · exact s.val j d (set_other e z)
  · by_cases z : j = i
    · subst z
      cases set_self e
      exact ⟨p, vs', hp, h2, h3, upd_same, r⟩
    · obtain ⟨q, ws, q1, q2, q3, q4, q5⟩ := s.own j m (set_other e z)
      refine ⟨q, ws, q1, q2, q3, ?_, q5⟩
      rw [upd_ne (fun c => z (s.dis j i m l p (set_other e z) h (by rw [← c]; exact q1) hp))]
      exact q4
  · have own' : ∀ j m, Has (env.set i (some (.own l'))) j (.own m) → ∃ m', Has env j (.own m') := fun j m e => by
      by_cases z : j = i
      · subst z
        exact ⟨l, h⟩
      · exact ⟨m, set_other e z⟩
    obtain ⟨m', e1'⟩ := own' j m e1
    obtain ⟨n', e2'⟩ := own' k n e2
    exact s.dis j k m' n' q e1' e2' e3 e4
  · by_cases z : j = i
    · subst z
      exact nomatch set_self e
    · exact s.pl j (set_other e z)
  · obtain ⟨⟨y, l', cells, pos, big, seed, cnt, bud, k1, k2, k3⟩, o⟩ := s.pool a e
    exact ⟨⟨y, l', cells, pos, big, seed, cnt, bud, (upd_ne (npa a e)).trans k1, k2, k3⟩, o⟩
  · have c : j ≠ i := fun z => by
      subst z
      cases set_self e
    obtain ⟨k1, k2, k3, ws, k4, k5⟩ := s.fix j q m (set_other e c)
    refine ⟨k1, k2, k3, ws, ?_, k5⟩
    rw [upd_ne (fun z => s.dfx j i q m l (set_other e c) h (by rw [z]; exact hp))]
    exact k4
  · have c : j ≠ i := fun z => by
      subst z
      cases set_self e1
    by_cases z : k = i
    · subst z
      exact s.dfx j k q m l (set_other e1 c) h e3
    · exact s.dfx j k q m n (set_other e1 c) (set_other e2 z) e3
  · have c : j ≠ i := fun z => by
      subst z
      cases set_self e1
    have c2 : k ≠ i := fun z => by
      subst z
      cases set_self e2
    exact s.dff j k q m n (set_other e1 c) (set_other e2 c2)
/-- another start: what is known now -/
theorem SR.base {S1 H1 : Hp} {env1 : En} {σ1 : St} (s1 : SR K B S1 H1 env1 σ1) : SR K ⟨S1, B.H0, B.pa⟩ S1 H1 env1 σ1 :=
  ⟨Ex.refl _, fun _ _ _ e => e, s1.keep0, s1.old0, s1.len, s1.ex, s1.val, s1.own, s1.dis, s1.pl, s1.pool, s1.fix, s1.dfx, s1.dff, s1.pin⟩
theorem SR.unbase {S1 H1 : Hp} {env1 : En} {σ1 : St} (s1 : SR K B S1 H1 env1 σ1) (s : SR K ⟨S1, B.H0, B.pa⟩ S H env σ) : SR K B S H env σ :=
  ⟨s1.ex0.trans s.ex0, fun a o h e => s.nw0 a o h (s1.nw0 a o h e), s.keep0, s.old0, s.len, s.ex, s.val, s.own, s.dis, s.pl, s.pool, s.fix, s.dfx, s.dff, s.pin⟩
theorem EndOk.base {S1 H1 : Hp} {env1 : En} {σ1 : St} {X : Cx} {E : DEn} {D : Ends} (s1 : SR X.K B S1 H1 env1 σ1) (e : EndOk X B E D) : EndOk X ⟨S1, B.H0, B.pa⟩ E D :=
  ⟨fun S H env σ s h => e.nx S H env σ (s1.unbase s) h, fun S H env σ r v s q h => e.rt S H env σ r v (s1.unbase s) (by cases r <;> exact q) h, fun S H env σ s h => e.bk S H env σ (s1.unbase s) h, fun S H env σ s h => e.ct S H env σ (s1.unbase s) h, fun σ S H env d x v s h0 h1 h r q => e.xc σ S H env d x v (s1.unbase s) h0 h1 h r q⟩
end

/-! ### small statements -/
def dNext : DSM := fun E env => E.nx env
def dSeq (m n : DSM) : DSM := fun E env => m { E with nx := n E } env
def dDrop (m : DM) : DSM := fun E env => m env fun env' _ => E.nx env'
def dSet (i : Nat) (m : DM) : DSM := fun E env => m env fun env' r => match r with
  | .val d => E.nx (env'.set i (some (.val d)))
  | .own l => E.nx (env'.set i (some (.own l)))
  | .brw j l => E.nx ((env'.set j (some (.val (.lst l)))).set i (some (.val (.lst l))))
  | .pool => E.nx (env'.set i (some .pool))
def dRet (m : DM) : DSM := fun E env => m env fun env' r => match r with
  | .val d => E.rt env' (.val d)
  | .own l => E.rt env' (.own l)
  | .brw _ l => E.rt env' (.own l)
  | .pool => E.rt env' .pool
def dRetN : DSM := fun E env => E.rt env (.val .non)
def dBrk : DSM := fun E env => E.bk env
def dCnt : DSM := fun E env => E.ct env
def dIfS (t : DTM) (m n : DSM) : DSM := fun E env => t env fun env1 c => dIte c (m E env1) (n E env1)
def dAug (i : Nat) (op : M2) (m : DM) : DSM := fun E env => ∃ x, Has env i (.val x) ∧ m env fun env1 r => op x r.data fun q => match q with
  | .val d => E.nx (env1.set i (some (.val d)))
  | _ => False
/-- name.append(e) -/
def dApp (i : Nat) (m : DM) : DSM := fun E env => match env[i]? with
  | some (some (.own _)) => dKeep m env fun env1 r => match r, env1[i]? with
    | .val d, some (some (.own l)) => l.length < sizeLine ∧ E.nx (env1.set i (some (.own (l ++ [d]))))
    | _, _ => False
  | _ => False
/-- name[e] = e2 -/
def dPut (i : Nat) (mi m : DM) : DSM := fun E env => dKeep m env fun env1 r => (∃ l0, Has env1 i (.own l0)) ∧ mi env1 fun env2 k => match r, k, env2[i]? with
  | .val d, .val (.int j), some (some (.own l)) => ∃ n, ixN l.length j = some n ∧ E.nx (env2.set i (some (.own (l.set n d))))
  | _, _, _ => False
def dNever : DSM := fun _ _ => False

section
variable {X : Cx} {a b c : Expr} {ma mb : DM} {pos : Pos} {st : Stmt} {rest sts : List Stmt} {m n : DSM} {ta tb : TE} {tc : TT} {tm tn : TS}
theorem dss_nil : DSs X [] dNext tNext := ⟨pss_nil, fun B S H env σ E D s q e => e.nx S H env σ s q⟩
theorem dss_cons (h : DS X st m tm) (k : DSs X rest n tn) : DSs X (st :: rest) (dSeq m n) (tSeq tm tn) := by
  obtain ⟨h1, h2⟩ := h
  obtain ⟨k1, k2⟩ := k
  exact ⟨pss_cons h1 k1, fun B S H env σ E D s q e => h2 B S H env σ { E with nx := n E } _ s q ⟨fun S' H' env' σ' s' q' => k2 B S' H' env' σ' E D s' q' e, e.rt, e.bk, e.ct, e.xc⟩⟩
theorem dss_one (h : DS X st m tm) : DSs X [st] m tm := by
  obtain ⟨h1, h2⟩ := h
  exact ⟨pss_one h1, h2⟩
theorem ds_pass : DS X (.Pass pos) dNext tNext := ⟨ps_pass, fun B S H env σ E D s q e => e.nx S H env σ s q⟩
theorem ds_break : DS X (.Break pos) dBrk tBreak := ⟨ps_break, fun B S H env σ E D s q e => e.bk S H env σ s q⟩
theorem ds_continue : DS X (.Continue pos) dCnt tCont := ⟨ps_continue, fun B S H env σ E D s q e => e.ct S H env σ s q⟩
theorem ds_never : DS X st dNever tNever := ⟨ps_never, fun B S H env σ E D s q e => q.elim⟩
theorem dss_never : DSs X sts dNever tNever := ⟨pss_never, fun B S H env σ E D s q e => q.elim⟩
theorem ds_expr (ha : DE X a ma ta) (hs : swapsWith a none pos.line X.env = pure false := by rfl) : DS X (.Expr a pos) (dDrop ma) (tDrop ta) := by
  obtain ⟨h1, h2⟩ := ha
  exact ⟨ps_expr h1 hs, fun B S H env σ E D s q e => h2 B S H env σ _ _ s q fun v H' S' env' r z q' => e.nx S' H' env' σ z.sr q'⟩
theorem ds_set {i : Nat} {x : Str} {pos' : Pos} (hN : X.N.Nodup) (hi : X.N[i]? = some x) (hx : Loc X.env.scope x) (ha : DE X a ma ta) (hs : swapsWith a (some (.Name x pos')) pos.line X.env = pure false := by rfl)
    (hf : X.fn x = true ∨ X.env.scope.names.lookup x = some .local := by first | exact .inl rfl | exact .inr rfl | assumption) : DS X (.Assign [.Name x pos'] a pos) (dSet i ma) (tAsg ta (gName i)) := by
  obtain ⟨h1, h2⟩ := ha
  refine ⟨ps_set hN hi hx h1 hs hf, fun B S H env σ E D s q e => h2 B S H env σ _ _ s q fun v H' S' env' r z q' => ?_⟩
  have zr := z.res
  cases r with
  | val d => exact e.nx S' H' _ _ (z.sr.storeD zr) q'
  | own l =>
    obtain ⟨p, vs, rfl, z1, z2, z3, z4, z5, z6⟩ := zr
    exact e.nx S' H' _ _ (z.sr.store (fun d e => by cases e) (fun l' e => by cases e; exact ⟨p, vs, rfl, z1, z2, z5, z6, fun j m _ h1 h2 => z4 (.inr (.inl ⟨j, m, h1, h2⟩)), fun j m h1 => z4 (.inr (.inr ⟨j, m, h1⟩))⟩) fun e => by cases e) q'
  | brw j l =>
    obtain ⟨p, rfl, z1, z2⟩ := zr
    obtain ⟨p', S2, y1, y2, y3⟩ := z.sr.frz z2
    cases Slt.ref z1 y1
    exact e.nx S2 H' _ _ (y2.sr.storeD y3) q'
  | pool =>
    obtain ⟨a, z1, rfl⟩ := zr
    exact e.nx S' H' _ _ (z.sr.store (fun d e => by cases e) (fun l' e => by cases e) fun _ => ⟨a, z1, rfl⟩) q'
theorem ds_ret (ha : DE X a ma ta) : DS X (.Return (some a) pos) (dRet ma) (tRet ta) := by
  obtain ⟨h1, h2⟩ := ha
  refine ⟨ps_ret h1, fun B S H env σ E D s q e => h2 B S H env σ _ _ s q fun v H' S' env' r z q' => ?_⟩
  have zr := z.res
  cases r with
  | val d => exact e.rt S' H' env' σ (.val d) v z.sr zr q'
  | own l =>
    obtain ⟨p, vs, rfl, z1, z2, z3, z4, z5, z6⟩ := zr
    exact e.rt S' H' env' σ (.own l) _ z.sr ⟨p, vs, rfl, z1, z2, z5, z6⟩ q'
  | brw j l =>
    obtain ⟨p, rfl, z1, z2⟩ := zr
    obtain ⟨p', vs, y1, y2, y3, y4, y5⟩ := z.sr.own j l z2
    cases Slt.ref z1 y1
    exact e.rt S' H' env' σ (.own l) _ z.sr ⟨p, vs, rfl, y2, y3, y4, y5⟩ q'
  | pool => exact e.rt S' H' env' σ .pool v z.sr zr q'
theorem ds_retN : DS X (.Return none pos) dRetN tRetN := ⟨ps_retN, fun B S H env σ E D s q e => e.rt S H env σ (.val .non) .non s .non q⟩
theorem ds_if {t : DTM} {p q : List Stmt} (hc : DT X c t tc) (h : DSs X p m tm) (k : DSs X q n tn) : DS X (.If c p q pos) (dIfS t m n) (tIfS tc tm tn) := by
  obtain ⟨c1, c2⟩ := hc
  obtain ⟨h1, h2⟩ := h
  obtain ⟨k1, k2⟩ := k
  refine ⟨ps_if c1 h1 k1, fun B S H env σ E D s q e => c2 B S H env σ _ _ s q fun b H1 S1 env1 z q1 => ?_⟩
  cases b with
  | true => exact h2 B S1 H1 env1 σ E D z.sr (dIte_t q1) e
  | false => exact k2 B S1 H1 env1 σ E D z.sr (dIte_f q1) e
theorem ds_aug {i : Nat} {x : Str} {op : Operator} {r : R2} {o : M2} {pos' : Pos} (hN : X.N.Nodup) (hi : X.N[i]? = some x) (hx : Loc X.env.scope x) (ha : DE X a ma ta) (ho : OpR X (inplaceOp op) r) (hd : OpD X.K r o)
    (hf : X.fn x = true ∨ X.env.scope.names.lookup x = some .local := by first | exact .inl rfl | exact .inr rfl | assumption) : DS X (.AugAssign (.Name x pos') op a pos) (dAug i o ma) (tAug i ta r) := by
  obtain ⟨h1, h2⟩ := ha
  refine ⟨ps_aug hN hi hx h1 (ti := r) (fun pins s σ H x y v u Q I => ho pins s σ H x y v u Q I) hf, fun B S H env σ E D s q e => ?_⟩
  obtain ⟨x, q1, q2⟩ := q
  obtain ⟨v, s1, s2⟩ := s.val i x q1
  refine ⟨v, s1, h2 B S H env σ _ _ s q2 fun w H' S' env' k z q' => ?_⟩
  refine hd S' H' v w _ _ _ _ z.sr.ex (.inl (s2.mono z.go.ex)) z.look1 q' fun u H2 S2 g n q2 => ?_
  split at q2
  · rename_i d
    exact e.nx S2 H2 _ _ ((z.sr.nw n.nw).storeD n.2) q2
  · exact q2.elim
theorem ds_app {i : Nat} {x : Str} {xp apos cpos : Pos} (hv : PE X (.Name x xp) (tVar i)) (ha : DE X a ma ta)
    (hbase : attributeBase (.Name x xp) "append" X.env (eval (.Name x xp) X.env) = eval (.Name x xp) X.env := by rfl)
    (hfew : ((backTo cpos (starEach (a :: []) X.env)).all (fun x => !x.1) && (backToKw cpos (keywordEach [] X.env)).all (fun x => x.1.isSome)
      && decide ((a :: []).length + ([] : List Keyword).length + (if ([] : List Keyword).isEmpty then 0 else 1) < 30)) = true := by rfl)
    (hline : (apos.endLine == cpos.line) = true := by rfl) (hs : starEach (a :: []) X.env = (false, eval a X.env) :: starEach [] X.env := by rfl) (hplain : (backTo cpos (starEach [] X.env)).any (·.1) = false := by rfl)
    (hsw : swapsWith (.Call (.Attribute (.Name x xp) "append" apos) [a] [] cpos) none pos.line X.env = pure false := by rfl) : DS X (.Expr (.Call (.Attribute (.Name x xp) "append" apos) [a] [] cpos) pos) (dApp i ma) (tDrop (tBM X.K "list" rAppend (tVar i) (tCons ta tNil))) := by
  obtain ⟨h1, h2⟩ := de_keep ha
  refine ⟨ps_expr (pe_bm PySem.F.plainAttrs_list PySem.F.slot_list_append PySem.F.type_list_append mt_append hv (pa_cons h1 pa_nil hs) hbase hfew hline hs hplain) hsw, fun B S H env σ E D s q e => ?_⟩
  unfold dApp at q
  split at q
  · rename_i l0 c0
    obtain ⟨p, vs, hp, p1, p2, p3, p4⟩ := s.own i l0 c0
    refine ⟨.ref p, hp, .inl ⟨rfl, _, SqL.of p3⟩, ?_⟩
    refine h2 B S H env σ _ _ s q fun v H' S' env' r z q' => ?_
    split at q'
    · rename_i d l c
      obtain ⟨p', ws, y1, y2, y3, y4, y5⟩ := z.sr.own i l c
      cases Slt.ref hp y1
      refine ⟨p, ws, v, rfl, rfl, y4, by rw [y5.length]; exact q'.1, ?_⟩
      exact e.nx S' _ _ σ (z.sr.put c hp (y5.append (.cons z.res .nil))) q'.2
    · exact q'.elim
  · exact q.elim
theorem ds_put {i : Nat} {x : Str} {xp tp : Pos} (hv : PE X (.Name x xp) (tVar i)) (hb : DE X b mb tb) (ha : DE X a ma ta)
    (hss : ∀ v, assign (.Subscript (.Name x xp) b tp) X.env v = (do
      let ov ← holding [v] (eval (.Name x xp) X.env)
      let iv ← holding [v, ov] (eval b X.env)
      standAt tp
      holding [v, ov, iv] (setItem ov iv v)
      release [v, ov, iv] []) := by intro _; rfl)
    (hs : swapsWithSole [.Subscript (.Name x xp) b tp] a pos.line X.env = pure false := by rfl) (hw : swappedStores [.Subscript (.Name x xp) b tp] a X.env = pure none := by rfl)
    (h1 : (assignEach [.Subscript (.Name x xp) b tp] X.env).map (·.2) = [assign (.Subscript (.Name x xp) b tp) X.env] := by rfl) : DS X (.Assign [.Subscript (.Name x xp) b tp] a pos) (dPut i mb ma) (tAsg ta (gSub (tVar i) tb rSetL)) := by
  obtain ⟨t1, t2⟩ := de_keep ha
  obtain ⟨u1, u2⟩ := hb
  refine ⟨ps_asg t1 (pg_sub hv u1 set_list hss) hs hw h1, fun B S H env σ E D s q e => ?_⟩
  refine t2 B S H env σ _ _ s q fun v H1 S1 env1 r z1 q1 => ?_
  obtain ⟨⟨l0, c0⟩, q1⟩ := q1
  obtain ⟨o, vs0, ho, _⟩ := z1.sr.own i l0 c0
  refine ⟨_, ho, u2 B S1 H1 env1 σ _ _ z1.sr q1 fun w H2 S2 env2 k z2 q2 => ?_⟩
  split at q2
  · rename_i d j l c
    obtain ⟨n, n1, n2⟩ := q2
    obtain ⟨p, vs, y1, y2, y3, y4, y5⟩ := z2.sr.own i l c
    have y1' := y1
    cases Slt.inj ho y1
    have e2 : w = .int j := by
      have := z2.res
      have h' : Rep X.K S2 w (.int j) := this
      cases h'
      rfl
    refine ⟨_, vs, j, n, rfl, e2, y4, by rw [y5.length]; exact n1, ?_⟩
    have r1 : Rep X.K S1 v d := z1.res
    exact e.nx S2 _ _ σ (z2.sr.put c y1' (y5.set n (r1.mono z2.go.ex))) n2
  · exact q2.elim
end
end DL
end

section
set_option Elab.async false
set_option linter.all false
set_option maxRecDepth 100000
set_option maxHeartbeats 4000000
namespace L2
open PySem PySem.Spec PyProof.Rows
section
variable {X : Cx} {tg : Expr}
/-- a list or a tuple, walked -/
def iSeq (K : PySem.W.Frag) (tl : TE) : TI := fun σ H R => tl σ H fun x H1 => ∃ a, x = .ref a ∧ (((∃ xs, SqL K H1 a xs) ∧ R (Itl K a) H1) ∨ ((∃ xs, SqT K H1 a xs) ∧ R (Itt K a) H1))
theorem pi_seq {l : Expr} {tl : TE} (hl : PE X l tl) : PI X tg l (iSeq X.K tl) := by
  refine ⟨fun pins s σ H R I h => ?_⟩
  refine thn (hl.run pins s σ H _ I h) fun v s1 ⟨x, H1, I1, r1, q1⟩ => ?_
  obtain ⟨a, e, q⟩ := q1
  subst e
  cases r1
  rcases q with ⟨⟨xs, hq⟩, q⟩ | ⟨⟨xs, hq⟩, q⟩
  · obtain ⟨its, rv, p, hz⟩ := I1.list hq
    refine wpAny_pyIter_list p.isList ?_
    refine ⟨s1.heap.objs.size, [s1.heap.objs.size], _, _, H1, rfl, I1.kept (t' := s1.toks) fun b o e => Heap.get?_push_of_some _ e, turn_list a _, ⟨_, Heap.get?_push_size _ rfl, rfl, rfl⟩, fun b hb => ?_, q⟩
    have e : b = s1.heap.objs.size := by simpa using hb
    subst e
    exact I1.fpOk (Nat.le_refl _) (I1.hok.fresh (Nat.le_refl _))
  · obtain ⟨its, rv, p, hz⟩ := I1.tuple hq
    refine wpAny_pyIter_tuple (show s1.heap.IsTuple a its.toArray from p) ?_
    refine ⟨s1.heap.objs.size, [s1.heap.objs.size], _, _, H1, rfl, I1.kept (t' := s1.toks) fun b o e => Heap.get?_push_of_some _ e, turn_tuple a _, ⟨_, Heap.get?_push_size _ rfl, rfl, rfl⟩, fun b hb => ?_, q⟩
    have e : b = s1.heap.objs.size := by simpa using hb
    subst e
    exact I1.fpOk (Nat.le_refl _) (I1.hok.fresh (Nat.le_refl _))
end
end L2
namespace DL
open PySem L2
open Evl (Ex)

/-! ### what a loop walks -/
structure ItD (K : PySem.W.Frag) (J : It) (S : Hp) (ds : List D) : Prop where
  go : ∀ i, i < ds.length → ∀ S' H', Ex S S' → Ex S' H' → J.go i H'
  yld : ∀ i d, ds[i]? = some d → ∀ S' H' x H'', Ex S S' → Ex S' H' → J.yld i H' x H'' → ∃ S'', Nw S' H' S'' H'' ∧ Rep K S'' x d
  stop : ∀ S' H', Ex S S' → Ex S' H' → J.stop ds.length H'
abbrev DIM := En → (En → List D → Prop) → Prop
def DI (X : Cx) (tg iter : Expr) (mi : DIM) (wi : TI) : Prop := PI X tg iter wi ∧ ∀ (B : Bs) (S H : Hp) (env : En) (σ : St) (Q : En → List D → Prop) (R : It → Hp → Prop), SR X.K B S H env σ → mi env Q →
  (∀ J H' S' env' ds, TPo X.K B S H env σ S' H' env' → ItD X.K J S' ds → Q env' ds → R J H') → wi σ H R
def itemsOf : D → Option (List D)
  | .lst l => some l
  | .tup l => some l
  | _ => none
/-- over a list or a tuple -/
def dOver (m : DM) : DIM := fun env Q => dKeep m env fun env' r => match r with
  | .val (.lst l) => Q env' l
  | .val (.tup l) => Q env' l
  | _ => False
def rangeD (lo hi : Int) : List D := (List.range (hi - lo).toNat).map fun k => .int (lo + (k : Nat))
def dRng1 (m : DM) : DIM := fun env Q => m env fun env' r => match r with
  | .val (.int j) => -(2 ^ 62) ≤ j ∧ j < 2 ^ 62 ∧ Q env' (rangeD 0 j)
  | _ => False
def dRng2 (m n : DM) : DIM := fun env Q => m env fun env1 r => n env1 fun env2 q => match r, q with
  | .val (.int i), .val (.int j) => (-(2 ^ 62) ≤ i ∧ i < 2 ^ 62 ∧ -(2 ^ 62) ≤ j ∧ j < 2 ^ 62) ∧ Q env2 (rangeD i j)
  | _, _ => False
section
variable {X : Cx} {tg a b : Expr} {ma mb : DM} {pos : Pos} {ta tb : TE} {tc : TT} {tm : TS}
theorem ItD.list {K : PySem.W.Frag} {S : Hp} {p : Addr} {vs : List V} {ds : List D} (h : SqL K S p vs) (r : Reps K S vs ds) : ItD K (Itl K p) S ds :=
  ⟨fun i hi S' H' e1 e2 => ⟨vs, vs[i]'(by rw [r.length]; exact hi), Evl.ex_l (e1.trans e2) h, List.getElem?_eq_getElem _⟩,
   fun i d hd S' H' x H'' e1 e2 y => by
    obtain ⟨rfl, y⟩ := y
    obtain ⟨v, h1, h2⟩ := r.get hd
    have q := y vs (Evl.ex_l (e1.trans e2) h)
    rw [h1] at q
    cases q
    exact ⟨S', .refl e2, h2.mono e1⟩,
   fun S' H' e1 e2 => ⟨vs, Evl.ex_l (e1.trans e2) h, by rw [r.length]; exact Nat.le_refl _⟩⟩
theorem ItD.tup {K : PySem.W.Frag} {S : Hp} {p : Addr} {vs : List V} {ds : List D} (h : SqT K S p vs) (r : Reps K S vs ds) : ItD K (Itt K p) S ds :=
  ⟨fun i hi S' H' e1 e2 => ⟨vs, vs[i]'(by rw [r.length]; exact hi), Evl.ex_t (e1.trans e2) h, List.getElem?_eq_getElem _⟩,
   fun i d hd S' H' x H'' e1 e2 y => by
    obtain ⟨rfl, y⟩ := y
    obtain ⟨v, h1, h2⟩ := r.get hd
    have q := y vs (Evl.ex_t (e1.trans e2) h)
    rw [h1] at q
    cases q
    exact ⟨S', .refl e2, h2.mono e1⟩,
   fun S' H' e1 e2 => ⟨vs, Evl.ex_t (e1.trans e2) h, by rw [r.length]; exact Nat.le_refl _⟩⟩
theorem ItD.range {K : PySem.W.Frag} {S : Hp} (lo hi : Int) : ItD K (Itr lo (hi - lo).toNat) S (rangeD lo hi) := by
  have hl : (rangeD lo hi).length = (hi - lo).toNat := by unfold rangeD; simp
  refine ⟨fun i h S' H' _ _ => hl ▸ h, fun i d hd S' H' x H'' e1 e2 y => ?_, fun S' H' _ _ => Nat.le_of_eq hl.symm⟩
  obtain ⟨rfl, rfl⟩ := y
  have hi' : i < (hi - lo).toNat := hl ▸ (List.getElem?_eq_some_iff.mp hd).1
  have : d = .int (lo + (i : Nat)) := by
    have q : (rangeD lo hi)[i]? = some d := hd
    unfold rangeD at q
    simp [hi'] at q
    exact q.symm
  subst this
  exact ⟨S', .refl e2, .int _⟩
theorem di_over (ha : DE X a ma ta) : DI X tg a (dOver ma) (iSeq X.K ta) := by
  obtain ⟨h1, h2⟩ := de_keep ha
  refine ⟨pi_seq h1, fun B S H env σ Q R s q k => h2 B S H env σ _ _ s q fun v H' S' env' r z q' => ?_⟩
  split at q'
  · rename_i l
    have zr : Rep X.K S' v (.lst l) := z.res
    cases zr with
    | lst h r => exact ⟨_, rfl, .inl ⟨⟨_, SqL.of (z.sr.ex _ _ h)⟩, k _ H' S' env' l z.t (.list (SqL.of h) r) q'⟩⟩
  · rename_i l
    have zr : Rep X.K S' v (.tup l) := z.res
    cases zr with
    | tup h r => exact ⟨_, rfl, .inr ⟨⟨_, Evl.ex_t z.sr.ex h⟩, k _ H' S' env' l z.t (.tup h r) q'⟩⟩
  · exact q'.elim
theorem di_rng1 {p : Pos} (hg : Gl X "range") (hm : X.mg "range" = none) (ha : DE X a ma ta) (hs : starEach [a] X.env = [(false, eval a X.env)] := by rfl) : DI X tg (.Call (.Name "range" p) [a] [] pos) (dRng1 ma) (iRng1 (tCons ta tNil)) := by
  obtain ⟨h1, h2⟩ := ha
  refine ⟨pi_range1 hg hm (pa_cons h1 pa_nil (by rw [hs] <;> rfl)) hs, fun B S H env σ Q R s q k => h2 B S H env σ _ _ s q fun v H' S' env' r z q' => ?_⟩
  split at q'
  · rename_i j
    have zr : Rep X.K S' v (.int j) := z.res
    cases zr
    have d := ItD.range (K := X.K) (S := S') 0 j
    rw [Int.sub_zero] at d
    exact ⟨j, rfl, q'.1, q'.2.1, k _ H' S' env' _ z.t d q'.2.2⟩
  · exact q'.elim
theorem di_rng2 {p : Pos} (hg : Gl X "range") (hm : X.mg "range" = none) (ha : DE X a ma ta) (hb : DE X b mb tb) (hs : starEach [a, b] X.env = [(false, eval a X.env), (false, eval b X.env)] := by rfl) (hs2 : starEach [b] X.env = [(false, eval b X.env)] := by rfl) :
    DI X tg (.Call (.Name "range" p) [a, b] [] pos) (dRng2 ma mb) (iRng2 (tCons ta (tCons tb tNil))) := by
  obtain ⟨h1, h2⟩ := ha
  obtain ⟨k1, k2⟩ := hb
  refine ⟨pi_range2 hg hm (pa_cons h1 (pa_cons k1 pa_nil (by rw [hs2] <;> rfl)) (by rw [hs, hs2])) hs hs2, fun B S H env σ Q R s q k => h2 B S H env σ _ _ s q fun v H1 S1 env1 r z q1 => k2 B S1 H1 env1 σ _ _ z.sr q1 fun w H' S' env' g y q' => ?_⟩
  split at q'
  · rename_i i j
    have zr : Rep X.K S1 v (.int i) := z.res
    cases zr
    have yr : Rep X.K S' w (.int j) := y.res
    cases yr
    exact ⟨i, j, rfl, q'.1, k _ H' S' env' _ (z.t.trans y.t) (.range i j) q'.2⟩
  · exact q'.elim

/-! ### targets -/
abbrev DGM := D → En → (En → Prop) → Prop
def DG (X : Cx) (tg : Expr) (g : DGM) (t : TG) : Prop := PG X tg t ∧ ∀ (B : Bs) (S H : Hp) (env : En) (σ : St) (v : V) (d : D) (Q : En → Prop) (Qv : St → Hp → Prop), SR X.K B S H env σ → Rep X.K S v d → g d env Q →
  (∀ env' σ', SR X.K B S H env' σ' → Q env' → Qv σ' H) → t v σ H Qv
abbrev DGsM := List D → En → (En → Prop) → Prop
def DGs (X : Cx) (ts : List Expr) (g : DGsM) (t : TGs) : Prop := PGs X ts t ∧ ∀ (B : Bs) (S H : Hp) (env : En) (σ : St) (vs : List V) (ds : List D) (Q : En → Prop) (Qv : St → Hp → Prop), SR X.K B S H env σ → Reps X.K S vs ds → g ds env Q →
  (∀ env' σ', SR X.K B S H env' σ' → Q env' → Qv σ' H) → t vs σ H Qv
def dName (i : Nat) : DGM := fun d env Q => Q (env.set i (some (.val d)))
def dTNil : DGsM := fun ds env Q => match ds with
  | [] => Q env
  | _ => False
def dTCons (g : DGM) (h : DGsM) : DGsM := fun ds env Q => match ds with
  | d :: r => g d env fun env' => h r env' Q
  | [] => False
def dTg (n : Nat) (h : DGsM) : DGM := fun d env Q => match d with
  | .tup l => l.length = n ∧ h l env Q
  | _ => False
theorem dg_name {i : Nat} {x : Str} (hN : X.N.Nodup) (hi : X.N[i]? = some x) (hx : Loc X.env.scope x) (hf : X.fn x = true ∨ X.env.scope.names.lookup x = some .local := by first | exact .inl rfl | exact .inr rfl | assumption) : DG X (.Name x pos) (dName i) (gName i) :=
  ⟨pg_name hN hi hx hf, fun B S H env σ v d Q Qv s r q k => k _ _ (s.storeD r) q⟩
theorem dgs_nil : DGs X [] dTNil gNil := ⟨pgs_nil, fun B S H env σ vs ds Q Qv s r q k => by
  cases r with
  | nil => exact ⟨rfl, k env σ s q⟩
  | cons h r => exact q.elim⟩
theorem dgs_cons {e : Expr} {es : List Expr} {g : DGM} {h : DGsM} {tg1 : TG} {tg2 : TGs} (h1 : DG X e g tg1) (h2 : DGs X es h tg2) (hs : (assignEach (e :: es) X.env).map (·.2) = assign e X.env :: (assignEach es X.env).map (·.2) := by rfl) : DGs X (e :: es) (dTCons g h) (gCons tg1 tg2) := by
  obtain ⟨t1, t2⟩ := h1
  obtain ⟨u1, u2⟩ := h2
  refine ⟨pgs_cons t1 u1 hs, fun B S H env σ vs ds Q Qv s r q k => ?_⟩
  cases r with
  | nil => exact q.elim
  | cons r1 r2 => exact ⟨_, _, rfl, t2 B S H env σ _ _ _ _ s r1 q fun env' σ' s' q' => u2 B S H env' σ' _ _ _ _ s' r2 q' k⟩
theorem dg_tup {es : List Expr} {k : Nat} {h : DGsM} {n : Nat} (hc : X.calm = true) {tg2 : TGs} (hh : DGs X es h tg2) (hn : (assignEach es X.env).length = n := by rfl) (hst : (assignEach es X.env).findIdx? (·.1) = none := by rfl) : DG X (.Tuple es k pos) (dTg n h) (gTup X.K n tg2) := by
  obtain ⟨t1, t2⟩ := hh
  refine ⟨pg_tup hc t1 hn hst, fun B S H env σ v d Q Qv s r q k => ?_⟩
  unfold dTg at q
  split at q
  · rename_i l
    cases r with
    | tup h r => exact ⟨_, _, rfl, Evl.ex_t s.ex h, by rw [r.length]; exact q.1, t2 B S H env σ _ _ _ _ s r q.2 k⟩
  · exact q.elim
/-- targets = e -/
def dAsg (g : DGM) (m : DM) : DSM := fun E env => dKeep m env fun env' r => match r with
  | .val d => g d env' E.nx
  | _ => False
theorem ds_asg {g : DGM} {tg1 : TG} (ha : DE X a ma ta) (hg : DG X tg g tg1) (hs : swapsWithSole [tg] a pos.line X.env = pure false := by rfl) (hw : swappedStores [tg] a X.env = pure none := by rfl)
    (h1 : (assignEach [tg] X.env).map (·.2) = [assign tg X.env] := by rfl) : DS X (.Assign [tg] a pos) (dAsg g ma) (tAsg ta tg1) := by
  obtain ⟨t1, t2⟩ := de_keep ha
  obtain ⟨u1, u2⟩ := hg
  refine ⟨ps_asg t1 u1 hs hw h1, fun B S H env σ E D s q e => t2 B S H env σ _ _ s q fun v H' S' env' r z q' => ?_⟩
  split at q'
  · rename_i d
    exact u2 B S' H' env' σ v d _ _ z.sr z.res q' fun env2 σ2 s2 q2 => e.nx S' H' env2 σ2 s2 q2
  · exact q'.elim

/-! ### loops -/
def dLoop (g : DGM) (m : DSM) (E : DEn) : List D → En → Prop
  | [], env => E.nx env
  | d :: r, env => g d env fun env' => m { E with nx := dLoop g m E r, ct := dLoop g m E r, bk := E.nx } env'
def dFor (mi : DIM) (g : DGM) (m : DSM) : DSM := fun E env => mi env fun env' ds => dLoop g m E ds env'
theorem ds_for {iter : Expr} {body : List Stmt} {mi : DIM} {g : DGM} {m : DSM} {wi : TI} {tg1 : TG} (hp : PassesOwn (model X.prog X.w) X.A X.env X.xe) (hc : X.calm = true) (hi : DI X tg iter mi wi) (hg : DG X tg g tg1) (hb : DSs X body m tm)
    (hs : ∀ x, foldedSetIterable iter X.env x = pure x := by intro _; rfl) : DS X (.For tg iter body [] pos) (dFor mi g m) (tFor wi tg1 tm) := by
  obtain ⟨i1, i2⟩ := hi
  obtain ⟨g1, g2⟩ := hg
  obtain ⟨b1, b2⟩ := hb
  refine ⟨ps_for hp hc i1 g1 b1 hs, fun B S H env σ E D s q e => i2 B S H env σ _ _ s q fun J H1 S1 env1 ds z it q1 => ?_⟩
  have s1 := z.sr
  let B' : Bs := ⟨S1, B.H0, B.pa⟩
  have eb : EndOk X B' E D := e.base s1
  refine ⟨fun i m' σ' H' => m' = ds.length - i ∧ i ≤ ds.length ∧ ∃ S' env', SR X.K B' S' H' env' σ' ∧ dLoop g m E (ds.drop i) env', ⟨_, rfl, Nat.zero_le _, S1, env1, s1.base, q1⟩, ?_⟩
  rintro i m' σ' H' ⟨rfl, hi, S', env', s', l'⟩
  have ex1 : Ex S1 S' := s'.ex0
  by_cases c : i < ds.length
  · refine .inr ⟨it.go i c S' H' ex1 s'.ex, fun σ2 H2 => ∃ S2 env2, SR X.K B' S2 H2 env2 σ2 ∧ dLoop g m E (ds.drop (i + 1)) env2, fun σ2 H2 ⟨S2, env2, a1, a2⟩ => ⟨_, by omega, rfl, c, S2, env2, a1, a2⟩, fun x H2 y => ?_⟩
    have hd : ds[i]? = some ds[i] := List.getElem?_eq_getElem c
    obtain ⟨S2, n2, r2⟩ := it.yld i _ hd S' H' x H2 ex1 s'.ex y
    rw [List.drop_eq_getElem_cons c] at l'
    refine g2 B' S2 H2 env' σ' x _ _ _ (s'.nw n2) r2 l' fun env3 σ3 s3 q3 => ?_
    exact b2 B' S2 H2 env3 σ3 _ _ s3 q3 ⟨fun S4 H4 env4 σ4 s4 q4 => ⟨S4, env4, s4, q4⟩, eb.rt, fun S4 H4 env4 σ4 s4 q4 => eb.nx S4 H4 env4 σ4 s4 q4, fun S4 H4 env4 σ4 s4 q4 => ⟨S4, env4, s4, q4⟩, eb.xc⟩
  · have hi' : i = ds.length := by omega
    subst hi'
    rw [List.drop_length] at l'
    exact .inl ⟨it.stop S' H' ex1 s'.ex, eb.nx S' H' env' σ' s' l'⟩
def dWh (t : DTM) (m : DSM) (E : DEn) : Nat → En → Prop
  | 0, _ => False
  | n + 1, env => t env fun env1 b => dIte b (m { E with nx := dWh t m E n, ct := dWh t m E n, bk := E.nx } env1) (E.nx env1)
def dWhile (t : DTM) (m : DSM) : DSM := fun E env => ∃ n, dWh t m E n env
theorem ds_while {c : Expr} {body : List Stmt} {t : DTM} {m : DSM} (hp : PassesOwn (model X.prog X.w) X.A X.env X.xe) (hc : DT X c t tc) (hb : DSs X body m tm) : DS X (.While c body [] pos) (dWhile t m) (tWhile tc tm) := by
  obtain ⟨c1, c2⟩ := hc
  obtain ⟨b1, b2⟩ := hb
  refine ⟨ps_while hp c1 b1, fun B S H env σ E D s q e => ?_⟩
  obtain ⟨n, q⟩ := q
  refine ⟨fun n σ' H' => ∃ S' env', SR X.K B S' H' env' σ' ∧ dWh t m E n env', ⟨n, S, env, s, q⟩, ?_⟩
  rintro n σ' H' ⟨S', env', s', q'⟩
  cases n with
  | zero => exact q'.elim
  | succ n =>
    refine c2 B S' H' env' σ' _ _ s' q' fun b H1 S1 env1 z q1 => ?_
    cases b with
    | true =>
      rw [if_pos rfl]
      refine ⟨fun σ2 H2 => ∃ S2 env2, SR X.K B S2 H2 env2 σ2 ∧ dWh t m E n env2, fun σ2 H2 a => ⟨n, Nat.lt_succ_self n, a⟩, ?_⟩
      exact b2 B S1 H1 env1 σ' _ _ z.sr (dIte_t q1) ⟨fun S4 H4 env4 σ4 s4 q4 => ⟨S4, env4, s4, q4⟩, e.rt, fun S4 H4 env4 σ4 s4 q4 => e.nx S4 H4 env4 σ4 s4 q4, fun S4 H4 env4 σ4 s4 q4 => ⟨S4, env4, s4, q4⟩, e.xc⟩
    | false =>
      rw [if_neg Bool.false_ne_true]
      exact e.nx S1 H1 env1 σ' z.sr (dIte_f q1)
end
end DL
end

section
set_option Elab.async false
set_option linter.all false
set_option maxRecDepth 100000
set_option maxHeartbeats 4000000
namespace DL
open PySem L2
open Evl (Ex)

/-! ### comprehensions -/
def wipeD (env : En) : List Nat → En
  | [] => env
  | v :: vs => (wipeD env vs).set v none
/-- the names of a block take back what they held -/
def backD (env0 : En) (env : En) : List Nat → En
  | [] => env
  | v :: vs => (backD env0 env vs).set v (env0[v]?.getD none)
def plainAt (env : En) : List Nat → Bool
  | [] => true
  | v :: vs => (match env[v]? with
    | some (some (.val _)) => true
    | some none => true
    | _ => false) && plainAt env vs
def DTs (X : Cx) (es : List Expr) (m : DTM) (t : TT) : Prop := PTs X es t ∧ ∀ (B : Bs) (S H : Hp) (env : En) (σ : St) (Q : En → Bool → Prop) (Qv : Bool → Hp → Prop), SR X.K B S H env σ → m env Q →
  (∀ b H' S' env', TPo X.K B S H env σ S' H' env' → Q env' b → Qv b H') → t σ H Qv
def dYes : DTM := fun env Q => Q env true
theorem dts_nil {X : Cx} : DTs X [] dYes tYes := ⟨pts_nil, fun B S H env σ Q Qv s q k => k true H S env (.refl s) q⟩
theorem dts_one {X : Cx} {c : Expr} {m : DTM} {t : TT} (h : DT X c m t) : DTs X [c] m t := ⟨pts_one h.1, h.2⟩
def dLcT (t : DTM) (m : DM) (nxt : En → List D → Prop) (acc : List D) : En → Prop := fun env1 => t env1 fun env2 b => dIte b
      (dKeep m env2 fun env3 q => match q with
        | .val x => acc.length < sizeLine ∧ nxt env3 (acc ++ [x])
        | _ => False)
      (nxt env2 acc)
def dLcL (vs : List Nat) (g : DGM) (t : DTM) (m : DM) : List D → En → List D → (En → List D → Prop) → Prop
  | [], env, acc, Q => Q env acc
  | d :: r, env, acc, Q => g d env (dLcT t m (fun env acc => dLcL vs g t m r (wipeD env vs) acc Q) acc)
def dLc (mi : DIM) (vs : List Nat) (g : DGM) (t : DTM) (m : DM) : DM := fun env Q => mi env fun env1 ds => plainAt env1 vs = true ∧ dLcL vs g t m ds (wipeD env1 vs) [] fun env2 acc => Q (backD env1 env2 vs) (.own acc)
/-- a target stores into the block's own names alone -/
def TgIn (t : TG) (vs : List Nat) : Prop := ∀ (v : V) (σ : St) (H : Hp) (Q Q' : St → Hp → Prop), (∀ σ2 H2, wipe σ2 vs = wipe σ vs → Q σ2 H2 → Q' σ2 H2) → t v σ H Q → t v σ H Q'
def TgsIn (t : TGs) (vs : List Nat) : Prop := ∀ (us : List V) (σ : St) (H : Hp) (Q Q' : St → Hp → Prop), (∀ σ2 H2, wipe σ2 vs = wipe σ vs → Q σ2 H2 → Q' σ2 H2) → t us σ H Q → t us σ H Q'
theorem wipe_set {σ : St} {i : Nat} {x : Option V} : ∀ {vs : List Nat}, i ∈ vs → wipe (σ.set i x) vs = wipe σ vs
  | [], h => by cases h
  | v :: vs, h => by
    unfold wipe
    by_cases c : i ∈ vs
    · rw [wipe_set c]
    · have e : i = v := by
        rcases List.mem_cons.mp h with e | e
        · exact e
        · exact absurd e c
      subst e
      have gen : ∀ (ws : List Nat) (τ : St), (wipe (τ.set i x) ws).set i none = (wipe τ ws).set i none := by
        intro ws
        induction ws with
        | nil => intro τ; unfold wipe; rw [List.set_set]
        | cons w ws ih =>
          intro τ
          unfold wipe
          by_cases d : w = i
          · subst d
            rw [List.set_set, List.set_set]
            exact ih τ
          · rw [List.set_comm _ _ d, List.set_comm _ _ d, ih]
      exact gen vs σ
theorem tgin_name {i : Nat} {vs : List Nat} (h : i ∈ vs) : TgIn (gName i) vs := fun v σ H Q Q' k q => k _ _ (wipe_set h) q
theorem tgsin_nil {vs : List Nat} : TgsIn gNil vs := fun us σ H Q Q' k q => ⟨q.1, k _ _ rfl q.2⟩
theorem tgsin_cons {vs : List Nat} {t : TG} {u : TGs} (h : TgIn t vs) (k : TgsIn u vs) : TgsIn (gCons t u) vs := fun us σ H Q Q' w q => by
  obtain ⟨v, r, e, q⟩ := q
  exact ⟨v, r, e, h _ _ _ _ _ (fun σ2 H2 z q2 => k _ _ _ _ _ (fun σ3 H3 z3 q3 => w σ3 H3 (z3.trans z) q3) q2) q⟩
theorem tgin_tup {K : PySem.W.Frag} {n : Nat} {vs : List Nat} {u : TGs} (k : TgsIn u vs) : TgIn (gTup K n u) vs := fun v σ H Q Q' w q => by
  obtain ⟨a, xs, e, h, l, q⟩ := q
  exact ⟨a, xs, e, h, l, k _ _ _ _ _ w q⟩

section
variable {K : PySem.W.Frag} {B : Bs} {S H S' H' : Hp} {env env' : En} {σ σ' : St}
theorem SR.wipe (s : SR K B S H env σ) : ∀ vs : List Nat, SR K B S H (wipeD env vs) (L2.wipe σ vs)
  | [] => s
  | v :: vs => (SR.wipe s vs).drop
/-- more is known of the slots -/
theorem SR.more (s : SR K B S H env σ) (hl : σ'.length = σ.length) (h : ∀ i v, Slt σ i v → Slt σ' i v) : SR K B S H env σ' := by
  refine ⟨s.ex0, s.nw0, s.keep0, s.old0, s.len.trans hl.symm, s.ex, fun i d e => let ⟨v, h1, h2⟩ := s.val i d e; ⟨v, h i v h1, h2⟩,
    fun i l e => let ⟨p, vs, h1, h2⟩ := s.own i l e; ⟨p, vs, h _ _ h1, h2⟩, fun i j l m p h1 h2 h3 h4 => ?_, fun i e => let ⟨a, h1, h2⟩ := s.pl i e; ⟨a, h1, h _ _ h2⟩, s.pool, fun i p l e => let ⟨k1, k2⟩ := s.fix i p l e; ⟨h _ _ k1, k2⟩, fun i j p l m e1 e2 e3 => ?_, s.dff, s.pin⟩
  obtain ⟨p1, _, q1, _⟩ := s.own i l h1
  obtain ⟨p2, _, q2, _⟩ := s.own j m h2
  have e1 := Slt.ref h3 (h _ _ q1)
  have e2 := Slt.ref h4 (h _ _ q2)
  subst e1
  subst e2
  exact s.dis i j l m _ h1 h2 q1 q2
  obtain ⟨p1, _, q1, _⟩ := s.own j m e2
  have e4 := Slt.ref e3 (h _ _ q1)
  subst e4
  exact s.dfx i j _ l m e1 e2 q1
/-- a name that is not told is told a value again -/
theorem SR.tell {i : Nat} {n : Option Nv} (s : SR K B S H env σ) (h : ∀ m, n = some m → ∃ d v, m = .val d ∧ Slt σ i v ∧ Rep K S v d) : SR K B S H (env.set i n) σ := by
  have ow : ∀ j l, Has (env.set i n) j (.own l) → j ≠ i ∧ Has env j (.own l) := fun j l e => by
    by_cases c : j = i
    · subst c
      obtain ⟨d, v, e2, _⟩ := h _ (set_self e)
      cases e2
    · exact ⟨c, set_other e c⟩
  have fw : ∀ j p l, Has (env.set i n) j (.fix p l) → Has env j (.fix p l) := fun j p l e => by
    by_cases c : j = i
    · subst c
      obtain ⟨d, v, e2, _⟩ := h _ (set_self e)
      cases e2
    · exact set_other e c
  refine ⟨s.ex0, s.nw0, s.keep0, s.old0, by rw [List.length_set]; exact s.len, s.ex, fun j d e => ?_, fun j l e => s.own j l (ow j l e).2, fun j k l m p h1 h2 h3 h4 => s.dis j k l m p (ow _ _ h1).2 (ow _ _ h2).2 h3 h4, fun j e => ?_, s.pool, fun j p l e => s.fix j p l (fw j p l e), fun j k p l m e1 e2 e3 => s.dfx j k p l m (fw j p l e1) (ow k m e2).2 e3, fun j k p l m e1 e2 => s.dff j k p l m (fw j p l e1) (fw k p m e2), s.pin⟩
  · by_cases c : j = i
    · subst c
      obtain ⟨d', v, e2, h1, h2⟩ := h _ (set_self e)
      cases e2
      exact ⟨v, h1, h2⟩
    · exact s.val j d (set_other e c)
  · by_cases c : j = i
    · subst c
      obtain ⟨d', v, e2, _⟩ := h _ (set_self e)
      cases e2
    · exact s.pl j (set_other e c)
/-- an object that is nobody's is written -/
theorem SR.stray {p : Addr} {o : HO} (s : SR K B S H env σ) (h1 : S p = none) (h2 : B.H0 p = none) (h3 : ¬ Ow B env σ p) : SR K B S (upd H p o) env σ := by
  refine ⟨s.ex0, s.nw0, fun a u e c => ?_, fun a e => ?_, s.len, fun a u e => ?_, s.val, fun i l e => ?_, s.dis, s.pl, fun a e => ?_, fun i q l e => ?_, s.dfx, s.dff, fun a e => by rw [upd_ne (fun z => h3 (.inl (by rw [← z]; exact e)))]; exact s.pin a e⟩
  · rw [upd_ne (fun z => by rw [z, h2] at e; cases e)]
    exact s.keep0 a u e c
  · by_cases z : a = p
    · rw [z]; exact h2
    · rw [upd_ne z] at e
      exact s.old0 a e
  · rw [upd_ne (fun z => by rw [z, h1] at e; cases e)]
    exact s.ex a u e
  · obtain ⟨q, vs, q1, q2, q3, q4, q5⟩ := s.own i l e
    refine ⟨q, vs, q1, q2, q3, ?_, q5⟩
    rw [upd_ne (fun z => h3 (.inr (.inl ⟨i, l, e, by rw [← z]; exact q1⟩)))]
    exact q4
  · obtain ⟨⟨y, l', cells, pos, big, seed, cnt, bud, k1, k2, k3⟩, o⟩ := s.pool a e
    exact ⟨⟨y, l', cells, pos, big, seed, cnt, bud, (upd_ne (fun z => h3 (.inl (by rw [← z]; exact e)))).trans k1, k2, k3⟩, o⟩
  · obtain ⟨k1, k2, k3, ws, k4, k5⟩ := s.fix i q l e
    refine ⟨k1, k2, k3, ws, ?_, k5⟩
    rw [upd_ne (fun z => h3 (.inr (.inr ⟨i, l, by rw [← z]; exact e⟩)))]
    exact k4
theorem wipeD_length : ∀ vs : List Nat, (wipeD env vs).length = env.length
  | [] => rfl
  | v :: vs => by unfold wipeD; rw [List.length_set, wipeD_length vs]
theorem backD_length : ∀ vs : List Nat, (backD env env' vs).length = env'.length
  | [] => rfl
  | v :: vs => by unfold backD; rw [List.length_set, backD_length vs]
theorem wipeD_has {i : Nat} {n : Nv} : ∀ {vs : List Nat}, Has (wipeD env vs) i n → Has env i n ∧ i ∉ vs
  | [], h => ⟨h, by simp⟩
  | v :: vs, h => by
    have c : i ≠ v := fun c => by
      subst c
      exact nomatch set_self h
    obtain ⟨h1, h2⟩ := wipeD_has (set_other h c)
    exact ⟨h1, fun z => by
      rcases List.mem_cons.mp z with z | z
      · exact c z
      · exact h2 z⟩
theorem wipeD_out {i : Nat} : ∀ {vs : List Nat}, i ∉ vs → (wipeD env vs)[i]? = env[i]?
  | [], _ => rfl
  | v :: vs, h => by
    unfold wipeD
    rw [List.getElem?_set_ne (fun e => h (by rw [e]; exact List.mem_cons_self))]
    exact wipeD_out fun z => h (List.mem_cons_of_mem _ z)
theorem backD_out {i : Nat} : ∀ {vs : List Nat}, i ∉ vs → (backD env env' vs)[i]? = env'[i]?
  | [], _ => rfl
  | v :: vs, h => by
    unfold backD
    rw [List.getElem?_set_ne (fun e => h (by rw [e]; exact List.mem_cons_self))]
    exact backD_out fun z => h (List.mem_cons_of_mem _ z)
theorem backD_in {i : Nat} (hl : env'.length = env.length) : ∀ {vs : List Nat}, i ∈ vs → (backD env env' vs)[i]? = env[i]?
  | [], h => by cases h
  | v :: vs, h => by
    unfold backD
    by_cases c : i = v
    · subst c
      by_cases d : i < env.length
      · rw [List.getElem?_set_self (by rw [backD_length, hl]; exact d), List.getElem?_eq_getElem d]
        rfl
      · rw [List.getElem?_eq_none (by rw [List.length_set, backD_length, hl]; omega), List.getElem?_eq_none (by omega)]
    · rw [List.getElem?_set_ne (Ne.symm c)]
      exact backD_in hl ((List.mem_cons.mp h).resolve_left c)
theorem plainAt_mem {i : Nat} : ∀ {vs : List Nat}, plainAt env vs = true → i ∈ vs → (∃ d, env[i]? = some (some (.val d))) ∨ env[i]? = some none
  | [], _, h => by cases h
  | v :: vs, p, h => by
    unfold plainAt at p
    rw [Bool.and_eq_true] at p
    by_cases c : i = v
    · subst c
      have p1 := p.1
      split at p1
      · rename_i d e
        exact .inl ⟨d, e⟩
      · rename_i e
        exact .inr e
      · cases p1
    · exact plainAt_mem p.2 ((List.mem_cons.mp h).resolve_left c)
theorem SR.back {env1 : En} {S1 H1 : Hp} (s1 : SR K B S1 H1 env1 σ) (s : SR K B S H env σ) (e : Ex S1 S) (hl : env.length = env1.length) : ∀ vs : List Nat, plainAt env1 vs = true → SR K B S H (backD env1 env vs) σ
  | [], _ => s
  | v :: vs, p => by
    have p' := p
    unfold plainAt at p
    rw [Bool.and_eq_true] at p
    unfold backD
    refine SR.tell (SR.back s1 s e hl vs p.2) fun m hm => ?_
    rcases plainAt_mem p' (List.mem_cons_self (a := v) (l := vs)) with ⟨d, q⟩ | q
    · rw [q] at hm
      cases hm
      obtain ⟨w, h1, h2⟩ := s1.val v d q
      exact ⟨d, w, rfl, h1, h2.mono e⟩
    · rw [q] at hm
      cases hm
/-- ownership shrinks when names are wiped -/
theorem Ow.wipe {a : Addr} {vs : List Nat} (h : Ow B (wipeD env vs) (L2.wipe σ vs) a) : Ow B env σ a := by
  rcases h with h | ⟨i, l, h1, h2⟩ | ⟨i, l, h1⟩
  · exact .inl h
  · exact .inr (.inl ⟨i, l, (wipeD_has h1).1, (wipe_some h2).1⟩)
  · exact .inr (.inr ⟨i, l, (wipeD_has h1).1⟩)
end
/-- what stays of the names through a block: each as it was, or come to stand still, or a name of the block -/
def Fz (vs : List Nat) (env env' : En) : Prop := env'.length = env.length ∧ ∀ i : Nat, i ∉ vs → env'[i]? = env[i]? ∨ ∃ l, Has env i (.own l) ∧ Has env' i (.val (.lst l))
theorem Fz.trans {vs : List Nat} {a b c : En} (h : Fz vs a b) (k : Frz b c) : Fz vs a c := ⟨k.1.trans h.1, fun i hi => by
  rcases h.2 i hi with e | ⟨l, e1, e2⟩
  · rcases k.2 i with q | ⟨l, q1, q2⟩
    · exact .inl (q.trans e)
    · exact .inr ⟨l, e.symm.trans q1, q2⟩
  · rcases k.2 i with q | ⟨m, q1, q2⟩
    · exact .inr ⟨l, e1, q.trans e2⟩
    · exact nomatch Has.inj e2 q1⟩
theorem Fz.wipe {vs : List Nat} {a b : En} (h : Fz vs a b) : Fz vs a (wipeD b vs) := ⟨(wipeD_length vs).trans h.1, fun i hi => by
  rcases h.2 i hi with e | ⟨l, e1, e2⟩
  · exact .inl ((wipeD_out hi).trans e)
  · exact .inr ⟨l, e1, (wipeD_out hi).trans e2⟩⟩
theorem Fz.back {vs : List Nat} {a b : En} (h : Fz vs a b) : Frz a (backD a b vs) := ⟨(backD_length vs).trans h.1, fun i => by
  by_cases c : i ∈ vs
  · exact .inl (backD_in h.1 c)
  · rcases h.2 i c with e | ⟨l, e1, e2⟩
    · exact .inl ((backD_out c).trans e)
    · exact .inr ⟨l, e1, (backD_out c).trans e2⟩⟩
/-- the target's names are the block's -/
structure GFact (vs : List Nat) (env env' : En) : Prop where
  len : env'.length = env.length
  out : ∀ i : Nat, i ∉ vs → env'[i]? = env[i]?
  own : ∀ i l, Has env' i (.own l) → Has env i (.own l)
  fix : ∀ i p l, Has env' i (.fix p l) → Has env i (.fix p l)
def GIn (g : DGM) (vs : List Nat) : Prop := ∀ d env (Q Q' : En → Prop), (∀ env', GFact vs env env' → Q env' → Q' env') → g d env Q → g d env Q'
def GsIn (g : DGsM) (vs : List Nat) : Prop := ∀ d env (Q Q' : En → Prop), (∀ env', GFact vs env env' → Q env' → Q' env') → g d env Q → g d env Q'
theorem GFact.refl (vs : List Nat) (env : En) : GFact vs env env := ⟨rfl, fun _ _ => rfl, fun _ _ h => h, fun _ _ _ h => h⟩
theorem GFact.trans {vs : List Nat} {a b c : En} (h : GFact vs a b) (k : GFact vs b c) : GFact vs a c := ⟨k.len.trans h.len, fun i hi => (k.out i hi).trans (h.out i hi), fun i l e => h.own i l (k.own i l e), fun i p l e => h.fix i p l (k.fix i p l e)⟩
theorem gin_name {i : Nat} {vs : List Nat} (h : i ∈ vs) : GIn (dName i) vs := fun d env Q Q' k q => k _ ⟨List.length_set, fun j hj => List.getElem?_set_ne (fun e => hj (by rw [← e]; exact h)), fun j l e => by
  by_cases c : j = i
  · subst c
    exact nomatch set_self e
  · exact set_other e c, fun j p l e => by
  by_cases c : j = i
  · subst c
    exact nomatch set_self e
  · exact set_other e c⟩ q
theorem gsin_nil {vs : List Nat} : GsIn dTNil vs := fun ds env Q Q' k q => by
  unfold dTNil at q ⊢
  split at q
  · exact k _ (.refl _ _) q
  · exact q.elim
theorem gsin_cons {vs : List Nat} {g : DGM} {h : DGsM} (hi : GIn g vs) (k : GsIn h vs) : GsIn (dTCons g h) vs := fun ds env Q Q' w q => by
  cases ds with
  | nil => exact q.elim
  | cons d r => exact hi d env _ _ (fun env1 f1 q1 => k r env1 _ _ (fun env2 f2 q2 => w env2 (f1.trans f2) q2) q1) q
theorem gin_tup {vs : List Nat} {n : Nat} {h : DGsM} (k : GsIn h vs) : GIn (dTg n h) vs := fun d env Q Q' w q => by
  unfold dTg at q ⊢
  split at q
  · exact ⟨q.1, k _ env _ _ w q.2⟩
  · exact q.elim
theorem wipe_out {σ : St} {i : Nat} : ∀ {vs : List Nat}, i ∉ vs → (wipe σ vs)[i]? = σ[i]?
  | [], _ => rfl
  | v :: vs, h => by
    unfold wipe
    rw [List.getElem?_set_ne (fun e => h (by rw [e]; exact List.mem_cons_self))]
    exact wipe_out fun z => h (List.mem_cons_of_mem _ z)
theorem Go.stray {A : Addr → Prop} {S H S' H' : Hp} {p : Addr} {o : HO} (g : Go A S H S' H') (h : H p = none) : Go A S H S' (upd H' p o) :=
  ⟨g.ex, fun a u e n => by rw [upd_ne (ne_of_none e h)]; exact g.keep a u e n, g.nw, fun a e => by
    by_cases z : a = p
    · rw [z]; exact h
    · rw [upd_ne z] at e
      exact g.old a e⟩
section
variable {X : Cx}
/-- the state within a block -/
structure LcI (K : PySem.W.Frag) (B : Bs) (S1 H1 : Hp) (env1 : En) (σ : St) (vs : List Nat) (D : Addr) (S H : Hp) (env : En) (acc : List DL.D) : Prop where
  sr : SR K ⟨S1, B.H0, B.pa⟩ S H env (wipe σ vs)
  go : Go (Ow B env1 σ) S1 H1 S H
  fz : Fz vs env1 env
  wp : ∀ i n, Has env i n → i ∉ vs
  dn : S D = none
  dh : ∃ ws, H D = some (.lst ws) ∧ Reps K S ws acc
theorem de_lc {elt tg iter : Expr} {ifs : List Expr} {scope : Scope} (own : List (Str × Nat)) {pos : Pos} {mi : DIM} {wi : TI} {g : DGM} {tg1 : Shared → Hp → Addr → List (Str × Addr) → List Addr → TG} {t : DTM} {tt : Shared → Hp → Addr → List (Str × Addr) → List Addr → TT} {m : DM} {te : Shared → Hp → Addr → List (Str × Addr) → List Addr → TE} (hc : X.calm = true) (hN : X.N.Nodup) (hi : DI X tg iter mi wi) (ok : BlkOk X.N X.env.scope scope own)
    (hg : ∀ (s : Shared) (H : Hp) (C : Addr) (cl : List (Str × Addr)) (fp : List Addr), DG (X.blk s H scope (compEnvC scope cl C X.env) fp) tg g (tg1 s H C cl fp)) (ht : ∀ (s : Shared) (H : Hp) (C : Addr) (cl : List (Str × Addr)) (fp : List Addr), DTs (X.blk s H scope (compEnvC scope cl C X.env) fp) ifs t (tt s H C cl fp))
    (he : ∀ (s : Shared) (H : Hp) (C : Addr) (cl : List (Str × Addr)) (fp : List Addr), DE (X.blk s H scope (compEnvC scope cl C X.env) fp) elt m (te s H C cl fp)) (i1 : TgIn (tg1 X.s_0 X.H_0 0 [] []) (own.map (·.2))) (i2 : GIn g (own.map (·.2)))
    (e1 : ∀ s H C cl fp, tg1 s H C cl fp = tg1 X.s_0 X.H_0 0 [] [] := by intros; rfl) (e2 : ∀ s H C cl fp, tt s H C cl fp = tt X.s_0 X.H_0 0 [] [] := by intros; rfl) (e3 : ∀ s H C cl fp, te s H C cl fp = te X.s_0 X.H_0 0 [] [] := by intros; rfl) (hs : ∀ x, foldedSetIterable iter X.env x = pure x := by intro _; rfl) :
    DE X (.ListComp elt [⟨tg, iter, ifs, 0⟩] scope pos) (dLc mi (own.map (·.2)) g t m) (tLc wi (tg1 X.s_0 X.H_0 0 [] []) (tt X.s_0 X.H_0 0 [] []) (te X.s_0 X.H_0 0 [] []) (own.map (·.2))) := by
  have hg : ∀ (s : Shared) (H : Hp) (C : Addr) (cl : List (Str × Addr)) (fp : List Addr), DG (X.blk s H scope (compEnvC scope cl C X.env) fp) tg g (tg1 X.s_0 X.H_0 0 [] []) := fun s H C cl fp => e1 s H C cl fp ▸ hg s H C cl fp
  have ht : ∀ (s : Shared) (H : Hp) (C : Addr) (cl : List (Str × Addr)) (fp : List Addr), DTs (X.blk s H scope (compEnvC scope cl C X.env) fp) ifs t (tt X.s_0 X.H_0 0 [] []) := fun s H C cl fp => e2 s H C cl fp ▸ ht s H C cl fp
  have he : ∀ (s : Shared) (H : Hp) (C : Addr) (cl : List (Str × Addr)) (fp : List Addr), DE (X.blk s H scope (compEnvC scope cl C X.env) fp) elt m (te X.s_0 X.H_0 0 [] []) := fun s H C cl fp => e3 s H C cl fp ▸ he s H C cl fp
  clear e1 e2 e3
  generalize tg1 X.s_0 X.H_0 0 [] [] = tg1 at *
  generalize tt X.s_0 X.H_0 0 [] [] = tt at *
  generalize te X.s_0 X.H_0 0 [] [] = te at *
  have g2 := (hg X.s_0 X.H_0 0 [] []).2
  have t2 := (ht X.s_0 X.H_0 0 [] []).2
  have e2 := (de_keep (he X.s_0 X.H_0 0 [] [])).2
  refine ⟨pe_lc hc hN hi.1 ok (fun s H C cl fp => (hg s H C cl fp).1) (fun s H C cl fp => (ht s H C cl fp).1) (fun s H C cl fp => (he s H C cl fp).1) hs, ?_⟩
  clear hg ht he
  generalize own.map (·.2) = vs at *
  intro B S H env σ Q Qv s q k
  refine hi.2 B S H env σ _ _ s q fun J H1 S1 env1 ds z it q1 => ?_
  obtain ⟨pl, q1⟩ := q1
  have s1 := z.sr
  intro D hD
  have hD0 := s1.hp0 hD
  have hDn := s1.now hD
  have hDs := s1.sp0 hD
  have hD1 : Has env1 0 .pool → True := fun _ => trivial
  -- the names that own in a block's state own ahead of it
  have sub : ∀ {S' H' : Hp} {env' : En} {acc : List DL.D}, LcI X.K B S1 H1 env1 σ vs D S' H' env' acc → ∀ a, Ow ⟨S1, B.H0, B.pa⟩ env' (wipe σ vs) a → Ow B env1 σ a := fun {S' H' env' acc} I a h => by
    rcases h with h | ⟨i, l, h1, h2⟩ | ⟨i, l, h1⟩
    · exact .inl h
    · have hi := I.wp i _ h1
      rcases I.fz.2 i hi with e | ⟨l', e1, e2⟩
      · exact .inr (.inl ⟨i, l, e.symm.trans h1, (wipe_some h2).1⟩)
      · exact nomatch Has.inj h1 e2
    · have hi := I.wp i _ h1
      rcases I.fz.2 i hi with e | ⟨l', e1, e2⟩
      · exact .inr (.inr ⟨i, l, e.symm.trans h1⟩)
      · exact nomatch Has.inj h1 e2
  refine ⟨fun i m' H' => m' = ds.length - i ∧ i ≤ ds.length ∧ ∃ S' env' acc, LcI X.K B S1 H1 env1 σ vs D S' H' env' acc ∧ dLcL vs g t m (ds.drop i) env' acc fun env2 acc => Q (backD env1 env2 vs) (.own acc), ⟨_, rfl, Nat.zero_le _, S1, wipeD env1 vs, [], ⟨?_, Go.stray .refl hD, ⟨wipeD_length vs, fun i hi => .inl (wipeD_out hi)⟩, fun i n h => (wipeD_has h).2, hDs, [], upd_same, .nil⟩, q1⟩, ?_⟩
  · exact (s1.base.stray hDs hD0 hDn).wipe vs
  rintro i m' H' ⟨rfl, hil, S', env', acc, I, l⟩
  have ex1 : Ex S1 S' := I.sr.ex0
  by_cases c : i < ds.length
  · refine .inr ⟨it.go i c S' H' ex1 I.sr.ex, fun H2 => ∃ S2 env2 acc2, LcI X.K B S1 H1 env1 σ vs D S2 H2 env2 acc2 ∧ dLcL vs g t m (ds.drop (i + 1)) env2 acc2 fun env2 acc => Q (backD env1 env2 vs) (.own acc), fun H2 ⟨S2, env2, acc2, a1, a2⟩ => ⟨_, by omega, rfl, c, S2, env2, acc2, a1, a2⟩, fun x H2 y => ?_⟩
    have hd : ds[i]? = some ds[i] := List.getElem?_eq_getElem c
    obtain ⟨S2, n2, r2⟩ := it.yld i _ hd S' H' x H2 ex1 I.sr.ex y
    rw [List.drop_eq_getElem_cons c] at l
    refine i1 _ _ _ _ _ (fun σ3 H3 w3 h3 => ?_) (g2 ⟨S1, B.H0, B.pa⟩ S2 H2 env' (wipe σ vs) x _ _ (fun σ3 H3 => H3 = H2 ∧ ∃ env3, SR X.K ⟨S1, B.H0, B.pa⟩ S2 H2 env3 σ3 ∧ GFact vs env' env3 ∧ dLcT t m (fun env acc => dLcL vs g t m (ds.drop (i + 1)) (wipeD env vs) acc fun env2 acc => Q (backD env1 env2 vs) (.own acc)) acc env3) (I.sr.nw n2) r2 (i2 _ _ _ (fun env3 => GFact vs env' env3 ∧ dLcT t m (fun env acc => dLcL vs g t m (ds.drop (i + 1)) (wipeD env vs) acc fun env2 acc => Q (backD env1 env2 vs) (.own acc)) acc env3) (fun _ f q => ⟨f, q⟩) l) fun env3 σ3 s3 q3 => ⟨rfl, env3, s3, q3.1, q3.2⟩)
    obtain ⟨rfl, env3, s3, ⟨f1, f2, f3, f4⟩, q3⟩ := h3
    have w3 : wipe σ3 vs = wipe σ vs := w3.trans (by
      have : ∀ us : List Nat, (∀ i ∈ us, i ∈ vs) → wipe (wipe σ vs) us = wipe σ vs := by
        intro us
        induction us with
        | nil => intro _; rfl
        | cons u us ih =>
          intro h
          show (wipe (wipe σ vs) us).set u none = wipe σ vs
          rw [ih fun i hi => h i (List.mem_cons_of_mem _ hi)]
          refine List.ext_getElem? fun j => ?_
          by_cases cj : j = u
          · subst cj
            by_cases cl : j < (wipe σ vs).length
            · rw [List.getElem?_set_self cl, List.getElem?_eq_getElem cl]
              cases q : (wipe σ vs)[j] with
              | none => rfl
              | some v =>
                have q' : (wipe σ vs)[j]? = some (some v) := by rw [List.getElem?_eq_getElem cl, q]
                exact absurd (h j List.mem_cons_self) (wipe_some q').2
            · rw [List.getElem?_eq_none (by rw [List.length_set]; omega), List.getElem?_eq_none (by omega)]
          · rw [List.getElem?_set_ne (Ne.symm cj)]
      exact this vs fun i h => h)
    have sub3 : ∀ a, Ow ⟨S1, B.H0, B.pa⟩ env3 σ3 a → Ow B env1 σ a := fun a h => by
      rcases h with h | ⟨j, l', h1, h2⟩ | ⟨j, l', h1⟩
      · exact .inl h
      rotate_left
      · exact sub I a (.inr (.inr ⟨j, l', f4 j a l' h1⟩))
      · have h1' := f3 j l' h1
        have hj := I.wp j _ h1'
        refine sub I a (.inr (.inl ⟨j, l', h1', ?_⟩))
        show (wipe σ vs)[j]? = _
        rw [← w3, wipe_out hj]
        exact h2
    have go3 : Go (Ow B env1 σ) S1 H1 S2 H3 := I.go.trans (A' := fun _ => False) n2.go fun _ _ _ _ h => h
    have dh3 : ∃ ws, H3 D = some (.lst ws) ∧ Reps X.K S2 ws acc := let ⟨ws, w1, w2⟩ := I.dh; ⟨ws, n2.keep _ _ w1, w2.mono n2.ex⟩
    have dn3 : S2 D = none := let ⟨ws, w1, w2⟩ := I.dh; n2.nw _ _ w1 I.dn
    have fz3 : Fz vs env1 env3 := ⟨f1.trans I.fz.1, fun i hi => by
      rcases I.fz.2 i hi with e | ⟨l, e1, e2⟩
      · exact .inl ((f2 i hi).trans e)
      · exact .inr ⟨l, e1, (f2 i hi).trans e2⟩⟩
    have nd3 : ¬ Ow ⟨S1, B.H0, B.pa⟩ env3 σ3 D := fun h => hDn (sub3 D h)
    refine ⟨w3, ?_⟩
    refine t2 ⟨S1, B.H0, B.pa⟩ S2 H3 env3 σ3 _ _ s3 q3 fun b H4 S4 env4 z4 q4 => ?_
    have sub4 : ∀ a, Ow ⟨S1, B.H0, B.pa⟩ env4 σ3 a → Ow B env1 σ a := fun a h => sub3 a (Ow.frz z4.fz h)
    have go4 : Go (Ow B env1 σ) S1 H1 S4 H4 := go3.trans z4.go fun x o _ n w => n (sub3 x w)
    have dh4 : ∃ ws, H4 D = some (.lst ws) ∧ Reps X.K S4 ws acc := let ⟨ws, w1, w2⟩ := dh3; ⟨ws, z4.go.keep _ _ w1 nd3, w2.mono z4.go.ex⟩
    have dn4 : S4 D = none := let ⟨ws, w1, w2⟩ := dh3; z4.go.nw _ _ w1 nd3 dn3
    have fz4 : Fz vs env1 env4 := fz3.trans z4.fz
    cases b with
    | true =>
      rw [if_pos rfl]
      have q4 := dIte_t q4
      refine e2 ⟨S1, B.H0, B.pa⟩ S4 H4 env4 σ3 _ _ z4.sr q4 fun v H5 S5 env5 r z5 q5 => ?_
      split at q5
      · rename_i d5
        have nd4 : ¬ Ow ⟨S1, B.H0, B.pa⟩ env4 σ3 D := fun h => hDn (sub4 D h)
        obtain ⟨ws, w1, w2⟩ := dh4
        have w1' := z5.go.keep _ _ w1 nd4
        have dn5 := z5.go.nw _ _ w1 nd4 dn4
        refine ⟨ws, w1', by rw [w2.length]; exact q5.1, S5, wipeD env5 vs, acc ++ [d5], ⟨?_, ?_, (fz4.trans z5.fz).wipe, fun i n h => (wipeD_has h).2, dn5, _, upd_same, (w2.mono z5.go.ex).append (.cons z5.res .nil)⟩, q5.2⟩
        · have := (z5.sr.stray (p := D) (o := .lst (ws ++ [v])) dn5 hD0 fun h => nd4 (Ow.frz z5.fz h)).wipe vs
          rw [w3] at this
          exact this
        · exact (go4.trans z5.go fun x o _ n w => n (sub4 x w)).stray hD
      · exact q5.elim
    | false =>
      rw [if_neg Bool.false_ne_true]
      refine ⟨S4, wipeD env4 vs, acc, ⟨?_, go4, fz4.wipe, fun i n h => (wipeD_has h).2, dn4, dh4⟩, dIte_f q4⟩
      have := z4.sr.wipe vs
      rw [w3] at this
      exact this
  · have hi' : i = ds.length := by omega
    subst hi'
    rw [List.drop_length] at l
    refine .inl ⟨it.stop S' H' ex1 I.sr.ex, ?_⟩
    obtain ⟨ws, w1, w2⟩ := I.dh
    have sf := (s1.unbase I.sr).more (σ' := σ) (wipe_length σ vs).symm (fun i v h => (wipe_some h).1)
    refine k _ H' S' _ (.own acc) ⟨SR.back s1 sf ex1 I.fz.1 vs pl, z.go.trans I.go fun x o _ n w => n (Ow.frz z.fz w), z.fz.trans I.fz.back, D, ws, rfl, I.dn, hD0, z.go.old D hD, fun w => hDn (Ow.frz I.fz.back w), w1, w2⟩ l
end
end DL
end

section
set_option Elab.async false
set_option linter.all false
set_option maxRecDepth 100000
set_option maxHeartbeats 4000000
namespace DL
open PySem PySem.Spec PyProof.Rows L2
open Evl (Ex)

/-! ### defs -/
/-- the arguments: values, the pool -/
inductive ArgR (K : PySem.W.Frag) (S : Hp) (pa : Option Addr) : List V → List R → Prop
  | nil : ArgR K S pa [] []
  | val {v : V} {d : D} {vs : List V} {rs : List R} : Rep K S v d → ArgR K S pa vs rs → ArgR K S pa (v :: vs) (.val d :: rs)
  | pool {a : Addr} {vs : List V} {rs : List R} : pa = some a → ArgR K S pa vs rs → ArgR K S pa (.ref a :: vs) (.pool :: rs)
structure DRet (K : PySem.W.Frag) (S H : Hp) (pa : Option Addr) (S' H' : Hp) (r : R) (v : V) : Prop where
  ex : Ex S S'
  sh : Ex S' H'
  keep : ∀ a o, H a = some o → pa ≠ some a → H' a = some o
  nw : ∀ a o, H a = some o → S a = none → S' a = none
  old : ∀ a, H' a = none → H a = none
  pool : ∀ a, pa = some a → PoolAt S' H' a
  pin : ∀ a, pa = some a → headO (H' a) = headO (H a)
  ret : RetR K ⟨S, H, pa⟩ S' H' r v
abbrev FM := List R → (R → Prop) → Prop
def spF (K : PySem.W.Frag) (n : Nat) (F : FM) : Sp := fun vs H Q _ => ∃ (S : Hp) (pa : Option Addr) (rs : List R) (Qd : R → Prop), Ex S H ∧ (∀ a, pa = some a → PoolAt S H a) ∧ ArgR K S pa vs rs ∧ vs.length = n ∧ F rs Qd ∧
  ∀ v H' S' r, DRet K S H pa S' H' r v → Qd r → Q v H'
def startD (n : Nat) (rs : List R) : En := rs.map R.nv ++ List.replicate (n - rs.length) none
/-- what a body makes of the arguments -/
def bodyF (n : Nat) (m : DSM) : FM := fun rs Qd => m { nx := fun _ => Qd (.val .non), rt := fun _ r => Qd r } (startD n rs)
theorem spF.imp {K : PySem.W.Frag} {n : Nat} {F F' : FM} (h : ∀ rs Q, F' rs Q → F rs Q) : ∀ vs H Q E, spF K n F' vs H Q E → spF K n F vs H Q E :=
  fun vs H Q E ⟨S, pa, rs, Qd, h1, h2, h3, h4, h5, h6⟩ => ⟨S, pa, rs, Qd, h1, h2, h3, h4, h _ _ h5, h6⟩
section
variable {K : PySem.W.Frag} {S H : Hp} {pa : Option Addr}
theorem ArgR.length : ∀ {vs : List V} {rs : List R}, ArgR K S pa vs rs → vs.length = rs.length
  | _, _, .nil => rfl
  | _, _, .val _ r => by rw [List.length_cons, List.length_cons, ArgR.length r]
  | _, _, .pool _ r => by rw [List.length_cons, List.length_cons, ArgR.length r]
theorem ArgR.get : ∀ {vs : List V} {rs : List R} {i : Nat} {n : Nv}, ArgR K S pa vs rs → (rs.map R.nv)[i]? = some (some n) → ∃ v, vs[i]? = some v ∧ ((∃ d, n = .val d ∧ Rep K S v d) ∨ (n = .pool ∧ ∃ a, pa = some a ∧ v = .ref a))
  | _, _, _, _, .nil, e => by simp at e
  | _, _, 0, n, .val h _, e => by
    have e' : n = .val _ := (Option.some.inj (Option.some.inj e)).symm
    exact ⟨_, rfl, .inl ⟨_, e', h⟩⟩
  | _, _, 0, n, .pool h _, e => by
    have e' : n = .pool := (Option.some.inj (Option.some.inj e)).symm
    exact ⟨_, rfl, .inr ⟨e', _, h, rfl⟩⟩
  | _, _, i + 1, n, .val _ r, e => by
    obtain ⟨v, h1, h2⟩ := ArgR.get (i := i) (n := n) r (by simpa using e)
    exact ⟨v, by simpa using h1, h2⟩
  | _, _, i + 1, n, .pool _ r, e => by
    obtain ⟨v, h1, h2⟩ := ArgR.get (i := i) (n := n) r (by simpa using e)
    exact ⟨v, by simpa using h1, h2⟩
theorem SR.entry {vs : List V} {rs : List R} {N : List Str} (h1 : Ex S H) (h2 : ∀ a, pa = some a → PoolAt S H a) (h3 : ArgR K S pa vs rs) : SR K ⟨S, H, pa⟩ S H (startD N.length rs) (L2.start N vs) := by
  have hl := h3.length
  have get : ∀ i n, Has (startD N.length rs) i n → (rs.map R.nv)[i]? = some (some n) := fun i n h => by
    unfold startD at h
    by_cases c : i < (rs.map R.nv).length
    · have h' : (rs.map R.nv ++ List.replicate (N.length - rs.length) none)[i]? = some (some n) := h
      rw [List.getElem?_append_left c] at h'
      exact h'
    · have h' : (rs.map R.nv ++ List.replicate (N.length - rs.length) none)[i]? = some (some n) := h
      rw [List.getElem?_append_right (by omega)] at h'
      have := List.mem_of_getElem? h'
      rw [List.mem_replicate] at this
      cases this.2
  have slt : ∀ i v, vs[i]? = some v → Slt (L2.start N vs) i v := fun i v h => by
    unfold L2.start
    have c : i < (vs.map some).length := by
      rw [List.length_map]
      exact (List.getElem?_eq_some_iff.mp h).1
    show (vs.map some ++ List.replicate (N.length - vs.length) none)[i]? = some (some v)
    rw [List.getElem?_append_left c, List.getElem?_map, h]
    rfl
  refine ⟨Ex.refl _, fun _ _ _ h => h, fun _ _ h _ => h, fun _ h => h, ?_, h1, fun i d h => ?_, fun i l h => ?_, fun i j l m p h => ?_, fun i h => ?_, fun a h => ⟨h2 a h, ?_⟩, fun i q l h => ?_, fun i j q l m h _ _ => ?_, fun i j q l m h _ => ?_, fun _ _ => rfl⟩
  · unfold startD L2.start
    simp only [List.length_append, List.length_map, List.length_replicate]
    omega
  · obtain ⟨v, q1, ⟨d', e, q2⟩ | ⟨e, _⟩⟩ := h3.get (get i _ h)
    · cases e
      exact ⟨v, slt i v q1, q2⟩
    · cases e
  · obtain ⟨v, q1, ⟨d', e, q2⟩ | ⟨e, _⟩⟩ := h3.get (get i _ h)
    · cases e
    · cases e
  · obtain ⟨v, q1, ⟨d', e, q2⟩ | ⟨e, _⟩⟩ := h3.get (get i _ h)
    · cases e
    · cases e
  · obtain ⟨v, q1, ⟨d', e, q2⟩ | ⟨e, a, q2, q3⟩⟩ := h3.get (get i _ h)
    · cases e
    · subst q3
      exact ⟨a, q2, slt i _ q1⟩
  · obtain ⟨_, l, cells, pos, big, seed, cnt, bud, k1, _⟩ := h2 a h
    exact ⟨_, k1⟩
  all_goals
    obtain ⟨v, q1, ⟨d', e, q2⟩ | ⟨e, _⟩⟩ := h3.get (get i _ h)
    · cases e
    · cases e
theorem SR.ret {B : Bs} {S' H' : Hp} {env : En} {σ : L2.St} {r : R} {v : V} (s : SR K B S H env σ) (d : DRet K S H B.pa S' H' r v) : SR K B S' H' env σ where
  ex0 := s.ex0.trans d.ex
  nw0 := fun a o h e => by
    by_cases c : B.pa = some a
    · exact (d.pool a c).1
    · exact d.nw a o (s.keep0 a o h c) (s.nw0 a o h e)
  keep0 := fun a o h c => d.keep a o (s.keep0 a o h c) c
  old0 := fun a h => s.old0 a (d.old a h)
  len := s.len
  ex := d.sh
  val := fun i d' h => let ⟨v, h1, h2⟩ := s.val i d' h; ⟨v, h1, h2.mono d.ex⟩
  own := fun i l h => by
    obtain ⟨p, vs, h1, h2, h3, h4, h5⟩ := s.own i l h
    have np : B.pa ≠ some p := fun e => by
      obtain ⟨_, o, q⟩ := s.pool p e
      rw [h3] at q
      cases q
    exact ⟨p, vs, h1, d.nw _ _ h4 h2, h3, d.keep _ _ h4 np, h5.mono d.ex⟩
  dis := s.dis
  fix := fun i q l h => by
    obtain ⟨k1, k2, k3, vs, k4, k5⟩ := s.fix i q l h
    have np : B.pa ≠ some q := fun e => by
      obtain ⟨_, o, z⟩ := s.pool q e
      rw [k3] at z
      cases z
    exact ⟨k1, d.nw _ _ k4 k2, k3, vs, d.keep _ _ k4 np, k5.mono d.ex⟩
  dfx := s.dfx
  dff := s.dff
  pin := fun a e => (d.pin a e).trans (s.pin a e)
  pl := s.pl
  pool := fun a h => let ⟨q, o⟩ := s.pool a h; ⟨d.pool a h, o⟩
end
def argsOk : List R → Bool
  | [] => true
  | .val _ :: r => argsOk r
  | .pool :: r => argsOk r
  | _ => false
theorem LkA.args {K : PySem.W.Frag} {B : Bs} {S H : Hp} : ∀ {vs : List V} {rs : List R}, LkA K B S H vs rs → argsOk rs = true → ArgR K S B.pa vs rs
  | _, _, .nil, _ => .nil
  | _, _, .cons (r := r) h k p t, e => by
    cases r with
    | val d => exact .val (k d rfl) (LkA.args t e)
    | pool =>
      obtain ⟨a, e1, e2⟩ := p rfl
      subst e2
      exact .pool e1 (LkA.args t e)
    | own l => cases e
    | brw i l => cases e
/-- f(e, ..) -/
def dCall (F : FM) (n : DAM) : DM := fun env Q => n env fun env' rs => argsOk rs = true ∧ F rs fun r => match r with
  | .brw _ _ => False
  | r => Q env' r
section
variable {X : Cx} {k : Nat} {f C : Addr} {fd : FuncData} {ps : List Str} {F : FM} {x m : Str} {p pos apos : Pos} {e o : Expr} {es : List Expr} {n : DAM} {tn : TA} {np : Nat}
theorem spF_call {B : Bs} {S H : Hp} {env : En} {σ : L2.St} {vs : List V} {rs : List R} {Q : En → R → Prop} {Qv : VK} {E : XK} (s : SR X.K B S H env σ) (l : LkA X.K B S H vs rs) (h : argsOk rs = true) (hl : vs.length = np) (hF : F rs fun r => match r with
    | .brw _ _ => False
    | r => Q env r) (k : ∀ v H' S' env' r, EPo X.K B S H env σ S' H' env' r v → Q env' r → Qv v H') : spF X.K np F vs H Qv E := by
  refine ⟨S, B.pa, rs, _, s.ex, fun a e => (s.pool a e).1, l.args h, hl, hF, fun v H' S' r d q => ?_⟩
  have s' := s.ret d
  have go : Go (Ow B env σ) S H S' H' := ⟨d.ex, fun a o h n => d.keep a o h fun e => n (.inl e), fun a o h n e => d.nw a o h e, d.old⟩
  have dr := d.ret
  cases r with
  | val d0 => exact k v H' S' env (.val d0) ⟨s', go, .refl _, dr⟩ q
  | own l =>
    obtain ⟨p, ws, rfl, h1, h2, h3, h4⟩ := dr
    exact k _ H' S' env (.own l) ⟨s', go, .refl _, p, ws, rfl, h1, s.hp0 h2, h2, s.now h2, h3, h4⟩ q
  | pool => exact k v H' S' env .pool ⟨s', go, .refl _, dr⟩ q
  | brw i l => exact q.elim
theorem de_call (hF : FnOk X.prog X.w X.K X.mg X.base CX0 k f fd ps (spF X.K np F)) (hr : Room k X.A) (hg : Gl X x) (hm : X.mg x = some (.ref f)) (hk : PySem.W.keepIn X.K (.ref f) = true) (hb : Binds X.K fd ps [])
    (ha : DA X (e :: es) n tn) (hlen : (e :: es).length = np) (hdb : (x == ("__debug__" : Str)) = false := by decide) (he : starEach (e :: es) X.env = (false, eval e X.env) :: starEach es X.env := by rfl) (hpl : (backTo pos (starEach es X.env)).any (·.1) = false := by rfl) :
    DE X (.Call (.Name x p) (e :: es) [] pos) (dCall F n) (tCall (spF X.K np F) [] E0 tn) := by
  refine ⟨pe_call hF hr hg hm hk hb .nil pass0 ha.1 hdb he hpl, fun B S H env σ Q Qv s q k => ha.2 B S H env σ _ _ s q fun vs H1 S1 env1 rs z l len q1 => ?_⟩
  show spF X.K np F (vs ++ []) H1 Qv E0
  rw [List.append_nil]
  exact spF_call z.sr l q1.1 (len.trans hlen) q1.2 fun v H' S' env' r a b => k v H' S' env' r (z.e a) b
theorem fn_d {P : Program} {w : World} {K : PySem.W.Frag} {mg : Str → Option Value} {base : Heap} {x qual : Str} {st : Stmt} {f : Addr} {fd : FuncData} {N ps : List Str} {k : Nat} {m : DSM} (F : Fun K x qual st f fd) (Sc : FnScope N ps (defScope st))
    (hbody : ∀ (cdv : Value) (A : Around) (outer : List Env) (s : Shared) (H : Hp) (E : XK), Room k (A.deeper (envOfC qual (defScope st) s.heap.objs.size f cdv)) → ∃ t, DSs (cxOf CX0 P w K mg base N qual (defScope st) f cdv A outer s H E).nox (defBody st) m t) :
    FnOk P w K mg base CX0 (k + 1) f fd ps (spF K ps.length (bodyF N.length m)) := by
  refine F.ok Sc (fun vs H Q E h => ?_) fun cdv A outer s H vs Q E hr h => ?_
  · obtain ⟨S, pa, rs, Qd, h1, h2, h3, h4, h5⟩ := h
    exact h4
  · obtain ⟨S, pa, rs, Qd, h1, h2, h3, h4, h5, h6⟩ := h
    obtain ⟨t, t1, t2⟩ := hbody cdv A outer s H E hr
    refine ⟨t, t1, t2 ⟨S, H, pa⟩ S H _ _ _ _ (SR.entry h1 h2 h3) h5 ?_⟩
    have fin : ∀ {S' H' : Hp} {env : En} {σ : L2.St} {r : R} {v : V}, SR K ⟨S, H, pa⟩ S' H' env σ → RetR K ⟨S, H, pa⟩ S' H' r v → Qd r → Q v H' := fun s r q => h6 _ _ _ _ ⟨s.ex0, s.ex, s.keep0, s.nw0, s.old0, fun a e => (s.pool a e).1, s.pin, r⟩ q
    exact ⟨fun S' H' env σ s q => fin s (r := .val .non) .non q, fun S' H' env σ r v s q z => fin s q z, fun _ _ _ _ _ z => z.elim, fun _ _ _ _ _ z => z.elim, fun _ _ _ _ _ _ _ _ _ _ _ _ z => z.elim⟩
end
end DL
end

section
set_option Elab.async false
set_option linter.all false
set_option maxRecDepth 100000
set_option maxHeartbeats 4000000
namespace DL
open PySem L2
open Evl (Ex)
/-! ### operations by values -/
section
variable {K : PySem.W.Frag} {S H S' H' : Hp}
theorem nwr_val {v : V} {d : D} (e : Ex S H) (h : Rep K S v d) : NwR K S H S H (.val d) v := ⟨.refl e, h⟩
theorem nwr_tup {p : Addr} {vs : List V} {ds : List D} (e : Ex S H) (hp : H p = none) (r : Reps K S vs ds) : NwR K S H (upd S p (.tup vs)) (upd H p (.tup vs)) (.val (.tup ds)) (.ref p) :=
  let n := Nw.add e (o := .tup vs) hp
  ⟨n, .tup (SqT.of upd_same) (r.mono n.ex)⟩
theorem nwr_lst {p : Addr} {vs : List V} {ds : List D} (e : Ex S H) (hp : H p = none) (r : Reps K S vs ds) : NwR K S H S (upd H p (.lst vs)) (.own ds) (.ref p) :=
  ⟨Nw.hid e hp, p, vs, rfl, hp, Evl.fresh_back e hp, upd_same, r⟩
end
/-- ints -/
def m2I (C : Int → Int → Prop) (g : Int → Int → D) : M2 := fun x y Q => match x, y with
  | .int i, .int j => C i j ∧ Q (.val (g i j))
  | _, _ => False
def m2I0 (g : Int → Int → D) : M2 := fun x y Q => match x, y with
  | .int i, .int j => Q (.val (g i j))
  | _, _ => False
theorem opd_I {K : PySem.W.Frag} {C : Int → Int → Prop} {g : Int → Int → V} {gd : Int → Int → D} (h : ∀ S i j, Rep K S (g i j) (gd i j)) : OpD K (rI C g) (m2I C gd) := by
  intro S H x y dx dy Q Qv e hx hy m k
  unfold m2I at m
  split at m
  · rename_i i j
    exact ⟨i, j, hx.int, hy.int, m.1, k _ _ _ _ (nwr_val e (h S i j)) m.2⟩
  · exact m.elim
theorem opd_I0 {K : PySem.W.Frag} {g : Int → Int → V} {gd : Int → Int → D} (h : ∀ S i j, Rep K S (g i j) (gd i j)) : OpD K (rI0 g) (m2I0 gd) := by
  intro S H x y dx dy Q Qv e hx hy m k
  unfold m2I0 at m
  split at m
  · rename_i i j
    exact ⟨i, j, hx.int, hy.int, k _ _ _ _ (nwr_val e (h S i j)) m⟩
  · exact m.elim
/-- either rule -/
theorem opd_or {K : PySem.W.Frag} {r r' : R2} {m m' : M2} (h : OpD K r m) (h' : OpD K r' m') : OpD K (fun x y H Q => r x y H Q ∨ r' x y H Q) (fun x y Q => m x y Q ∨ m' x y Q) := by
  intro S H x y dx dy Q Qv e hx hy m k
  rcases m with m | m
  · exact .inl (h S H x y dx dy Q Qv e hx hy m k)
  · exact .inr (h' S H x y dx dy Q Qv e hx hy m k)
theorem OpD.imp {K : PySem.W.Frag} {r : R2} {m m' : M2} (h : OpD K r m) (k : ∀ x y Q, m' x y Q → m x y Q) : OpD K r m' := fun S H x y dx dy Q Qv e hx hy q => h S H x y dx dy Q Qv e hx hy (k _ _ _ q)
/-- + -/
def mAdd : M2 := fun x y Q => match x, y with
  | .int i, .int j => Q (.val (.int (i + j)))
  | .str a, .str b => a.length + b.length ≤ sizeLine ∧ Q (.val (.str (a ++ b)))
  | .lst a, .lst b => a.length + b.length ≤ sizeLine ∧ Q (.own (a ++ b))
  | _, _ => False
def rAddA : R2 := fun x y H Q => rI0 (fun i j => .int (i + j)) x y H Q ∨ ((∃ i j, x = .str i ∧ y = .str j ∧ i.length + j.length ≤ sizeLine ∧ Q (.str (i ++ j)) H) ∨ rCat x y H Q)
theorem op_addA {X : Cx} : OpR X (binaryOp .Add) rAddA := OpR.or op_add (OpR.or op_add_str op_cat)
theorem opd_add {K : PySem.W.Frag} : OpD K rAddA mAdd := by
  intro S H x y dx dy Q Qv e hx hy m k
  unfold mAdd at m
  split at m
  · rename_i i j
    exact .inl ⟨i, j, hx.int, hy.int, k _ _ _ _ (nwr_val e (.int _)) m⟩
  · rename_i i j
    exact .inr (.inl ⟨i, j, hx.str, hy.str, m.1, k _ _ _ _ (nwr_val e (.str _)) m.2⟩)
  · rename_i a b
    obtain ⟨p, vs, rfl, h1, h2⟩ := hx.lstH e
    obtain ⟨q, ws, rfl, k1, k2⟩ := hy.lstH e
    exact .inr (.inr ⟨p, q, vs, ws, rfl, rfl, h1, k1, by rw [h2.length, k2.length]; exact m.1, fun u hu => k _ _ _ _ (nwr_lst e hu (h2.append k2)) m.2⟩)
  · exact m.elim
def mSub : M2 := m2I0 fun i j => .int (i - j)
def mMul : M2 := m2I CMul fun i j => .int (i * j)
def mDiv : M2 := m2I CDivW fun i j => .int (i / j)
def mMod : M2 := m2I (fun _ j => 0 < j) fun i j => .int (i % j)
def mPow : M2 := m2I CPow fun i j => .int (i ^ j.toNat)
theorem opd_sub {K : PySem.W.Frag} : OpD K (rI0 fun i j => .int (i - j)) mSub := opd_I0 fun _ _ _ => .int _
theorem opd_mul {K : PySem.W.Frag} : OpD K (rI CMul fun i j => .int (i * j)) mMul := opd_I fun _ _ _ => .int _
theorem opd_div {K : PySem.W.Frag} : OpD K (rI CDivW fun i j => .int (i / j)) mDiv := opd_I fun _ _ _ => .int _
theorem opd_mod {K : PySem.W.Frag} : OpD K (rI (fun _ j => 0 < j) fun i j => .int (i % j)) mMod := opd_I fun _ _ _ => .int _
theorem opd_pow {K : PySem.W.Frag} : OpD K (rI CPow fun i j => .int (i ^ j.toNat)) mPow := opd_I fun _ _ _ => .int _
/-- [..] * n -/
def mRep : M2 := fun x y Q => match x, y with
  | .lst a, .int k => (-(2 ^ 63) ≤ k ∧ k < 2 ^ 63 ∧ a.length * k.toNat ≤ sizeLine) ∧ Q (.own (List.replicate k.toNat a).flatten)
  | _, _ => False
theorem Reps.rep {K : PySem.W.Frag} {S : Hp} {vs : List V} {ds : List D} (h : Reps K S vs ds) : ∀ n : Nat, Reps K S (List.replicate n vs).flatten (List.replicate n ds).flatten
  | 0 => .nil
  | n + 1 => by
    rw [List.replicate_succ, List.replicate_succ, List.flatten_cons, List.flatten_cons]
    exact h.append (Reps.rep h n)
theorem opd_rep {K : PySem.W.Frag} : OpD K rRep mRep := by
  intro S H x y dx dy Q Qv e hx hy m k
  unfold mRep at m
  split at m
  · rename_i a j
    obtain ⟨p, vs, rfl, h1, h2⟩ := hx.lstH e
    exact ⟨p, j, vs, rfl, hy.int, h1, m.1.1, m.1.2.1, by rw [h2.length]; exact m.1.2.2, fun u hu => k _ _ _ _ (nwr_lst e hu (h2.rep _)) m.2⟩
  · exact m.elim
/-- comparisons of ints -/
def mLt : M2 := m2I0 fun i j => .bl (decide (i < j))
def mLe : M2 := m2I0 fun i j => .bl (decide (i ≤ j))
def mGt : M2 := m2I0 fun i j => .bl (decide (j < i))
def mGe : M2 := m2I0 fun i j => .bl (decide (j ≤ i))
theorem opd_lt {K : PySem.W.Frag} : OpD K (rI0 fun i j => .bl (decide (i < j))) mLt := opd_I0 fun _ _ _ => .bl _
theorem opd_le {K : PySem.W.Frag} : OpD K (rI0 fun i j => .bl (decide (i ≤ j))) mLe := opd_I0 fun _ _ _ => .bl _
theorem opd_gt {K : PySem.W.Frag} : OpD K (rI0 fun i j => .bl (decide (j < i))) mGt := opd_I0 fun _ _ _ => .bl _
theorem opd_ge {K : PySem.W.Frag} : OpD K (rI0 fun i j => .bl (decide (j ≤ i))) mGe := opd_I0 fun _ _ _ => .bl _
/-- ==, != of data -/
def mEq : M2 := fun x y Q => (okD x ∧ okD y) ∧ Q (.val (.bl (eqD x y)))
def mNe : M2 := fun x y Q => (okD x ∧ okD y) ∧ Q (.val (.bl (!eqD x y)))
theorem opd_eq {K : PySem.W.Frag} : OpD K (rEqD K) mEq := by
  intro S H x y dx dy Q Qv e hx hy m k
  exact ⟨_, _, hx.dp e m.1.1.1, hy.dp e m.1.2.1, m.1.1.2, m.1.2.2, k _ _ _ _ (nwr_val e (.bl _)) m.2⟩
theorem opd_ne {K : PySem.W.Frag} : OpD K (rNeD K) mNe := by
  intro S H x y dx dy Q Qv e hx hy m k
  exact ⟨_, _, hx.dp e m.1.1.1, hy.dp e m.1.2.1, m.1.1.2, m.1.2.2, k _ _ _ _ (nwr_val e (.bl _)) m.2⟩
/-- is None -/
def mIs : M2 := fun x y Q => match y with
  | .non => ∃ b, isNon x = some b ∧ Q (.val (.bl b))
  | _ => False
def mIsN : M2 := fun x y Q => match y with
  | .non => ∃ b, isNon x = some b ∧ Q (.val (.bl (!b)))
  | _ => False
theorem opd_is {K : PySem.W.Frag} : OpD K (fun x y H Q => y = .non ∧ Q (.bl (decide (x = .non))) H) mIs := by
  intro S H x y dx dy Q Qv e hx hy m k
  unfold mIs at m
  split at m
  · obtain ⟨b, h1, h2⟩ := m
    refine ⟨hy.non, ?_⟩
    rw [hx.isNon h1]
    exact k _ _ _ _ (nwr_val e (.bl _)) h2
  · exact m.elim
theorem opd_isN {K : PySem.W.Frag} : OpD K (fun x y H Q => y = .non ∧ Q (.bl (!decide (x = .non))) H) mIsN := by
  intro S H x y dx dy Q Qv e hx hy m k
  unfold mIsN at m
  split at m
  · obtain ⟨b, h1, h2⟩ := m
    refine ⟨hy.non, ?_⟩
    rw [hx.isNon h1]
    exact k _ _ _ _ (nwr_val e (.bl _)) h2
  · exact m.elim
end DL
namespace L2
open PySem PySem.Spec PyProof.Rows
section
variable {X : Cx}
/-- x in a tuple of data -/
def rInT (K : PySem.W.Frag) : R2 := fun x y H Q => ∃ d ds, Dp K H x d ∧ Dp K H y (.tuple ds) ∧ SeqAt.shaped d = true ∧ SeqAt.shaped (.tuple ds) = true ∧ Q (.bl (ds.any fun z => PyData.eqv z d)) H
def rNotInT (K : PySem.W.Frag) : R2 := fun x y H Q => ∃ d ds, Dp K H x d ∧ Dp K H y (.tuple ds) ∧ SeqAt.shaped d = true ∧ SeqAt.shaped (.tuple ds) = true ∧ Q (.bl (!ds.any fun z => PyData.eqv z d)) H
theorem op_inT (hu : X.A.units + 65 < cLine) : OpR X (compareOp .In) (rInT X.K) := by
  intro pins s σ H x y v u Q I rx ry h
  obtain ⟨d, ds, hd, he, sd, se, q⟩ := h
  obtain ⟨as, r1⟩ := Dp.reads I d x v hd rx
  obtain ⟨bs, r2⟩ := Dp.reads I (.tuple ds) y u he ry
  exact SeqAt.in_tuple_reads r2 r1 (SeqAt.canLay_of_shaped se) (SeqAt.canLay_of_shaped sd) (room_in_shaped sd hu) ⟨.bl _, H, I, rfl, q⟩
theorem op_notInT (hu : X.A.units + 65 < cLine) : OpR X (compareOp .NotIn) (rNotInT X.K) := by
  intro pins s σ H x y v u Q I rx ry h
  obtain ⟨d, ds, hd, he, sd, se, q⟩ := h
  obtain ⟨as, r1⟩ := Dp.reads I d x v hd rx
  obtain ⟨bs, r2⟩ := Dp.reads I (.tuple ds) y u he ry
  exact SeqAt.notIn_tuple_reads r2 r1 (SeqAt.canLay_of_shaped se) (SeqAt.canLay_of_shaped sd) (room_in_shaped sd hu) ⟨.bl _, H, I, rfl, q⟩
end
end L2
end

section
set_option Elab.async false
set_option linter.all false
set_option maxRecDepth 100000
set_option maxHeartbeats 4000000
namespace DL
open PySem L2
open Evl (Ex)
theorem toPys_map : ∀ l : List D, toPys l = l.map toPy
  | [] => by rw [toPys] <;> rfl
  | d :: l => by rw [toPys, toPys_map l] <;> rfl
def inD (x : D) (l : List D) : Bool := l.any fun z => eqD z x
/-- in, not in: lists, tuples -/
def mIn : M2 := fun x y Q => match y with
  | .lst l => (okD x ∧ okD y) ∧ Q (.val (.bl (inD x l)))
  | .tup l => (okD x ∧ okD y) ∧ Q (.val (.bl (inD x l)))
  | _ => False
def mNotIn : M2 := fun x y Q => match y with
  | .lst l => (okD x ∧ okD y) ∧ Q (.val (.bl (!inD x l)))
  | .tup l => (okD x ∧ okD y) ∧ Q (.val (.bl (!inD x l)))
  | _ => False
theorem inD_py (x : D) (l : List D) : ((toPys l).any fun z => PyData.eqv z (toPy x)) = inD x l := by
  rw [toPys_map, List.any_map]
  rfl
def rInA (K : PySem.W.Frag) : R2 := fun x y H Q => rInD K x y H Q ∨ rInT K x y H Q
def rNotInA (K : PySem.W.Frag) : R2 := fun x y H Q => rNotInD K x y H Q ∨ rNotInT K x y H Q
theorem op_inA {X : Cx} (hu : X.A.units + 65 < cLine) : OpR X (compareOp .In) (rInA X.K) := OpR.or (op_inD hu) (op_inT hu)
theorem op_notInA {X : Cx} (hu : X.A.units + 65 < cLine) : OpR X (compareOp .NotIn) (rNotInA X.K) := OpR.or (op_notInD hu) (op_notInT hu)
theorem opd_in {K : PySem.W.Frag} : OpD K (rInA K) mIn := by
  intro S H x y dx dy Q Qv e hx hy m k
  unfold mIn at m
  split at m
  · rename_i l
    have q := hy.dp e m.1.2.1
    have s := m.1.2.2
    rw [toPy] at q s
    exact .inl ⟨_, _, hx.dp e m.1.1.1, q, m.1.1.2, s, by rw [inD_py]; exact k _ _ _ _ (nwr_val e (.bl _)) m.2⟩
  · rename_i l
    have q := hy.dp e m.1.2.1
    have s := m.1.2.2
    rw [toPy] at q s
    exact .inr ⟨_, _, hx.dp e m.1.1.1, q, m.1.1.2, s, by rw [inD_py]; exact k _ _ _ _ (nwr_val e (.bl _)) m.2⟩
  · exact m.elim
theorem opd_notIn {K : PySem.W.Frag} : OpD K (rNotInA K) mNotIn := by
  intro S H x y dx dy Q Qv e hx hy m k
  unfold mNotIn at m
  split at m
  · rename_i l
    have q := hy.dp e m.1.2.1
    have s := m.1.2.2
    rw [toPy] at q s
    exact .inl ⟨_, _, hx.dp e m.1.1.1, q, m.1.1.2, s, by rw [inD_py]; exact k _ _ _ _ (nwr_val e (.bl _)) m.2⟩
  · rename_i l
    have q := hy.dp e m.1.2.1
    have s := m.1.2.2
    rw [toPy] at q s
    exact .inr ⟨_, _, hx.dp e m.1.1.1, q, m.1.1.2, s, by rw [inD_py]; exact k _ _ _ _ (nwr_val e (.bl _)) m.2⟩
  · exact m.elim
/-- x[i] -/
def mIx : M2 := fun x y Q => match x, y with
  | .lst l, .int i => ∃ d, atI l i = some d ∧ Q (.val d)
  | .tup l, .int i => ∃ d, atI l i = some d ∧ Q (.val d)
  | .str z, .int i => ∃ c, (z.length ≤ sizeLine ∧ atI z.cps.toList i = some c) ∧ Q (.val (.str ⟨#[c]⟩))
  | _, _ => False
theorem Reps.atI {K : PySem.W.Frag} {S : Hp} {vs : List V} {ds : List D} {i : Int} {d : D} (r : Reps K S vs ds) (h : L2.atI ds i = some d) : ∃ v, L2.atI vs i = some v ∧ Rep K S v d := by
  unfold L2.atI at h ⊢
  rw [r.length]
  cases q : ixN ds.length i with
  | none =>
    rw [q] at h
    cases h
  | some j =>
    rw [q] at h
    exact r.get h
theorem opd_ix {K : PySem.W.Frag} : OpD K (rIx K) mIx := by
  intro S H x y dx dy Q Qv e hx hy m k
  unfold mIx at m
  split at m
  · rename_i l i
    obtain ⟨d, h1, h2⟩ := m
    obtain ⟨p, vs, rfl, k1, k2⟩ := hx.lst e
    obtain ⟨v, q1, q2⟩ := k2.atI h1
    exact .inl ⟨p, vs, i, v, rfl, hy.int, k1, q1, k _ _ _ _ (nwr_val e q2) h2⟩
  · rename_i l i
    obtain ⟨d, h1, h2⟩ := m
    obtain ⟨p, vs, rfl, k1, k2⟩ := hx.tup e
    obtain ⟨v, q1, q2⟩ := k2.atI h1
    exact .inr (.inl ⟨p, vs, i, v, rfl, hy.int, k1, q1, k _ _ _ _ (nwr_val e q2) h2⟩)
  · rename_i z i
    obtain ⟨c, h1, h2⟩ := m
    exact .inr (.inr ⟨z, i, c, hx.str, hy.int, h1.1, h1.2, k _ _ _ _ (nwr_val e (.str _)) h2⟩)
  · exact m.elim
/-- x[a:b] -/
def cutD (xs : List D) (lo hi : Option Int) : List D := (xs.drop (HT.sIx xs.length 0 lo)).take (HT.sIx xs.length xs.length hi - HT.sIx xs.length 0 lo)
theorem Reps.cut {K : PySem.W.Frag} {S : Hp} {vs : List V} {ds : List D} (r : Reps K S vs ds) (lo hi : Option Int) : Reps K S (cutV vs lo hi) (cutD ds lo hi) := by
  unfold cutV cutD
  rw [r.length]
  exact (r.drop _).take _
abbrev M3 := D → Option Int → Option Int → (R → Prop) → Prop
def mSl : M3 := fun x lo hi Q => match x with
  | .lst l => Q (.own (cutD l lo hi))
  | .tup l => ¬ (HT.sIx l.length 0 lo = 0 ∧ HT.sIx l.length l.length hi = l.length) ∧ Q (.val (.tup (cutD l lo hi)))
  | .str z => z.length ≤ sizeLine ∧ Q (.val (.str (cutS z lo hi)))
  | _ => False
def rSl (K : PySem.W.Frag) : V → Option Int → Option Int → Hp → VK → Prop := fun x lo hi H Q => rSlL K x lo hi H Q ∨ (rSlT K x lo hi H Q ∨ rSlS x lo hi H Q)
theorem sl_any {X : Cx} : SlR X (rSl X.K) := sl_list.or (sl_tup.or sl_str)
abbrev DOM := En → (En → Option Int → Prop) → Prop
def DO (X : Cx) (e : Option Expr) (m : DOM) (t : TO) : Prop := PO X e t ∧ ∀ (B : Bs) (S H : Hp) (env : En) (σ : St) (Q : En → Option Int → Prop) (Qv : Option Int → Hp → Prop), SR X.K B S H env σ → m env Q →
  (∀ o H' S' env', TPo X.K B S H env σ S' H' env' → Q env' o → Qv o H') → t σ H Qv
def dNoPart : DOM := fun env Q => Q env none
def dPart (m : DM) : DOM := fun env Q => m env fun env' r => match r with
  | .val (.int i) => Q env' (some i)
  | _ => False
section
variable {X : Cx} {a b c e o : Expr} {ma mb me mo : DM} {pos : Pos} {ta tb te to : TE}
theorem do_none : DO X none dNoPart tNoPart := ⟨po_none, fun B S H env σ Q Qv s q k => k none H S env (.refl s) q⟩
theorem do_some (ha : DE X a ma ta) : DO X (some a) (dPart ma) (tPart ta) := by
  refine ⟨po_some ha.1, fun B S H env σ Q Qv s q k => ha.2 B S H env σ _ _ s q fun v H' S' env' r z q' => ?_⟩
  split at q'
  · rename_i i
    have zr : Rep X.K S' v (.int i) := z.res
    cases zr
    exact ⟨i, rfl, k _ H' S' env' z.t q'⟩
  · exact q'.elim
def dSl (m : DM) (l h : DOM) : DM := fun env Q => m env fun env1 r => l env1 fun env2 lo => h env2 fun env3 hi => mSl r.data lo hi fun q => Q env3 q
theorem de_slice {lo hi : Option Expr} {ml mh : DOM} {tl th : TO} {p2 : Pos} (ha : DE X a ma ta) (hl : DO X lo ml tl) (hh : DO X hi mh th) : DE X (.Subscript a (.Slice lo hi none p2) pos) (dSl ma ml mh) (tSl (rSl X.K) ta tl th) := by
  refine ⟨pe_slice sl_any ha.1 hl.1 hh.1, fun B S H env σ Q Qv s q k => ha.2 B S H env σ _ _ s q fun v H1 S1 env1 r z1 q1 => ?_⟩
  refine hl.2 B S1 H1 env1 σ _ _ z1.sr q1 fun lo H2 S2 env2 z2 q2 => ?_
  refine hh.2 B S2 H2 env2 σ _ _ z2.sr q2 fun hi H3 S3 env3 z3 q3 => ?_
  have z := (z1.t.trans z2).trans z3
  have hx := RepB.go z1 rfl (z2.trans z3)
  have e := z3.sr.ex
  unfold mSl at q3
  split at q3
  · rename_i l c
    rw [c] at hx
    obtain ⟨p, vs, rfl, k1, k2⟩ := hx.lst e
    exact .inl ⟨p, vs, rfl, k1, fun u hu => k _ _ _ env3 (.own _) (.fin z (q := .own _) (nwr_lst e hu (k2.cut lo hi))) q3⟩
  · rename_i l c
    rw [c] at hx
    obtain ⟨p, vs, rfl, k1, k2⟩ := hx.tup e
    refine .inr (.inl ⟨p, vs, rfl, k1, ?_, fun u hu => k _ _ _ env3 (.val _) (.fin z (q := .val _) (nwr_tup e hu (k2.cut lo hi))) q3.2⟩)
    rw [k2.length]
    exact q3.1
  · rename_i y c
    rw [c] at hx
    exact .inr (.inr ⟨y, hx.str, q3.1, k _ _ _ env3 (.val _) (.fin z (q := .val _) (nwr_val e (.str _))) q3.2⟩)
  · exact q3.elim
end
/-! ### built-ins by values -/
section
variable {K : PySem.W.Frag}
def mLen : MA := fun ds Q => match ds with
  | [.lst l] => Q (.val (.int l.length))
  | [.tup l] => Q (.val (.int l.length))
  | [.str z] => z.length ≤ sizeLine ∧ Q (.val (.int z.length))
  | _ => False
theorem RepBs.one {S H : Hp} {vs : List V} {d : D} (h : RepBs K S H vs [d]) : ∃ v, vs = [v] ∧ RepB K S H v d := by
  cases h with
  | cons h r =>
    cases r
    exact ⟨_, rfl, h⟩
theorem RepBs.two {S H : Hp} {vs : List V} {d d2 : D} (h : RepBs K S H vs [d, d2]) : ∃ v w, vs = [v, w] ∧ RepB K S H v d ∧ RepB K S H w d2 := by
  cases h with
  | cons h r =>
    cases r with
    | cons h2 r =>
      cases r
      exact ⟨_, _, rfl, h, h2⟩
theorem cd_len : CallD K (fun xs H Q => ∃ x n, xs = [x] ∧ LenV K x H n ∧ Q (.int n) H) mLen := by
  intro S H vs ds Q Qv e r m k
  unfold mLen at m
  split at m
  · rename_i l
    obtain ⟨v, rfl, h⟩ := r.one
    obtain ⟨p, ws, rfl, k1, k2⟩ := h.lst e
    exact ⟨_, l.length, rfl, .inl ⟨ws, k1, k2.length.symm⟩, k _ _ _ _ (nwr_val e (.int _)) m⟩
  · rename_i l
    obtain ⟨v, rfl, h⟩ := r.one
    obtain ⟨p, ws, rfl, k1, k2⟩ := h.tup e
    exact ⟨_, l.length, rfl, .inr ⟨ws, k1, k2.length.symm⟩, k _ _ _ _ (nwr_val e (.int _)) m⟩
  · rename_i z
    obtain ⟨v, rfl, h⟩ := r.one
    rw [h.str]
    exact ⟨_, z.length, rfl, ⟨m.1, rfl⟩, k _ _ _ _ (nwr_val e (.int _)) m.2⟩
  · exact m.elim
/-- either rule, of calls -/
theorem cd_or {r r' : List V → Hp → VK → Prop} {m m' : MA} (h : CallD K r m) (h' : CallD K r' m') : CallD K (fun xs H Q => r xs H Q ∨ r' xs H Q) (fun ds Q => m ds Q ∨ m' ds Q) := by
  intro S H vs ds Q Qv e r m k
  rcases m with m | m
  · exact .inl (h S H vs ds Q Qv e r m k)
  · exact .inr (h' S H vs ds Q Qv e r m k)
def mInt : MA := fun ds Q => match ds with
  | [.int i] => Q (.val (.int i))
  | [.bl b] => Q (.val (.int (if b then 1 else 0)))
  | [.str a] => ∃ n, (PySem.intText? a = some n ∧ a.length ≤ 640) ∧ Q (.val (.int n))
  | _ => False
def rInt : List V → Hp → VK → Prop := fun xs H Q => ((∃ i, xs = [.int i] ∧ Q (.int i) H) ∨ ∃ k, xs = [.bl k] ∧ Q (.int (if k then 1 else 0)) H) ∨ (∃ a n, xs = [.str a] ∧ PySem.intText? a = some n ∧ a.length ≤ 640 ∧ Q (.int n) H)
theorem call_intA {X : Cx} : CallR X (.type "int") rInt := CallR.or call_int1 call_int_str
theorem cd_int : CallD K rInt mInt := by
  intro S H vs ds Q Qv e r m k
  unfold mInt at m
  split at m
  · rename_i i
    obtain ⟨v, rfl, h⟩ := r.one
    exact .inl (.inl ⟨i, by rw [h.int], k _ _ _ _ (nwr_val e (.int _)) m⟩)
  · rename_i b
    obtain ⟨v, rfl, h⟩ := r.one
    exact .inl (.inr ⟨b, by rw [h.bl], k _ _ _ _ (nwr_val e (.int _)) m⟩)
  · rename_i a
    obtain ⟨v, rfl, h⟩ := r.one
    obtain ⟨n, h1, h2⟩ := m
    exact .inr ⟨a, n, by rw [h.str], h1.1, h1.2, k _ _ _ _ (nwr_val e (.int _)) h2⟩
  · exact m.elim
def mStr : MA := fun ds Q => match ds with
  | [.int i] => i.natAbs.log2 < 1920 ∧ Q (.val (.str (toString i)))
  | _ => False
theorem cd_str : CallD K (fun xs H Q => ∃ i : Int, xs = [.int i] ∧ i.natAbs.log2 < 1920 ∧ Q (.str (toString i)) H) mStr := by
  intro S H vs ds Q Qv e r m k
  unfold mStr at m
  split at m
  · rename_i i
    obtain ⟨v, rfl, h⟩ := r.one
    exact ⟨i, by rw [h.int], m.1, k _ _ _ _ (nwr_val e (.str _)) m.2⟩
  · exact m.elim
def mList : MA := fun ds Q => match ds with
  | [.lst l] => Q (.own l)
  | [.tup l] => Q (.own l)
  | [.scr ns] => Q (.own (ns.map D.int))
  | _ => False
theorem RepB.scr {S H : Hp} (e : Ex S H) {v : V} {ns : List Int} (h : RepB K S H v (.scr ns)) : ∃ p, v = .ref p ∧ SqL K H p (ns.map V.int) := by
  rcases h with h | ⟨p, vs, l, rfl, h2, h3, h4⟩
  · cases h with
    | scr h => exact ⟨_, rfl, Evl.ex_l e h⟩
  · cases h2
theorem cd_list : CallD K (fun xs H Q => ∃ p ys, xs = [.ref p] ∧ (SqL K H p ys ∨ SqT K H p ys) ∧ ∀ l, H l = none → Q (.ref l) (upd H l (.lst ys))) mList := by
  intro S H vs ds Q Qv e r m k
  unfold mList at m
  split at m
  · rename_i l
    obtain ⟨v, rfl, h⟩ := r.one
    obtain ⟨p, ws, rfl, k1, k2⟩ := h.lst e
    exact ⟨p, ws, rfl, .inl k1, fun u hu => k _ _ _ _ (nwr_lst e hu k2) m⟩
  · rename_i l
    obtain ⟨v, rfl, h⟩ := r.one
    obtain ⟨p, ws, rfl, k1, k2⟩ := h.tup e
    exact ⟨p, ws, rfl, .inr k1, fun u hu => k _ _ _ _ (nwr_lst e hu k2) m⟩
  · rename_i ns
    obtain ⟨v, rfl, h⟩ := r.one
    obtain ⟨p, rfl, k1⟩ := h.scr e
    exact ⟨p, ns.map V.int, rfl, .inl k1, fun u hu => k _ _ _ _ (nwr_lst e hu (Reps.ints ns)) m⟩
  · exact m.elim
def mTuple : MA := fun ds Q => match ds with
  | [.lst l] => Q (.val (.tup l))
  | [.tup l] => Q (.val (.tup l))
  | _ => False
theorem cd_tuple : CallD K (fun xs H Q => ∃ p ys, xs = [.ref p] ∧ ((SqL K H p ys ∧ ∀ l, H l = none → Q (.ref l) (upd H l (.tup ys))) ∨ (SqT K H p ys ∧ Q (.ref p) H))) mTuple := by
  intro S H vs ds Q Qv e r m k
  unfold mTuple at m
  split at m
  · rename_i l
    obtain ⟨v, rfl, h⟩ := r.one
    obtain ⟨p, ws, rfl, k1, k2⟩ := h.lst e
    exact ⟨p, ws, rfl, .inl ⟨k1, fun u hu => k _ _ _ _ (nwr_tup e hu k2) m⟩⟩
  · rename_i l
    obtain ⟨v, rfl, h⟩ := r.one
    rcases h with h | ⟨p, ws, l', rfl, h2, _⟩
    · cases h with
      | tup h r => exact ⟨_, _, rfl, .inr ⟨Evl.ex_t e h, k _ _ _ _ (nwr_val e (.tup h r)) m⟩⟩
    · cases h2
  · exact m.elim
/-- a list of ints -/
def intsOf : List D → Option (List Int)
  | [] => some []
  | .int i :: r => (intsOf r).map (i :: ·)
  | _ => none
theorem intsOf_map (l : List Int) : intsOf (l.map D.int) = some l := by
  induction l with
  | nil => rfl
  | cons i l ih =>
    show (intsOf (l.map D.int)).map (i :: ·) = _
    rw [ih]
    rfl
theorem intsOf_eq : ∀ {ds : List D} {l : List Int}, intsOf ds = some l → ds = l.map D.int
  | [], l, h => by cases h; rfl
  | .int i :: r, l, h => by
    have h' : (intsOf r).map (i :: ·) = some l := h
    cases q : intsOf r with
    | none => rw [q] at h'; cases h'
    | some l2 =>
      rw [q] at h'
      cases h'
      rw [intsOf_eq q]
      rfl
  | .non :: _, _, h => by cases h
  | .bl _ :: _, _, h => by cases h
  | .str _ :: _, _, h => by cases h
  | .tup _ :: _, _, h => by cases h
  | .lst _ :: _, _, h => by cases h
  | .ins _ _ _ :: _, _, h => by cases h
  | .any :: _, _, h => by cases h
def mSum : MA := fun ds Q => match ds with
  | [.lst l] => ∃ ns, intsOf l = some ns ∧ Q (.val (.int ns.sum))
  | _ => False
theorem cd_sum : CallD K (rSum K) mSum := by
  intro S H vs ds Q Qv e r m k
  unfold mSum at m
  split at m
  · rename_i l
    obtain ⟨ns, h1, h2⟩ := m
    obtain ⟨v, rfl, h⟩ := r.one
    obtain ⟨p, ws, rfl, k1, k2⟩ := h.lst e
    rw [intsOf_eq h1] at k2
    rw [k2.ints_inv] at k1
    exact ⟨p, ns, rfl, k1, k _ _ _ _ (nwr_val e (.int _)) h2⟩
  · exact m.elim
def mMin1 : MA := fun ds Q => match ds with
  | [.lst l] => ∃ ns, intsOf l = some ns ∧ 0 < ns.length ∧ ∀ m, m ∈ ns → (∀ y, y ∈ ns → m ≤ y) → Q (.val (.int m))
  | _ => False
theorem cd_min1 : CallD K (rMin K) mMin1 := by
  intro S H vs ds Q Qv e r m k
  unfold mMin1 at m
  split at m
  · rename_i l
    obtain ⟨ns, h1, h2, h3⟩ := m
    obtain ⟨v, rfl, h⟩ := r.one
    obtain ⟨p, ws, rfl, k1, k2⟩ := h.lst e
    rw [intsOf_eq h1] at k2
    rw [k2.ints_inv] at k1
    exact ⟨p, ns, rfl, k1, h2, fun j a b => k _ _ _ _ (nwr_val e (.int _)) (h3 j a b)⟩
  · exact m.elim
def mMax1 : MA := fun ds Q => match ds with
  | [.lst l] => ∃ ns, intsOf l = some ns ∧ 0 < ns.length ∧ ∀ m, m ∈ ns → (∀ y, y ∈ ns → y ≤ m) → Q (.val (.int m))
  | _ => False
theorem cd_max1 : CallD K (rMax K) mMax1 := by
  intro S H vs ds Q Qv e r m k
  unfold mMax1 at m
  split at m
  · rename_i l
    obtain ⟨ns, h1, h2, h3⟩ := m
    obtain ⟨v, rfl, h⟩ := r.one
    obtain ⟨p, ws, rfl, k1, k2⟩ := h.lst e
    rw [intsOf_eq h1] at k2
    rw [k2.ints_inv] at k1
    exact ⟨p, ns, rfl, k1, h2, fun j a b => k _ _ _ _ (nwr_val e (.int _)) (h3 j a b)⟩
  · exact m.elim
def mMin2 : MA := fun ds Q => match ds with
  | [.int i, .int j] => Q (.val (.int (if j < i then j else i)))
  | _ => False
def mMax2 : MA := fun ds Q => match ds with
  | [.int i, .int j] => Q (.val (.int (if j > i then j else i)))
  | _ => False
theorem cd_min2 : CallD K (fun xs H Q => ∃ i j, xs = [.int i, .int j] ∧ Q (.int (if j < i then j else i)) H) mMin2 := by
  intro S H vs ds Q Qv e r m k
  unfold mMin2 at m
  split at m
  · rename_i i j
    obtain ⟨v, w, rfl, h1, h2⟩ := r.two
    exact ⟨i, j, by rw [h1.int, h2.int], k _ _ _ _ (nwr_val e (.int _)) m⟩
  · exact m.elim
theorem cd_max2 : CallD K (fun xs H Q => ∃ i j, xs = [.int i, .int j] ∧ Q (.int (if j > i then j else i)) H) mMax2 := by
  intro S H vs ds Q Qv e r m k
  unfold mMax2 at m
  split at m
  · rename_i i j
    obtain ⟨v, w, rfl, h1, h2⟩ := r.two
    exact ⟨i, j, by rw [h1.int, h2.int], k _ _ _ _ (nwr_val e (.int _)) m⟩
  · exact m.elim
/-- a list of truth values -/
def blsOf : List D → Option (List Bool)
  | [] => some []
  | .bl i :: r => (blsOf r).map (i :: ·)
  | _ => none
theorem blsOf_map (l : List Bool) : blsOf (l.map D.bl) = some l := by
  induction l with
  | nil => rfl
  | cons i l ih =>
    show (blsOf (l.map D.bl)).map (i :: ·) = _
    rw [ih]
    rfl
theorem blsOf_eq : ∀ {ds : List D} {l : List Bool}, blsOf ds = some l → ds = l.map D.bl
  | [], l, h => by cases h; rfl
  | .bl i :: r, l, h => by
    have h' : (blsOf r).map (i :: ·) = some l := h
    cases q : blsOf r with
    | none => rw [q] at h'; cases h'
    | some l2 =>
      rw [q] at h'
      cases h'
      rw [blsOf_eq q]
      rfl
  | .non :: _, _, h => by cases h
  | .int _ :: _, _, h => by cases h
  | .str _ :: _, _, h => by cases h
  | .tup _ :: _, _, h => by cases h
  | .lst _ :: _, _, h => by cases h
  | .ins _ _ _ :: _, _, h => by cases h
  | .any :: _, _, h => by cases h
def mAll : MA := fun ds Q => match ds with
  | [.lst l] => ∃ bs, blsOf l = some bs ∧ Q (.val (.bl (bs.all id)))
  | _ => False
theorem cd_all : CallD K (rAll K) mAll := by
  intro S H vs ds Q Qv e r m k
  unfold mAll at m
  split at m
  · rename_i l
    obtain ⟨ns, h1, h2⟩ := m
    obtain ⟨v, rfl, h⟩ := r.one
    obtain ⟨p, ws, rfl, k1, k2⟩ := h.lst e
    rw [blsOf_eq h1] at k2
    rw [k2.bls_inv] at k1
    exact ⟨p, ns, rfl, k1, k _ _ _ _ (nwr_val e (.bl _)) h2⟩
  · exact m.elim
def mAny : MA := fun ds Q => match ds with
  | [.lst l] => ∃ bs, blsOf l = some bs ∧ Q (.val (.bl (bs.any id)))
  | _ => False
theorem cd_any : CallD K (rAny K) mAny := by
  intro S H vs ds Q Qv e r m k
  unfold mAny at m
  split at m
  · rename_i l
    obtain ⟨ns, h1, h2⟩ := m
    obtain ⟨v, rfl, h⟩ := r.one
    obtain ⟨p, ws, rfl, k1, k2⟩ := h.lst e
    rw [blsOf_eq h1] at k2
    rw [k2.bls_inv] at k1
    exact ⟨p, ns, rfl, k1, k _ _ _ _ (nwr_val e (.bl _)) h2⟩
  · exact m.elim
def mSortI : MA := fun ds Q => match ds with
  | [.lst l] => ∃ ns, intsOf l = some ns ∧ ∀ ns' : List Int, ns'.Perm ns → ns'.Pairwise (· ≤ ·) → Q (.own (ns'.map D.int))
  | _ => False
theorem cd_sortI : CallD K (rSortedI K) mSortI := by
  intro S H vs ds Q Qv e r m k
  unfold mSortI at m
  split at m
  · rename_i l
    obtain ⟨ns, h1, h2⟩ := m
    obtain ⟨v, rfl, h⟩ := r.one
    obtain ⟨p, ws, rfl, k1, k2⟩ := h.lst e
    rw [intsOf_eq h1] at k2
    rw [k2.ints_inv] at k1
    exact ⟨p, ns, rfl, k1, fun ns' u hp hs hu => k _ _ _ _ (nwr_lst e hu (Reps.ints ns')) (h2 ns' hp hs)⟩
  · exact m.elim
end
/-! ### isinstance with a built-in class -/
def tyD : D → Option String
  | .non => some "NoneType"
  | .bl _ => some "bool"
  | .int _ => some "int"
  | .str _ => some "str"
  | .tup _ => some "tuple"
  | .lst _ => some "list"
  | _ => none
/-- the built-in classes that are asked for -/
inductive BT where
  | tuple | list | bool | int | str
def BT.name : BT → String
  | .tuple => "tuple"
  | .list => "list"
  | .bool => "bool"
  | .int => "int"
  | .str => "str"
def isTup : D → Bool
  | .tup _ => true
  | _ => false
def isLst : D → Bool
  | .lst _ => true
  | _ => false
def isBl : D → Bool
  | .bl _ => true
  | _ => false
def isIntB : D → Bool
  | .int _ => true
  | .bl _ => true
  | _ => false
def isStr : D → Bool
  | .str _ => true
  | _ => false
def isNo : D → Bool
  | .non => true
  | _ => false
/-- has it a built-in class? -/
def hasTy : D → Bool
  | .ins _ _ _ => false
  | .any => false
  | .err _ _ _ _ _ => false
  | .scr _ => false
  | .dct _ _ => false
  | _ => true
def isB (T : BT) (x : D) : Option Bool := match hasTy x with
  | false => none
  | true => match T with
    | .tuple => some (isTup x)
    | .list => some (isLst x)
    | .bool => some (isBl x)
    | .int => some (isIntB x)
    | .str => some (isStr x)
def mIsi (T : BT) : M1 := fun x Q => ∃ b, isB T x = some b ∧ Q (.val (.bl b))
theorem kb_NoneType_tuple : kitB "NoneType" "tuple" = some false := by decide +kernel
theorem kb_NoneType_list : kitB "NoneType" "list" = some false := by decide +kernel
theorem kb_NoneType_bool : kitB "NoneType" "bool" = some false := by decide +kernel
theorem kb_NoneType_int : kitB "NoneType" "int" = some false := by decide +kernel
theorem kb_NoneType_str : kitB "NoneType" "str" = some false := by decide +kernel
theorem kb_bool_tuple : kitB "bool" "tuple" = some false := by decide +kernel
theorem kb_bool_list : kitB "bool" "list" = some false := by decide +kernel
theorem kb_bool_bool : kitB "bool" "bool" = some true := by decide +kernel
theorem kb_bool_int : kitB "bool" "int" = some true := by decide +kernel
theorem kb_bool_str : kitB "bool" "str" = some false := by decide +kernel
theorem kb_int_tuple : kitB "int" "tuple" = some false := by decide +kernel
theorem kb_int_list : kitB "int" "list" = some false := by decide +kernel
theorem kb_int_bool : kitB "int" "bool" = some false := by decide +kernel
theorem kb_int_int : kitB "int" "int" = some true := by decide +kernel
theorem kb_int_str : kitB "int" "str" = some false := by decide +kernel
theorem kb_str_tuple : kitB "str" "tuple" = some false := by decide +kernel
theorem kb_str_list : kitB "str" "list" = some false := by decide +kernel
theorem kb_str_bool : kitB "str" "bool" = some false := by decide +kernel
theorem kb_str_int : kitB "str" "int" = some false := by decide +kernel
theorem kb_str_str : kitB "str" "str" = some true := by decide +kernel
theorem kb_tuple_tuple : kitB "tuple" "tuple" = some true := by decide +kernel
theorem kb_tuple_list : kitB "tuple" "list" = some false := by decide +kernel
theorem kb_tuple_bool : kitB "tuple" "bool" = some false := by decide +kernel
theorem kb_tuple_int : kitB "tuple" "int" = some false := by decide +kernel
theorem kb_tuple_str : kitB "tuple" "str" = some false := by decide +kernel
theorem kb_list_tuple : kitB "list" "tuple" = some false := by decide +kernel
theorem kb_list_list : kitB "list" "list" = some true := by decide +kernel
theorem kb_list_bool : kitB "list" "bool" = some false := by decide +kernel
theorem kb_list_int : kitB "list" "int" = some false := by decide +kernel
theorem kb_list_str : kitB "list" "str" = some false := by decide +kernel
theorem isB_kit {T : BT} {x : D} {b : Bool} (h : isB T x = some b) : ∃ t, tyD x = some t ∧ kitB t T.name = some b := by
  cases x with
  | ins C ns l => cases h
  | any => cases h
  | err _ _ _ _ _ => cases h
  | scr _ => cases h
  | dct _ _ => cases h
  | non => cases T with
    | tuple => cases h; exact ⟨_, rfl, kb_NoneType_tuple⟩
    | list => cases h; exact ⟨_, rfl, kb_NoneType_list⟩
    | bool => cases h; exact ⟨_, rfl, kb_NoneType_bool⟩
    | int => cases h; exact ⟨_, rfl, kb_NoneType_int⟩
    | str => cases h; exact ⟨_, rfl, kb_NoneType_str⟩
  | bl c => cases T with
    | tuple => cases h; exact ⟨_, rfl, kb_bool_tuple⟩
    | list => cases h; exact ⟨_, rfl, kb_bool_list⟩
    | bool => cases h; exact ⟨_, rfl, kb_bool_bool⟩
    | int => cases h; exact ⟨_, rfl, kb_bool_int⟩
    | str => cases h; exact ⟨_, rfl, kb_bool_str⟩
  | int c => cases T with
    | tuple => cases h; exact ⟨_, rfl, kb_int_tuple⟩
    | list => cases h; exact ⟨_, rfl, kb_int_list⟩
    | bool => cases h; exact ⟨_, rfl, kb_int_bool⟩
    | int => cases h; exact ⟨_, rfl, kb_int_int⟩
    | str => cases h; exact ⟨_, rfl, kb_int_str⟩
  | str c => cases T with
    | tuple => cases h; exact ⟨_, rfl, kb_str_tuple⟩
    | list => cases h; exact ⟨_, rfl, kb_str_list⟩
    | bool => cases h; exact ⟨_, rfl, kb_str_bool⟩
    | int => cases h; exact ⟨_, rfl, kb_str_int⟩
    | str => cases h; exact ⟨_, rfl, kb_str_str⟩
  | tup c => cases T with
    | tuple => cases h; exact ⟨_, rfl, kb_tuple_tuple⟩
    | list => cases h; exact ⟨_, rfl, kb_tuple_list⟩
    | bool => cases h; exact ⟨_, rfl, kb_tuple_bool⟩
    | int => cases h; exact ⟨_, rfl, kb_tuple_int⟩
    | str => cases h; exact ⟨_, rfl, kb_tuple_str⟩
  | lst c => cases T with
    | tuple => cases h; exact ⟨_, rfl, kb_list_tuple⟩
    | list => cases h; exact ⟨_, rfl, kb_list_list⟩
    | bool => cases h; exact ⟨_, rfl, kb_list_bool⟩
    | int => cases h; exact ⟨_, rfl, kb_list_int⟩
    | str => cases h; exact ⟨_, rfl, kb_list_str⟩
end DL
end

section
set_option Elab.async false
set_option linter.all false
set_option maxRecDepth 100000
set_option maxHeartbeats 4000000
namespace DL
open PySem L2
open Evl (Ex)
/-- a op b op' c -/
def dChain (m m' : M2) (ma mb mc : DM) : DM := fun env Q => ma env fun env1 x => mb env1 fun env2 y => m x.data y.data fun q => match q with
  | .val (.bl k) => dIte k (mc env2 fun env3 z => m' y.data z.data fun q => Q env3 q) (Q env2 (.val (.bl false)))
  | _ => False
/-- ints or texts -/
def m2S (p : List Nat → List Nat → Bool) (g : Int → Int → Bool) : M2 := fun x y Q => match x, y with
  | .int i, .int j => Q (.val (.bl (g i j)))
  | .str i, .str j => Q (.val (.bl (p i.cps.toList j.cps.toList)))
  | _, _ => False
def r2S (p : List Nat → List Nat → Bool) (g : Int → Int → Bool) : R2 := fun x y H Q => rI0 (fun i j => .bl (g i j)) x y H Q ∨ ∃ i j, x = .str i ∧ y = .str j ∧ Q (.bl (p i.cps.toList j.cps.toList)) H
theorem opd_S {K : PySem.W.Frag} {p : List Nat → List Nat → Bool} {g : Int → Int → Bool} : OpD K (r2S p g) (m2S p g) := by
  intro S H x y dx dy Q Qv e hx hy m k
  unfold m2S at m
  split at m
  · rename_i i j
    exact .inl ⟨i, j, hx.int, hy.int, k _ _ _ _ (nwr_val e (.bl _)) m⟩
  · rename_i i j
    exact .inr ⟨i, j, hx.str, hy.str, k _ _ _ _ (nwr_val e (.bl _)) m⟩
  · exact m.elim
abbrev mLtA : M2 := m2S (fun i j => decide (i < j)) fun i j => decide (i < j)
abbrev mLeA : M2 := m2S (fun i j => !decide (j < i)) fun i j => decide (i ≤ j)
abbrev mGtA : M2 := m2S (fun i j => decide (j < i)) fun i j => decide (j < i)
abbrev mGeA : M2 := m2S (fun i j => !decide (i < j)) fun i j => decide (j ≤ i)
section
variable {X : Cx}
theorem op_ltA : OpR X (compareOp .Lt) (r2S (fun i j => decide (i < j)) fun i j => decide (i < j)) := OpR.or op_lt op_lt_str
theorem op_leA : OpR X (compareOp .LtE) (r2S (fun i j => !decide (j < i)) fun i j => decide (i ≤ j)) := OpR.or op_le op_le_str
theorem op_gtA : OpR X (compareOp .Gt) (r2S (fun i j => decide (j < i)) fun i j => decide (j < i)) := OpR.or op_gt op_gt_str
theorem op_geA : OpR X (compareOp .GtE) (r2S (fun i j => !decide (i < j)) fun i j => decide (j ≤ i)) := OpR.or op_ge op_ge_str
end
section
variable {X : Cx} {a b c e o : Expr} {ma mb mc me mo : DM} {pos : Pos} {ta tb tc te to : TE}
theorem de_chain {op op' : CmpOp} {r r' : R2} {m m' : M2} (ho : OpR X (compareOp op) r) (hd : OpD X.K r m) (ho' : OpR X (compareOp op') r') (hd' : OpD X.K r' m') (ha : DE X a ma ta) (hb : DE X b mb tb) (hc : DE X c mc tc)
    (hm : lastMarks [op, op'] [b, c] = false := by with_unfolding_all rfl) : DE X (.Compare a [op, op'] [b, c] pos) (dChain m m' ma mb mc) (tChain r r' ta tb tc) := by
  refine ⟨pe_chain ho ho' ha.1 hb.1 hc.1 hm, fun B S H env σ Q Qv s q k => ?_⟩
  refine ha.2 B S H env σ _ _ s q fun x H1 S1 env1 r1 e1 q1 => ?_
  refine hb.2 B S1 H1 env1 σ _ _ e1.sr q1 fun y H2 S2 env2 r2 e2 q2 => ?_
  refine hd S2 H2 x y _ _ _ _ e2.sr.ex (e1.look e2) e2.look1 q2 fun v H3 S3 q n q3 => ?_
  have z3 := EPo.fin (e1.t.trans e2.t) n
  split at q3
  · rename_i k0
    refine ⟨k0, z3.res.bl, ?_⟩
    cases k0 with
    | true =>
      refine hc.2 B S3 H3 env2 σ _ _ z3.sr (dIte_t q3) fun z H4 S4 env3 r4 e4 q4 => ?_
      have hy : RepB X.K S4 H4 y r2.data := RepB.go e2 rfl (TPo.trans (⟨z3.sr, n.nw.go, .refl _⟩ : TPo X.K B S2 H2 env2 σ S3 H3 env2) e4.t)
      exact hd' S4 H4 y z _ _ _ _ e4.sr.ex hy e4.look1 q4 fun v H5 S5 q n5 q5 => k v H5 S5 env3 q (.fin (z3.t.trans e4.t) n5) q5
    | false => exact k _ H3 S3 env2 (.val (.bl false)) ⟨z3.sr, z3.go, z3.fz, Rep.bl _⟩ (dIte_f q3)
  · exact q3.elim
theorem dt_chain {op op' : CmpOp} {r r' : R2} {m m' : M2} (ho : OpR X (compareOp op) r) (hd : OpD X.K r m) (ho' : OpR X (compareOp op') r') (hd' : OpD X.K r' m') (ha : DE X a ma ta) (hb : DE X b mb tb) (hc : DE X c mc tc)
    (hm : lastMarks [op, op'] [b, c] = false := by with_unfolding_all rfl) : DT X (.Compare a [op, op'] [b, c] pos) (dB (dChain m m' ma mb mc)) (tTest (tChain r r' ta tb tc)) := by
  refine ⟨pt_chain ho ho' ha.1 hb.1 hc.1 hm, fun B S H env σ Q Qv s q k => ?_⟩
  refine (de_chain ho hd ho' hd' ha hb hc (pos := pos) hm).2 B S H env σ _ _ s q fun v H1 S1 env1 r1 e1 q1 => ?_
  split at q1
  · rename_i c
    exact ⟨c, e1.res.bl, k _ H1 S1 env1 e1.t q1⟩
  · exact q1.elim
/-- a constant of the module -/
theorem de_gint {x : Str} {i : Int} {t : Tok} (hg : Gl X x) (hm : X.mg x = some (.int i t)) (hd : (x == ("__debug__" : Str)) = false := by decide) : DE X (.Name x pos) (dC (.int i)) (tC (.int i)) := de_c (pe_glob hg hm ⟨_, rfl⟩ hd) fun _ _ => .int i
theorem de_gstr {x y : Str} {t : Tok} (hg : Gl X x) (hm : X.mg x = some (.str y t)) (hd : (x == ("__debug__" : Str)) = false := by decide) : DE X (.Name x pos) (dC (.str y)) (tC (.str y)) := de_c (pe_glob hg hm ⟨_, rfl⟩ hd) fun _ _ => .str y
theorem de_gref {x : Str} {a : Addr} {d : D} (hg : Gl X x) (hm : X.mg x = some (.ref a)) (hr : ∀ S, Rep X.K S (.ref a) d) (hd : (x == ("__debug__" : Str)) = false := by decide) : DE X (.Name x pos) (dC d) (tC (.ref a)) :=
  ⟨pe_glob hg hm rfl hd, fun B S H env σ Q Qv s q k => k _ H S env (.val d) ⟨s, .refl, .refl _, hr S⟩ q⟩
theorem RepB.ty {K : PySem.W.Frag} {S H : Hp} {v : V} {d : D} {t : String} (e : Ex S H) (h : RepB K S H v d) (q : tyD d = some t) : TyX K H v (.type t) := by
  cases d with
  | non => rw [h.non]; cases q; exact .base .non
  | bl b => rw [h.bl]; cases q; exact .base (.bl b)
  | int i => rw [h.int]; cases q; exact .base (.int i)
  | str x => rw [h.str]; cases q; exact .base (.str x)
  | lst l =>
    obtain ⟨p, vs, rfl, h1, h2⟩ := h.lstH e
    cases q
    exact .base (.lst h1)
  | tup l =>
    obtain ⟨p, vs, rfl, h1, h2⟩ := h.tup e
    cases q
    rcases h1 with (h1 | ⟨o, h1⟩) | ⟨o, its, n, h1, h3, _⟩
    · exact .base (.tup h1)
    · exact .fTuple h1
    · exact .kTuple h1 h3
  | ins C ns l => cases q
  | any => cases q
  | err _ _ _ _ _ => cases q
  | scr _ => cases q
  | dct _ _ => cases q
def dIsi (T : BT) (m : DM) : DM := fun env Q => m env fun env' r => mIsi T r.data fun q => Q env' q
/-- isinstance(e, T), T a built-in class -/
theorem de_isi {x : Str} {T : BT} {p p2 : Pos} (hg : Gl X "isinstance") (hm : X.mg "isinstance" = none) (hv : bootBuiltins "isinstance" = some (.builtin "isinstance")) (hg2 : Gl X x) (hm2 : X.mg x = none) (hv2 : bootBuiltins x = some (.type T.name)) (ha : DE X a ma ta)
    (hn : x ≠ "__name__" := by decide) (hd : (x == ("__debug__" : Str)) = false := by decide)
    (he : starEach (a :: [.Name x p2]) X.env = (false, eval a X.env) :: starEach [.Name x p2] X.env := by rfl) (he2 : starEach (.Name x p2 :: []) X.env = (false, eval (.Name x p2) X.env) :: starEach [] X.env := by rfl) (hpl : (backTo pos (starEach [.Name x p2] X.env)).any (·.1) = false := by rfl) :
    DE X (.Call (.Name "isinstance" p) (a :: [.Name x p2]) [] pos) (dIsi T ma) (tCB (rIsi X.K) (tCons ta (tCons (tC (.ty T.name)) tNil))) := by
  refine ⟨pe_callB call_isi hg hm hv (pa_cons ha.1 (pa_cons (pe_bltn hg2 hm2 hv2 rfl hn hd) pa_nil he2) he) (by decide) (by decide) he hpl, fun B S H env σ Q Qv s q k => ?_⟩
  refine ha.2 B S H env σ _ _ s q fun x H1 S1 env1 r1 e1 q1 => ?_
  obtain ⟨b, h1, h3⟩ := q1
  obtain ⟨t, h1, h2⟩ := isB_kit h1
  exact ⟨x, .ty T.name, _, _, b, rfl, .ty T.name, e1.look1.ty e1.sr.ex h1, kit_ty h2, k _ H1 S1 env1 (.val (.bl b)) ⟨e1.sr, e1.go, e1.fz, Rep.bl _⟩ h3⟩
/-- s.m(e) of a text -/
def dM1 (m : D → D → (R → Prop) → Prop) (mo me : DM) : DM := fun env Q => mo env fun env1 x => (∃ z, x.data = .str z) ∧ me env1 fun env2 y => m x.data y.data fun q => Q env2 q
def M1D (K : PySem.W.Frag) (r : V → List V → Hp → VK → Prop) (m : M2) : Prop := ∀ (S H : Hp) (x y : V) (dx dy : D) (Q : R → Prop) (Qv : VK), Ex S H → RepB K S H x dx → RepB K S H y dy → m dx dy Q →
  (∀ v H' S' q, NwR K S H S' H' q v → Q q → Qv v H') → r x [y] H Qv
theorem de_m1 {E : Expr} {r : V → List V → Hp → VK → Prop} {m : M2} (h : PE X E (tM1 r to te)) (hd : M1D X.K r m) (ho : DE X o mo to) (he : DE X e me te) : DE X E (dM1 m mo me) (tM1 r to te) := by
  refine ⟨h, fun B S H env σ Q Qv s q k => ?_⟩
  refine ho.2 B S H env σ _ _ s q fun x H1 S1 env1 r1 e1 q1 => ?_
  obtain ⟨⟨z, hz⟩, q1⟩ := q1
  have hx := e1.look1
  rw [hz] at hx
  refine ⟨⟨z, hx.str⟩, he.2 B S1 H1 env1 σ _ _ e1.sr q1 fun y H2 S2 env2 r2 e2 q2 => ?_⟩
  exact hd S2 H2 x y _ _ _ _ e2.sr.ex (e1.look e2) e2.look1 q2 fun v H3 S3 q n q3 => k v H3 S3 env2 q (.fin (e1.t.trans e2.t) n) q3
/-- a list of texts -/
def strsOf : List D → Option (List Str)
  | [] => some []
  | .str i :: r => (strsOf r).map (i :: ·)
  | _ => none
theorem strsOf_map (l : List Str) : strsOf (l.map D.str) = some l := by
  induction l with
  | nil => rfl
  | cons i l ih =>
    show (strsOf (l.map D.str)).map (i :: ·) = _
    rw [ih]
    rfl
theorem strsOf_eq : ∀ {ds : List D} {l : List Str}, strsOf ds = some l → ds = l.map D.str
  | [], l, h => by cases h; rfl
  | .str i :: r, l, h => by
    have h' : (strsOf r).map (i :: ·) = some l := h
    cases q : strsOf r with
    | none => rw [q] at h'; cases h'
    | some l2 =>
      rw [q] at h'
      cases h'
      rw [strsOf_eq q]
      rfl
  | .non :: _, _, h => by cases h
  | .bl _ :: _, _, h => by cases h
  | .int _ :: _, _, h => by cases h
  | .tup _ :: _, _, h => by cases h
  | .lst _ :: _, _, h => by cases h
  | .ins _ _ _ :: _, _, h => by cases h
  | .any :: _, _, h => by cases h
def mJoin : M2 := fun x y Q => match x, y with
  | .str a, .lst l => ∃ ys, strsOf l = some ys ∧ (ys.map (·.length)).sum + ys.length * a.length ≤ 16777216 ∧ Q (.val (.str (Txt.join a ys)))
  | _, _ => False
theorem md_join {K : PySem.W.Frag} : M1D K (fun x xs H Q => ∃ a p, ∃ ys : List Str, x = .str a ∧ xs = [.ref p] ∧ (SqL K H p (ys.map V.str) ∨ SqT K H p (ys.map V.str)) ∧
      (ys.map (·.length)).sum + ys.length * a.length ≤ 16777216 ∧ Q (.str (Txt.join a ys)) H) mJoin := by
  intro S H x y dx dy Q Qv e hx hy m k
  unfold mJoin at m
  split at m
  · rename_i a l
    obtain ⟨ys, h1, h2, h3⟩ := m
    obtain ⟨p, vs, rfl, k1, k2⟩ := hy.lst e
    rw [strsOf_eq h1] at k2
    rw [k2.strs_inv] at k1
    exact ⟨a, p, ys, hx.str, rfl, .inl k1, h2, k _ _ _ _ (nwr_val e (.str _)) h3⟩
  · exact m.elim
def mSplit : M2 := fun x y Q => match x, y with
  | .str a, .str b => ((b.length == 0) = false ∧ a.length + 2 ≤ sizeLine) ∧ Q (.own ((Txt.split a b).map D.str))
  | _, _ => False
theorem md_split {K : PySem.W.Frag} : M1D K (fun x xs H Q => ∃ a b, x = .str a ∧ xs = [.str b] ∧ (b.length == 0) = false ∧ a.length + 2 ≤ sizeLine ∧ rNewStrs (Txt.split a b) H Q) mSplit := by
  intro S H x y dx dy Q Qv e hx hy m k
  unfold mSplit at m
  split at m
  · rename_i a b
    exact ⟨a, b, hx.str, by rw [hy.str], m.1.1, m.1.2, fun p hp => k _ _ _ _ (nwr_lst e hp (Reps.strs _)) m.2⟩
  · exact m.elim
theorem de_join {apos : Pos} (ho : DE X o mo to) (he : DE X e me te) (hs : starEach [e] X.env = [(false, eval e X.env)] := by rfl) (hbase : attributeBase o "join" X.env (eval o X.env) = eval o X.env := by rfl) (hline : (apos.endLine == pos.line) = true := by rfl) :
    DE X (.Call (.Attribute o "join" apos) [e] [] pos) (dM1 mJoin mo me) (tM1 (fun x xs H Q => ∃ a p, ∃ ys : List Str, x = .str a ∧ xs = [.ref p] ∧ (SqL X.K H p (ys.map V.str) ∨ SqT X.K H p (ys.map V.str)) ∧
      (ys.map (·.length)).sum + ys.length * a.length ≤ 16777216 ∧ Q (.str (Txt.join a ys)) H) to te) := de_m1 (pe_join ho.1 he.1 hs hbase hline) md_join ho he
theorem de_split {apos : Pos} (ho : DE X o mo to) (he : DE X e me te) (hs : starEach [e] X.env = [(false, eval e X.env)] := by rfl) (hbase : attributeBase o "split" X.env (eval o X.env) = eval o X.env := by rfl) (hline : (apos.endLine == pos.line) = true := by rfl) :
    DE X (.Call (.Attribute o "split" apos) [e] [] pos) (dM1 mSplit mo me) (tM1 (fun x xs H Q => ∃ a b, x = .str a ∧ xs = [.str b] ∧ (b.length == 0) = false ∧ a.length + 2 ≤ sizeLine ∧ rNewStrs (Txt.split a b) H Q) to te) := de_m1 (pe_split ho.1 he.1 hs hbase hline) md_split ho he
/-- an attribute of an instance of the class at C -/
def lookF (f : Str) : List Str → List D → Option D
  | n :: ns, d :: ds => if f == n then some d else lookF f ns ds
  | _, _ => none
def dFld (C : Addr) (f : Str) (m : DM) : DM := fun env Q => m env fun env' r => match r with
  | .val (.ins C' ns l) => C' = C ∧ ∃ d, lookF f ns l = some d ∧ Q env' (.val d)
  | _ => False
theorem Reps.lookF {K : PySem.W.Frag} {S : Hp} {f : Str} : ∀ {fs : List (Str × V)} {ds : List D} {d : D}, Reps K S (fs.map (·.2)) ds → DL.lookF f (fs.map (·.1)) ds = some d → ∃ v, fs.lookup f = some v ∧ Rep K S v d
  | [], _, _, r, h => by
    cases r
    cases h
  | (n, v) :: fs, _, d, r, h => by
    cases r with
    | cons r1 r2 =>
      rename_i d1 ds
      have h' : (if f == n then some d1 else DL.lookF f (fs.map (·.1)) ds) = some d := h
      by_cases c : (f == n) = true
      · rw [if_pos c] at h'
        cases h'
        exact ⟨v, by rw [List.lookup_cons, c], r1⟩
      · rw [if_neg c] at h'
        obtain ⟨w, h1, h2⟩ := Reps.lookF r2 h'
        refine ⟨w, ?_, h2⟩
        rw [List.lookup_cons]
        cases q : f == n with
        | true => exact absurd q c
        | false => exact h1
theorem de_fld {C : Addr} {f : Str} (hc : Cls X.K C) (hn : NoAttr X.K C f) (ha : DE X a ma ta) (hb : attributeBase a f X.env (eval a X.env) = eval a X.env := by rfl) : DE X (.Attribute a f pos) (dFld C f ma) (tFld X.K ta f) := by
  refine ⟨pe_fld ha.1 hb, fun B S H env σ Q Qv s q k => ha.2 B S H env σ _ _ s q fun v H' S' env' r z q' => ?_⟩
  split at q'
  · rename_i C' ns l
    obtain ⟨rfl, d, h1, h2⟩ := q'
    have zr : Rep X.K S' v (.ins C' ns l) := z.res
    cases zr with
    | ins h3 h4 h5 h6 =>
      subst h4
      subst h5
      obtain ⟨w, w1, w2⟩ := h6.lookF h1
      exact ⟨_, C', _, _, w, rfl, z.sr.ex _ _ h3, hc, hn, w1, k w H' S' env' (.val d) ⟨z.sr, z.go, z.fz, w2⟩ h2⟩
  · exact q'.elim
end
section
variable {X : Cx}
/-- name = [..] on one line -/
theorem ds_setLc {i : Nat} {y : Str} {py : Pos} {spos : Pos} {elt tg iter : Expr} {ifs : List Expr} {scope : Scope} (own : List (Str × Nat)) {pos : Pos} (hy : X.N[i]? = some y) (hyl : X.env.scope.names.lookup y = some .local) (hsw : swapsWith (.ListComp elt [⟨tg, iter, ifs, 0⟩] scope pos) (some (.Name y py)) spos.line X.env = pure true) {mi : DIM} {wi : TI} {g : DGM} {tg1 : Shared → Hp → Addr → List (Str × Addr) → List Addr → TG} {t : DTM} {tt : Shared → Hp → Addr → List (Str × Addr) → List Addr → TT} {m : DM} {te : Shared → Hp → Addr → List (Str × Addr) → List Addr → TE} (hc : X.calm = true) (hN : X.N.Nodup) (hi : DI X tg iter mi wi) (ok : BlkOk X.N X.env.scope scope own)
    (hg : ∀ (s : Shared) (H : Hp) (C : Addr) (cl : List (Str × Addr)) (fp : List Addr), DG (X.blk s H scope (compEnvC scope cl C X.env) fp) tg g (tg1 s H C cl fp)) (ht : ∀ (s : Shared) (H : Hp) (C : Addr) (cl : List (Str × Addr)) (fp : List Addr), DTs (X.blk s H scope (compEnvC scope cl C X.env) fp) ifs t (tt s H C cl fp))
    (he : ∀ (s : Shared) (H : Hp) (C : Addr) (cl : List (Str × Addr)) (fp : List Addr), DE (X.blk s H scope (compEnvC scope cl C X.env) fp) elt m (te s H C cl fp)) (i1 : TgIn (tg1 X.s_0 X.H_0 0 [] []) (own.map (·.2))) (i2 : GIn g (own.map (·.2)))
    (e1 : ∀ s H C cl fp, tg1 s H C cl fp = tg1 X.s_0 X.H_0 0 [] [] := by intros; rfl) (e2 : ∀ s H C cl fp, tt s H C cl fp = tt X.s_0 X.H_0 0 [] [] := by intros; rfl) (e3 : ∀ s H C cl fp, te s H C cl fp = te X.s_0 X.H_0 0 [] [] := by intros; rfl) (hs : ∀ x, foldedSetIterable iter X.env x = pure x := by intro _; rfl) :
    DS X (.Assign [.Name y py] (.ListComp elt [⟨tg, iter, ifs, 0⟩] scope pos) spos) (dSet i (dLc mi (own.map (·.2)) g t m)) (tAsg (tLc wi (tg1 X.s_0 X.H_0 0 [] []) (tt X.s_0 X.H_0 0 [] []) (te X.s_0 X.H_0 0 [] []) (own.map (·.2))) (gName i)) := by
  have h := de_lc own (pos := pos) hc hN hi ok hg ht he i1 i2 e1 e2 e3 hs
  refine ⟨ps_setLc hc hN hy hyl hsw hi.1 ok (fun s H C cl fp => e1 s H C cl fp ▸ (hg s H C cl fp).1) (fun s H C cl fp => e2 s H C cl fp ▸ (ht s H C cl fp).1) (fun s H C cl fp => e3 s H C cl fp ▸ (he s H C cl fp).1) hs, fun B S H env σ E D s q e => h.2 B S H env σ _ _ s q fun v H' S' env' r z q' => ?_⟩
  have zr := z.res
  cases r with
  | val d => exact e.nx S' H' _ _ (z.sr.storeD zr) q'
  | own l =>
    obtain ⟨p, vs, rfl, z1, z2, z3, z4, z5, z6⟩ := zr
    exact e.nx S' H' _ _ (z.sr.store (fun d e => by cases e) (fun l' e => by cases e; exact ⟨p, vs, rfl, z1, z2, z5, z6, fun j m _ h1 h2 => z4 (.inr (.inl ⟨j, m, h1, h2⟩)), fun j m h1 => z4 (.inr (.inr ⟨j, m, h1⟩))⟩) fun e => by cases e) q'
  | brw j l =>
    obtain ⟨p, rfl, z1, z2⟩ := zr
    obtain ⟨p', S2, y1, y2, y3⟩ := z.sr.frz z2
    cases Slt.ref z1 y1
    exact e.nx S2 H' _ _ (y2.sr.storeD y3) q'
  | pool =>
    obtain ⟨a, z1, rfl⟩ := zr
    exact e.nx S' H' _ _ (z.sr.store (fun d e => by cases e) (fun l' e => by cases e) fun _ => ⟨a, z1, rfl⟩) q'
/-- a, b = e1, e2 -/
def dPar (i j : Nat) (n : DAM) : DSM := fun E env => n env fun env' rs => match rs with
  | [.val d, .val d2] => E.nx ((env'.set i (some (.val d))).set j (some (.val d2)))
  | _ => False
theorem ds_par {i j : Nat} {x y : Str} {a b : Expr} {n : DAM} {tn : TA} {px py pt : Pos} {kt k2 pt2} {pos : Pos} (hc : X.calm = true) (hN : X.N.Nodup) (hi : X.N[i]? = some x) (hj : X.N[j]? = some y) (hij : i ≠ j)
    (hx : X.env.scope.names.lookup x = some .local) (hy : X.env.scope.names.lookup y = some .local) (ha : DA X [a, b] n tn)
    (hw : swappedStores [.Tuple [.Name x px, .Name y py] kt pt] (.Tuple [a, b] k2 pt2) X.env = pure (some [x, y]))
    (hs : swapsWithSole [.Tuple [.Name x px, .Name y py] kt pt] (.Tuple [a, b] k2 pt2) pos.line X.env = pure false := by rfl) :
    DS X (.Assign [.Tuple [.Name x px, .Name y py] kt pt] (.Tuple [a, b] k2 pt2) pos) (dPar i j n) (tPar i j tn) := by
  refine ⟨ps_par hc hN hi hj hij hx hy ha.1 hw hs, fun B S H env σ E D s q e => ha.2 B S H env σ _ _ s q fun vs H' S' env' rs z l len q' => ?_⟩
  split at q'
  · rename_i d d2
    have r := l.vals (ds := [d, d2]) rfl
    cases r with
    | cons r1 r2 =>
      cases r2 with
      | cons r2 r3 =>
        cases r3
        exact ⟨_, _, rfl, e.nx S' H' _ _ ((z.sr.storeD r1).storeD r2) q'⟩
  · exact q'.elim
end
end DL
end

section
set_option Elab.async false
set_option linter.all false
set_option maxRecDepth 100000
set_option maxHeartbeats 4000000
namespace DL
open PySem L2
open Evl (Ex)
/-- a def of the text, called by its name -/
structure FnAt (K : PySem.W.Frag) (mg : Str → Option Value) (name qual : Str) (st : Stmt) (f : Addr) (fd : FuncData) (ps : List Str) : Prop where
  fn : Fun K name qual st f fd
  g : mg name = some (.ref f)
  b : Binds K fd ps []
theorem FnAt.k {K : PySem.W.Frag} {mg : Str → Option Value} {name qual : Str} {st : Stmt} {f : Addr} {fd : FuncData} {ps : List Str} (h : FnAt K mg name qual st f fd ps) : PySem.W.keepIn K (.ref f) = true := h.fn.kp
theorem _root_.L2.Room.units1 {k : Nat} {A : Around} (r : Room k A) : A.units + 65 < cLine := by have := r.un; omega
def mNeg : M1 := fun x Q => match x with
  | .int i => Q (.val (.int (-i)))
  | _ => False
theorem ud_neg {K : PySem.W.Frag} : UnD K (rU fun i => .int (-i)) mNeg := by
  intro S H x dx Q Qv e hx m k
  unfold mNeg at m
  split at m
  · rename_i i
    exact ⟨i, hx.int, k _ _ _ _ (nwr_val e (.int _)) m⟩
  · exact m.elim
/-- += of ints, of texts -/
def mAddI : M2 := fun x y Q => match x, y with
  | .int i, .int j => Q (.val (.int (i + j)))
  | .str a, .str b => a.length + b.length ≤ sizeLine ∧ Q (.val (.str (a ++ b)))
  | _, _ => False
def rAddI : R2 := fun x y H Q => rI0 (fun i j => .int (i + j)) x y H Q ∨ ∃ i j, x = .str i ∧ y = .str j ∧ i.length + j.length ≤ sizeLine ∧ Q (.str (i ++ j)) H
theorem iop_addI {X : Cx} : OpR X (inplaceOp .Add) rAddI := OpR.or iop_add iop_add_str
theorem opd_addI {K : PySem.W.Frag} : OpD K rAddI mAddI := by
  intro S H x y dx dy Q Qv e hx hy m k
  unfold mAddI at m
  split at m
  · rename_i i j
    exact .inl ⟨i, j, hx.int, hy.int, k _ _ _ _ (nwr_val e (.int _)) m⟩
  · rename_i i j
    exact .inr ⟨i, j, hx.str, hy.str, m.1, k _ _ _ _ (nwr_val e (.str _)) m.2⟩
  · exact m.elim
/-- (..) + (..) -/
def mCatT : M2 := fun x y Q => match x, y with
  | .tup a, .tup b => (a ≠ [] ∧ a.length + b.length ≤ sizeLine) ∧ Q (.val (.tup (a ++ b)))
  | _, _ => False
theorem opd_catT {K : PySem.W.Frag} : OpD K (rCatT K) mCatT := by
  intro S H x y dx dy Q Qv e hx hy m k
  unfold mCatT at m
  split at m
  · rename_i a b
    rcases hx with hx | ⟨p, ws, l', rfl, h2, _⟩
    · cases hx with
      | tup h1 h2 =>
        obtain ⟨q, ws, rfl, k1, k2⟩ := hy.tup e
        refine ⟨_, q, _, ws, rfl, rfl, Evl.ex_t e h1, k1, fun z => m.1.1 ?_, by rw [h2.length, k2.length]; exact m.1.2, fun z => ?_, fun _ u hu => k _ _ _ _ (nwr_tup e hu (h2.append k2)) m.2⟩
        · subst z
          cases h2
          rfl
        · subst z
          cases k2
          refine k _ _ _ _ (nwr_val e (.tup h1 h2)) ?_
          have mm := m.2
          rw [List.append_nil] at mm
          exact mm
    · cases h2
  · exact m.elim
/-! ### reversed, enumerate, zip -/
def dRev (m : DM) : DIM := fun env Q => dKeep m env fun env' r => match r with
  | .val (.lst l) => Q env' l.reverse
  | .val (.tup l) => Q env' l.reverse
  | _ => False
section
variable {X : Cx} {tg a b : Expr} {ma mb : DM} {pos : Pos} {ta tb : TE}
theorem rev_get {α : Type} {l : List α} {i : Nat} (h : i < l.length) : l.reverse[i]? = l[l.length - 1 - i]? := List.getElem?_reverse h
theorem di_rev {p : Pos} (hg : Gl X "reversed") (hm : X.mg "reversed" = none) (ha : DE X a ma ta) (hs : starEach [a] X.env = (false, eval a X.env) :: starEach [] X.env := by rfl) : DI X tg (.Call (.Name "reversed" p) [a] [] pos) (dRev ma) (RT.iRevA X.K ta) := by
  obtain ⟨h1, h2⟩ := de_keep ha
  refine ⟨RT.pi_revA hg hm h1 hs, fun B S H env σ Q R s q k => h2 B S H env σ _ _ s q fun v H' S' env' r z q' => ?_⟩
  split at q'
  · rename_i l
    have zr : Rep X.K S' v (.lst l) := z.res
    cases zr with
    | lst h r =>
      rename_i p0 vs
      refine ⟨_, vs, rfl, .inl ⟨SqL.of (z.sr.ex _ _ h), k _ H' S' env' l.reverse z.t ⟨fun i hi S2 H2 e1 e2 => ?_, fun i d hd S2 H2 x H3 e1 e2 y => ?_, fun S2 H2 e1 e2 => ?_⟩ q'⟩⟩
      · rw [List.length_reverse] at hi
        have hi' : i < vs.length := by rw [r.length]; exact hi
        exact ⟨hi', vs, vs[vs.length - 1 - i], SqL.of (e2 _ _ (e1 _ _ h)), List.getElem?_eq_getElem _⟩
      · obtain ⟨rfl, y⟩ := y
        have hi : i < l.length := by
          have := (List.getElem?_eq_some_iff.mp hd).1
          rwa [List.length_reverse] at this
        rw [rev_get hi] at hd
        obtain ⟨w, w1, w2⟩ := r.get hd
        have q := y vs (SqL.of (e2 _ _ (e1 _ _ h)))
        rw [r.length, w1] at q
        cases q
        exact ⟨S2, .refl e2, w2.mono e1⟩
      · rw [List.length_reverse]
        show vs.length ≤ l.length
        rw [r.length]
        exact Nat.le_refl _
  · rename_i l
    have zr : Rep X.K S' v (.tup l) := z.res
    cases zr with
    | tup h r =>
      rename_i p0 vs
      refine ⟨_, vs, rfl, .inr ⟨Evl.ex_t z.sr.ex h, k _ H' S' env' l.reverse z.t ⟨fun i hi S2 H2 e1 e2 => ?_, fun i d hd S2 H2 x H3 e1 e2 y => ?_, fun S2 H2 e1 e2 => ?_⟩ q'⟩⟩
      · rw [List.length_reverse] at hi
        have hi' : i < vs.length := by rw [r.length]; exact hi
        exact ⟨hi', vs, vs[vs.length - 1 - i], Evl.ex_t (e1.trans e2) h, List.getElem?_eq_getElem _⟩
      · obtain ⟨rfl, y⟩ := y
        have hi : i < l.length := by
          have := (List.getElem?_eq_some_iff.mp hd).1
          rwa [List.length_reverse] at this
        rw [rev_get hi] at hd
        obtain ⟨w, w1, w2⟩ := r.get hd
        have q := y vs (Evl.ex_t (e1.trans e2) h)
        rw [r.length, w1] at q
        cases q
        exact ⟨S2, .refl e2, w2.mono e1⟩
      · rw [List.length_reverse]
        show vs.length ≤ l.length
        rw [r.length]
        exact Nat.le_refl _
  · exact q'.elim
/-- for i, x in enumerate(xs) -/
def enumD : Nat → List D → List D
  | _, [] => []
  | i, d :: r => .tup [.int (i : Nat), d] :: enumD (i + 1) r
def dEnum (m : DM) : DIM := fun env Q => dKeep m env fun env' r => match r with
  | .val (.lst l) => Q env' (enumD 0 l)
  | _ => False
theorem enumD_length : ∀ (l : List D) (i : Nat), (enumD i l).length = l.length
  | [], _ => rfl
  | d :: r, i => by unfold enumD; rw [List.length_cons, List.length_cons, enumD_length r]
theorem enumD_get : ∀ (l : List D) (i j : Nat), (enumD i l)[j]? = l[j]?.map fun d => .tup [.int ((i + j : Nat) : Int), d]
  | [], _, _ => by simp [enumD]
  | d :: r, i, 0 => by simp [enumD]
  | d :: r, i, j + 1 => by
    unfold enumD
    rw [List.getElem?_cons_succ, List.getElem?_cons_succ, enumD_get r (i + 1) j]
    rw [show i + 1 + j = i + (j + 1) by omega]
theorem di_enum {elts : List Expr} {kk : Nat} {p tpos : Pos} (hg : Gl X "enumerate") (hm : X.mg "enumerate" = none) (ha : DE X a ma ta) (hs : starEach [a] X.env = [(false, eval a X.env)] := by rfl) :
    DI X (.Tuple elts kk tpos) (.Call (.Name "enumerate" p) [a] [] pos) (dEnum ma) (iEnum X.K (tCons ta tNil)) := by
  obtain ⟨h1, h2⟩ := de_keep ha
  refine ⟨pi_enum hg hm (pa_cons h1 pa_nil (by rw [hs] <;> rfl)) hs, fun B S H env σ Q R s q k => h2 B S H env σ _ _ s q fun v H' S' env' r z q' => ?_⟩
  split at q'
  · rename_i l
    have zr : Rep X.K S' v (.lst l) := z.res
    cases zr with
    | lst h r =>
      rename_i p0 vs
      refine ⟨_, vs, rfl, SqL.of (z.sr.ex _ _ h), k _ H' S' env' _ z.t ⟨fun i hi S2 H2 e1 e2 => ?_, fun i d hd S2 H2 x H3 e1 e2 y => ?_, fun S2 H2 e1 e2 => ?_⟩ q'⟩
      · rw [enumD_length] at hi
        have hi' : i < vs.length := by rw [r.length]; exact hi
        exact ⟨vs, vs[i], SqL.of (e2 _ _ (e1 _ _ h)), List.getElem?_eq_getElem _⟩
      · obtain ⟨T, x', rfl, hT, rfl, y⟩ := y
        rw [enumD_get, Nat.zero_add] at hd
        cases q : l[i]? with
        | none => rw [q] at hd; cases hd
        | some d0 =>
          rw [q] at hd
          cases hd
          obtain ⟨w, w1, w2⟩ := r.get q
          have q2 := y vs (SqL.of (e2 _ _ (e1 _ _ h)))
          rw [w1] at q2
          cases q2
          exact ⟨_, (nwr_tup (K := X.K) e2 hT (.cons (.int _) (.cons (w2.mono e1) .nil))).1, (nwr_tup (K := X.K) e2 hT (.cons (.int _) (.cons (w2.mono e1) .nil))).2⟩
      · rw [enumD_length]
        exact ⟨vs, SqL.of (e2 _ _ (e1 _ _ h)), by rw [r.length]; exact Nat.le_refl _⟩
  · exact q'.elim
/-- for x, y in zip(xs, ys) -/
def zipD : List D → List D → List D
  | a :: r, b :: s => .tup [a, b] :: zipD r s
  | _, _ => []
theorem zipD_get : ∀ (l m : List D) (j : Nat), (zipD l m)[j]? = match l[j]?, m[j]? with
    | some a, some b => some (.tup [a, b])
    | _, _ => none
  | [], m, j => by simp [zipD]
  | a :: r, [], j => by
    simp only [zipD, List.getElem?_nil]
    cases (a :: r)[j]? <;> rfl
  | a :: r, b :: s, 0 => by simp [zipD]
  | a :: r, b :: s, j + 1 => by
    unfold zipD
    rw [List.getElem?_cons_succ, List.getElem?_cons_succ, List.getElem?_cons_succ]
    exact zipD_get r s j
theorem zipD_length : ∀ (l m : List D), (zipD l m).length = min l.length m.length
  | [], m => by simp [zipD]
  | a :: r, [] => by simp [zipD]
  | a :: r, b :: s => by
    unfold zipD
    rw [List.length_cons, List.length_cons, List.length_cons, zipD_length r s]
    omega
def dZip (m n : DM) : DIM := fun env Q => dKeep m env fun env1 r => dKeep n env1 fun env2 q => match r, q with
  | .val (.lst l), .val (.lst l2) => Q env2 (zipD l l2)
  | _, _ => False
theorem di_zip {elts : List Expr} {kk : Nat} {p tpos : Pos} (hg : Gl X "zip") (hm : X.mg "zip" = none) (ha : DE X a ma ta) (hb : DE X b mb tb)
    (hs : starEach [a, b] X.env = (false, eval a X.env) :: starEach [b] X.env := by rfl) (hs2 : starEach [b] X.env = (false, eval b X.env) :: starEach [] X.env := by rfl) (hpl : (backTo pos (starEach [b] X.env)).any (·.1) = false := by rfl) :
    DI X (.Tuple elts kk tpos) (.Call (.Name "zip" p) [a, b] [] pos) (dZip ma mb) (iZip X.K (tCons ta (tCons tb tNil))) := by
  obtain ⟨h1, h2⟩ := de_keep ha
  obtain ⟨k1, k2⟩ := de_keep hb
  refine ⟨pi_zip hg hm (pa_cons h1 (pa_cons k1 pa_nil hs2) hs) hs hpl, fun B S H env σ Q R s q k => h2 B S H env σ _ _ s q fun v H1 S1 env1 r z1 q1 => k2 B S1 H1 env1 σ _ _ z1.sr q1 fun u H' S' env' r2 z2 q' => ?_⟩
  split at q'
  · rename_i l l2
    have zr : Rep X.K S1 v (.lst l) := z1.res
    have yr : Rep X.K S' u (.lst l2) := z2.res
    cases zr with
    | lst h r =>
      cases yr with
      | lst h' r' =>
        rename_i p0 vs p1 ws
        have h := z2.go.ex _ _ h
        have r := r.mono z2.go.ex
        refine ⟨_, _, vs, ws, rfl, SqL.of (z2.sr.ex _ _ h), SqL.of (z2.sr.ex _ _ h'), k _ H' S' env' _ (z1.t.trans z2.t) ⟨fun i hi S2 H2 e1 e2 => ?_, fun i d hd S2 H2 x H3 e1 e2 y => ?_, fun S2 H2 e1 e2 => ?_⟩ q'⟩
        · rw [zipD_length] at hi
          have hi1 : i < vs.length := by rw [r.length]; omega
          have hi2 : i < ws.length := by rw [r'.length]; omega
          exact ⟨vs, ws, vs[i], ws[i], SqL.of (e2 _ _ (e1 _ _ h)), SqL.of (e2 _ _ (e1 _ _ h')), List.getElem?_eq_getElem _, List.getElem?_eq_getElem _⟩
        · obtain ⟨T, x', y', rfl, hT, rfl, y1, y2⟩ := y
          rw [zipD_get] at hd
          cases c1 : l[i]? with
          | none => rw [c1] at hd; cases hd
          | some d1 =>
            cases c2 : l2[i]? with
            | none => rw [c1, c2] at hd; cases hd
            | some d2 =>
              rw [c1, c2] at hd
              cases hd
              obtain ⟨w, w1, w2⟩ := r.get c1
              obtain ⟨w', w1', w2'⟩ := r'.get c2
              have e3 := y1 vs (SqL.of (e2 _ _ (e1 _ _ h)))
              have e4 := y2 ws (SqL.of (e2 _ _ (e1 _ _ h')))
              rw [w1] at e3
              rw [w1'] at e4
              cases e3
              cases e4
              have n := nwr_tup (K := X.K) e2 hT (.cons (w2.mono e1) (.cons (w2'.mono e1) .nil))
              exact ⟨_, n.1, n.2⟩
        · refine ⟨vs, ws, SqL.of (e2 _ _ (e1 _ _ h)), SqL.of (e2 _ _ (e1 _ _ h')), ?_⟩
          rw [zipD_length, r.length, r'.length]
          omega
  · exact q'.elim
end
end DL
end

section
set_option Elab.async false
set_option linter.all false
set_option maxRecDepth 100000
set_option maxHeartbeats 4000000
namespace DL
open PySem PySem.Spec PyProof.Rows L2
open Evl (Ex)
/-! ### a draw from the pool: some number from 0 on below the size -/
def F_draw : FM := fun rs Qd => ∃ n : Int, rs = [.pool, .val (.int n)] ∧ CDivW 0 n ∧ ∀ r : Int, 0 ≤ r → r < n → Qd (.val (.int r))
section
variable {K : PySem.W.Frag} {σ : L2.St} {H : Hp} {a : Addr} {xs : List V} {i : Int} {v : V} {Q : VK}
theorem rd_at (hσ : σ[0]? = some (some (.ref a))) (h : H a = some (.lst xs)) (hi : atI xs i = some v) (k : Q v H) : tOp (rIxL K) (tVar 0) (tC (.int i)) σ H Q := ⟨_, hσ, a, xs, i, v, rfl, rfl, SqL.of h, hi, k⟩
theorem st_at {te : TE} {D : Ends} {j : Nat} (hσ : σ[0]? = some (some (.ref a))) (h : H a = some (.lst xs)) (hi : ixN xs.length i = some j) (hv : ∀ Q : VK, Q v H → te σ H Q) (k : D.nx σ (upd H a (.lst (xs.set j v)))) :
    tAsg te (gSub (tVar 0) (tC (.int i)) rSetL) D σ H := hv _ ⟨_, hσ, a, xs, i, j, rfl, rfl, h, hi, k⟩
end
abbrev pl (l : Addr) (pos big seed cnt bud : Int) : List V := [.ref l, .int pos, .int big, .int seed, .int cnt, .int bud]
theorem draw_ok {P : Program} {w : World} {K : PySem.W.Frag} {mg : Str → Option Value} {base : Heap} {st : Stmt} {f : Addr} {fd : FuncData} (F : Fun K "_law_draw" "_law_draw" st f fd) (Sc : FnScope ["pool", "size", "cell", "value"] ["pool", "size"] (defScope st))
    (hlen : mg "len" = none) (hint : mg "int" = none)
    (hbody : ∀ (cdv : Value) (A : Around) (outer : List Env) (s : Shared) (H : Hp) (E : XK), ∃ t, PSs (cxOf CX0 P w K mg base ["pool", "size", "cell", "value"] "_law_draw" (defScope st) f cdv A outer s H E).nox (defBody st) t ∧
      ∀ (H : Hp) (a l : Addr) (cells : List Int) (pos big seed cnt bud n : Int) (D : Ends), H a = some (.lst (pl l pos big seed cnt bud)) → H l = some (.lst (cells.map V.int)) → l ≠ a → 0 ≤ pos → CDivW 0 n →
        (∀ (r pos big seed cnt : Int), 0 ≤ r → r < n → 0 ≤ pos → D.rt (.int r) (upd H a (.lst (pl l pos big seed cnt bud)))) → t D [some (.ref a), some (.int n), none, none] H) :
    FnOk P w K mg base CX0 1 f fd ["pool", "size"] (spF K 2 F_draw) := by
  refine F.ok Sc (fun vs H Q E h => ?_) fun cdv A outer s H vs Q E hr h => ?_
  · obtain ⟨S, pa, rs, Qd, h1, h2, h3, h4, h5⟩ := h
    exact h4
  · obtain ⟨S, pa, rs, Qd, h1, h2, h3, h4, ⟨n, rfl, hn, h5⟩, h6⟩ := h
    obtain ⟨t, t1, t2⟩ := hbody cdv A outer s H E
    cases h3 with
    | @pool a vs _ hp h3 =>
      cases h3 with
      | val hv h3 =>
        cases h3
        cases hv
        obtain ⟨sa, l, cells, pos, big, seed, cnt, bud, ha, hl, h0⟩ := h2 a hp
        have la : l ≠ a := fun e => by rw [e, sa] at hl; cases hl
        refine ⟨t, t1, t2 H a l cells pos big seed cnt bud n _ ha (h1 _ _ hl) la h0 hn fun r pos' big' seed' cnt' r0 rn p0 => ?_⟩
        refine h6 _ _ S (.val (.int r)) ⟨Ex.refl _, fun b o e => ?_, fun b o e c => ?_, fun b o e c => c, fun b e => ?_, fun b e => ?_, fun b e => ?_, .int r⟩ (h5 r r0 rn)
        · rw [upd_ne (fun z => by rw [z, sa] at e; cases e)]
          exact h1 _ _ e
        · rw [upd_ne (fun z => c (by rw [z]; exact hp))]
          exact e
        · by_cases z : b = a
          · rw [z, upd_same] at e
            cases e
          · rw [upd_ne z] at e
            exact e
        · rw [hp] at e
          cases e
          exact ⟨sa, l, cells, pos', big', seed', cnt', bud, upd_same, hl, p0⟩
        · rw [hp] at e
          cases e
          rw [upd_same, ha]
          rfl
end DL
end

section
set_option Elab.async false
set_option linter.all false
set_option maxRecDepth 100000
set_option maxHeartbeats 4000000
namespace DL
open PySem PySem.Spec PyProof.Rows L2
open Evl (Ex)
/-! ### rewriting the meanings -/
theorem hasTy_dat {x : D} (h : isDat x = true) : hasTy x = true := by
  cases x <;> first
    | rfl
    | (rw [isDat] at h; exact nomatch h)
theorem isB_tuple {x : D} (h : isDat x = true) : isB .tuple x = some (isTup x) := by unfold isB; rw [hasTy_dat h]
theorem isB_list {x : D} (h : isDat x = true) : isB .list x = some (isLst x) := by unfold isB; rw [hasTy_dat h]
theorem isB_bool {x : D} (h : isDat x = true) : isB .bool x = some (isBl x) := by unfold isB; rw [hasTy_dat h]
theorem isB_int {x : D} (h : isDat x = true) : isB .int x = some (isIntB x) := by unfold isB; rw [hasTy_dat h]
theorem isB_str {x : D} (h : isDat x = true) : isB .str x = some (isStr x) := by unfold isB; rw [hasTy_dat h]
theorem isNon_dat {x : D} (h : isDat x = true) : isNon x = some (isNo x) := by
  cases x <;> first
    | rfl
    | (rw [isDat] at h; cases h)
theorem okD_bl (b : Bool) : okD (.bl b) := ⟨by rw [isDat], by
  rw [toPy]
  simp [SeqAt.shaped, PyData.canLay0, PyData.depth]⟩
theorem okD_int (i : Int) : okD (.int i) := ⟨by rw [isDat], by
  rw [toPy]
  simp [SeqAt.shaped, PyData.canLay0, PyData.depth]⟩
theorem okD_non : okD .non := ⟨by rw [isDat], by
  rw [toPy]
  simp [SeqAt.shaped, PyData.canLay0, PyData.depth]⟩
theorem okD_str {x : Str} (h : PyData.canLay0 (.str x) = true) : okD (.str x) := ⟨by rw [isDat], by
  rw [toPy]
  simp [SeqAt.shaped, h, PyData.depth]⟩
theorem eqD_int (i j : Int) : eqD (.int i) (.int j) = (i == j) := by simp [eqD, toPy, PyData.eqv]
theorem eqD_bl (i j : Bool) : eqD (.bl i) (.bl j) = (i == j) := by simp [eqD, toPy, PyData.eqv]
theorem eqD_str (i j : Str) : eqD (.str i) (.str j) = (i == j) := by simp [eqD, toPy, PyData.eqv]
theorem eqD_non : eqD .non .non = true := by simp [eqD, toPy, PyData.eqv]
/-! ### a loop over a range, by places -/
theorem rangeD_nat (n : Nat) : rangeD 0 (n : Int) = (List.range n).map fun k : Nat => D.int (k : Int) := by
  unfold rangeD
  simp
/-! the same data, of the same kinds -/
mutual
def sameD : D → D → Bool
  | .non, .non => true
  | .bl a, .bl b => a == b
  | .int a, .int b => a == b
  | .str a, .str b => a == b
  | .tup a, .tup b => sameDs a b
  | .lst a, .lst b => sameDs a b
  | _, _ => false
def sameDs : List D → List D → Bool
  | [], [] => true
  | a :: r, b :: s => sameD a b && sameDs r s
  | _, _ => false
end
/-! how deep data lies -/
mutual
def depD : D → Nat
  | .tup l => depDs l + 1
  | .lst l => depDs l + 1
  | .ins _ _ l => depDs l + 1
  | _ => 0
def depDs : List D → Nat
  | [] => 0
  | d :: l => max (depD d) (depDs l)
end
/-! every text within can be compared -/
mutual
def txtOk : D → Prop
  | .str x => PyData.canLay0 (.str x) = true
  | .tup l => l.length ≤ sizeLine ∧ txtOks l
  | .lst l => l.length ≤ sizeLine ∧ txtOks l
  | .ins _ _ _ => False
  | .any => False
  | _ => True
def txtOks : List D → Prop
  | [] => True
  | d :: l => txtOk d ∧ txtOks l
end
def F_same (n : Nat) : FM := fun rs Qd => ∃ a d, rs = [.val a, .val d] ∧ depD d < n ∧ isDat a = true ∧ txtOk a ∧ isDat d = true ∧ txtOk d ∧ Qd (.val (.bl (sameD a d)))
theorem sameDs_length : ∀ {a b : List D}, sameDs a b = true → a.length = b.length
  | [], [], _ => rfl
  | [], _ :: _, h => by simp [sameDs] at h
  | _ :: _, [], h => by simp [sameDs] at h
  | _ :: r, _ :: s, h => by
    rw [sameDs, Bool.and_eq_true] at h
    rw [List.length_cons, List.length_cons, sameDs_length h.2]
theorem isDats_get {l : List D} {i : Nat} {d : D} (h : isDats l = true) (e : l[i]? = some d) : isDat d = true := by
  induction l generalizing i with
  | nil => simp at e
  | cons x r ih =>
    rw [isDats, Bool.and_eq_true] at h
    cases i with
    | zero => simp at e; subst e; exact h.1
    | succ i => exact ih h.2 (by simpa using e)
theorem txtOks_get {l : List D} {i : Nat} {d : D} (h : txtOks l) (e : l[i]? = some d) : txtOk d := by
  induction l generalizing i with
  | nil => simp at e
  | cons x r ih =>
    rw [txtOks] at h
    cases i with
    | zero => simp at e; subst e; exact h.1
    | succ i => exact ih h.2 (by simpa using e)
theorem depDs_get {l : List D} {i : Nat} {d : D} (e : l[i]? = some d) : depD d ≤ depDs l := by
  induction l generalizing i with
  | nil => simp at e
  | cons x r ih =>
    rw [depDs]
    cases i with
    | zero => simp at e; subst e; omega
    | succ i => have := ih (i := i) (by simpa using e); omega
/-- the first k places are the same -/
theorem sameDs_iff {a b : List D} (hl : a.length = b.length) : sameDs a b = true ↔ ∀ (i : Nat) (x y : D), a[i]? = some x → b[i]? = some y → sameD x y = true := by
  induction a generalizing b with
  | nil =>
    cases b with
    | nil => simp [sameDs]
    | cons y s => cases hl
  | cons x r ih =>
    cases b with
    | nil => cases hl
    | cons y s =>
      rw [sameDs, Bool.and_eq_true, ih (by simpa using hl)]
      constructor
      · rintro ⟨h1, h2⟩ i u v e1 e2
        cases i with
        | zero => simp at e1 e2; subst e1; subst e2; exact h1
        | succ i => exact h2 i u v (by simpa using e1) (by simpa using e2)
      · intro h
        exact ⟨h 0 x y rfl rfl, fun i u v e1 e2 => h (i + 1) u v (by simpa using e1) (by simpa using e2)⟩
end DL
end

section
set_option Elab.async false
set_option linter.all false
set_option maxRecDepth 100000
set_option maxHeartbeats 4000000
namespace DL
open PySem PySem.Spec PyProof.Rows L2
open Evl (Ex)
/-! ### walking through a meaning, from the head -/
section
variable {E : DEn} {env : En} {Q : En → R → Prop} {QT : En → Bool → Prop} {QA : En → List R → Prop} {QI : En → List D → Prop} {Qe : En → Prop} {QR : R → Prop} {m n mi : DM} {a b c d : DSM} {t u : DTM} {na : DAM} {i j : Nat} {x y : D} {g : DGM}
theorem s_seq (h : a { E with nx := b E } env) : dSeq a b E env := h
theorem s_next (h : E.nx env) : dNext E env := h
theorem s_ifs (h : t env fun env1 c => dIte c (a E env1) (b E env1)) : dIfS t a b E env := h
theorem s_iteT {p q : Prop} (h : p) : dIte true p q := ⟨fun _ => h, (fun e => nomatch e)⟩
theorem s_iteF {p q : Prop} (h : q) : dIte false p q := ⟨(fun e => nomatch e), fun _ => h⟩
theorem s_ite1 {c : Bool} {p q : Prop} (e : c = true) (h : p) : dIte c p q := ⟨fun _ => h, (fun e2 => nomatch e.symm.trans e2)⟩
theorem s_ite0 {c : Bool} {p q : Prop} (e : c = false) (h : q) : dIte c p q := ⟨(fun e2 => nomatch e.symm.trans e2), fun _ => h⟩
theorem s_ret (h : m env fun env' r => match r with
  | .val d => E.rt env' (.val d)
  | .own l => E.rt env' (.own l)
  | .brw _ l => E.rt env' (.own l)
  | .pool => E.rt env' .pool) : dRet m E env := h
theorem s_retN (h : E.rt env (.val .non)) : dRetN E env := h
theorem s_brk (h : E.bk env) : dBrk E env := h
theorem s_cnt (h : E.ct env) : dCnt E env := h
theorem s_drop (h : m env fun env' _ => E.nx env') : dDrop m E env := h
theorem s_set (h : m env fun env' r => match r with
  | .val d => E.nx (env'.set i (some (.val d)))
  | .own l => E.nx (env'.set i (some (.own l)))
  | .brw j l => E.nx ((env'.set j (some (.val (.lst l)))).set i (some (.val (.lst l))))
  | .pool => E.nx (env'.set i (some .pool))) : dSet i m E env := h
theorem s_or (h : t env fun env1 c => dIte c (QT env1 true) (u env1 QT)) : dOr t u env QT := h
theorem s_and (h : t env fun env1 c => dIte c (u env1 QT) (QT env1 false)) : dAnd t u env QT := h
theorem s_not (h : t env fun env1 c => QT env1 (!c)) : dNot t env QT := h
theorem s_tru (h : m env fun env1 r => ∃ b, truD r.data = some b ∧ QT env1 b) : dTru m env QT := h
theorem s_B (h : m env fun env1 r => match r with
  | .val (.bl c) => QT env1 c
  | _ => False) : dB m env QT := h
theorem s_isi {T : BT} (h : m env fun env' r => mIsi T r.data fun q => Q env' q) : dIsi T m env Q := h
theorem s_var {d : D} (h : Q env (.val d)) (e : env[i]? = some (some (.val d)) := by rfl) : dVar i env Q := by
  unfold dVar
  rw [e]
  exact h
theorem s_varO {l : List D} (h : Q env (.brw i l)) (e : env[i]? = some (some (.own l)) := by rfl) : dVar i env Q := by
  unfold dVar
  rw [e]
  exact h
theorem s_varP (h : Q env .pool) (e : env[i]? = some (some .pool) := by rfl) : dVar i env Q := by
  unfold dVar
  rw [e]
  exact h
theorem s_c (h : Q env (.val x)) : dC x env Q := h
theorem s_op {o : M2} (h : m env fun env1 r1 => n env1 fun env2 r2 => o r1.data r2.data fun q => Q env2 q) : dOp o m n env Q := h
theorem s_un {o : M1} (h : m env fun env1 r1 => o r1.data fun q => Q env1 q) : dUn o m env Q := h
theorem s_cb {o : MA} (h : na env fun env' rs => o (rs.map R.data) fun q => Q env' q) : dCB o na env Q := h
theorem s_nil (h : QA env []) : dNil env QA := h
theorem s_cons (h : m env fun env1 r => na env1 fun env2 rs => QA env2 (r :: rs)) : dCons m na env QA := h
theorem s_keep (h : m env fun env' r => match r with
  | .val d => Q env' (.val d)
  | .own l => Q env' (.val (.lst l))
  | .brw i l => Q (env'.set i (some (.val (.lst l)))) (.val (.lst l))
  | .pool => Q env' .pool) : dKeep m env Q := h
theorem s_call {F : FM} (h : na env fun env' rs => argsOk rs = true ∧ F rs fun r => match r with
  | .brw _ _ => False
  | r => Q env' r) : dCall F na env Q := h
theorem s_andV (h : m env fun env1 r => match r with
  | .val (.bl c) => dIte c (n env1 Q) (Q env1 (.val (.bl false)))
  | _ => False) : dAndV m n env Q := h
theorem s_orV (h : m env fun env1 r => match r with
  | .val (.bl c) => dIte c (Q env1 (.val (.bl true))) (n env1 Q)
  | _ => False) : dOrV m n env Q := h
theorem s_notV (h : m env fun env1 r => match r with
  | .val (.bl c) => Q env1 (.val (.bl (!c)))
  | _ => False) : dNotV m env Q := h
theorem s_if (h : t env fun env1 c => dIte c (m env1 Q) (n env1 Q)) : dIf t m n env Q := h
theorem s_tup (h : na env fun env' rs => ∃ ds, vals rs = some ds ∧ ds.length ≤ sizeLine ∧ Q env' (.val (.tup ds))) : dTup na env Q := h
theorem s_lst (h : na env fun env' rs => ∃ ds, vals rs = some ds ∧ ds.length ≤ sizeLine ∧ Q env' (.own ds)) : dLst na env Q := h
theorem s_for {mi : DIM} (h : mi env fun env' ds => dLoop g a E ds env') : dFor mi g a E env := h
theorem s_rng1 (h : m env fun env' r => match r with
  | .val (.int j) => -(2 ^ 62) ≤ j ∧ j < 2 ^ 62 ∧ QI env' (rangeD 0 j)
  | _ => False) : dRng1 m env QI := h
theorem s_rng2 (h : m env fun env1 r => n env1 fun env2 q => match r, q with
  | .val (.int i), .val (.int j) => (-(2 ^ 62) ≤ i ∧ i < 2 ^ 62 ∧ -(2 ^ 62) ≤ j ∧ j < 2 ^ 62) ∧ QI env2 (rangeD i j)
  | _, _ => False) : dRng2 m n env QI := h
theorem s_over (h : dKeep m env fun env' r => match r with
  | .val (.lst l) => QI env' l
  | .val (.tup l) => QI env' l
  | _ => False) : dOver m env QI := h
theorem s_rev (h : dKeep m env fun env' r => match r with
  | .val (.lst l) => QI env' l.reverse
  | .val (.tup l) => QI env' l.reverse
  | _ => False) : dRev m env QI := h
theorem s_enum (h : dKeep m env fun env' r => match r with
  | .val (.lst l) => QI env' (enumD 0 l)
  | _ => False) : dEnum m env QI := h
theorem s_zip (h : dKeep m env fun env1 r => dKeep n env1 fun env2 q => match r, q with
  | .val (.lst l), .val (.lst l2) => QI env2 (zipD l l2)
  | _, _ => False) : dZip m n env QI := h
theorem s_name (h : Qe (env.set i (some (.val x)))) : dName i x env Qe := h
theorem s_tg {k : Nat} {hg : DGsM} {l : List D} (h : l.length = k ∧ hg l env Qe) : dTg k hg (.tup l) env Qe := h
theorem s_tcons {hg : DGsM} {r : List D} (h : g x env fun env' => hg r env' Qe) : dTCons g hg (x :: r) env Qe := h
theorem s_tnil (h : Qe env) : dTNil [] env Qe := h
theorem s_aug {o : M2} {z : D} (h : m env fun env1 r => o z r.data fun q => match q with
  | .val d => E.nx (env1.set i (some (.val d)))
  | _ => False) (e : env[i]? = some (some (.val z)) := by rfl) : dAug i o m E env := ⟨z, e, h⟩
theorem s_app {l : List D} (h : dKeep m env fun env1 r => match r, env1[i]? with
    | .val d, some (some (.own l)) => l.length < sizeLine ∧ E.nx (env1.set i (some (.own (l ++ [d]))))
    | _, _ => False) (e : env[i]? = some (some (.own l)) := by rfl) : dApp i m E env := by
  unfold dApp
  rw [e]
  exact h
theorem s_put (h : dKeep m env fun env1 r => (∃ l0, Has env1 i (.own l0)) ∧ mi env1 fun env2 k => match r, k, env2[i]? with
  | .val d, .val (.int j), some (some (.own l)) => ∃ n, ixN l.length j = some n ∧ E.nx (env2.set i (some (.own (l.set n d))))
  | _, _, _ => False) : dPut i mi m E env := h
theorem s_par (h : na env fun env' rs => match rs with
  | [.val d, .val d2] => E.nx ((env'.set i (some (.val d))).set j (some (.val d2)))
  | _ => False) : dPar i j na E env := h
theorem s_asg (h : dKeep m env fun env' r => match r with
  | .val d => g d env' E.nx
  | _ => False) : dAsg g m E env := h
theorem s_loopN {a : DSM} (h : E.nx env) : dLoop g a E [] env := h
theorem s_loopC {a : DSM} {r : List D} (h : g x env fun env' => a { E with nx := dLoop g a E r, ct := dLoop g a E r, bk := E.nx } env') : dLoop g a E (x :: r) env := h
theorem s_sl {l h' : DOM} (h : m env fun env1 r => l env1 fun env2 lo => h' env2 fun env3 hi => mSl r.data lo hi fun q => Q env3 q) : dSl m l h' env Q := h
theorem s_noPart {QO : En → Option Int → Prop} (h : QO env none) : dNoPart env QO := h
theorem s_part {QO : En → Option Int → Prop} (h : m env fun env' r => match r with
  | .val (.int i) => QO env' (some i)
  | _ => False) : dPart m env QO := h
theorem s_m1 {o : M2} (h : m env fun env1 x => (∃ z, x.data = .str z) ∧ n env1 fun env2 y => o x.data y.data fun q => Q env2 q) : dM1 o m n env Q := h
theorem s_chain {o o' : M2} {k : DM} (h : m env fun env1 x => n env1 fun env2 y => o x.data y.data fun q => match q with
  | .val (.bl c) => dIte c (k env2 fun env3 z => o' y.data z.data fun q => Q env3 q) (Q env2 (.val (.bl false)))
  | _ => False) : dChain o o' m n k env Q := h
theorem s_fld {C : Addr} {f : Str} (h : m env fun env' r => match r with
  | .val (.ins C' ns l) => C' = C ∧ ∃ d, lookF f ns l = some d ∧ Q env' (.val d)
  | _ => False) : dFld C f m env Q := h
theorem s_lc {mi : DIM} {vs : List Nat} (h : mi env fun env1 ds => plainAt env1 vs = true ∧ dLcL vs g t m ds (wipeD env1 vs) [] fun env2 acc => Q (backD env1 env2 vs) (.own acc)) : dLc mi vs g t m env Q := h
theorem s_yes (h : QT env true) : dYes env QT := h
theorem s_lcN {vs : List Nat} {acc : List D} {Ql : En → List D → Prop} (h : Ql env acc) : dLcL vs g t m [] env acc Ql := h
theorem s_lcC {vs : List Nat} {acc r : List D} {Ql : En → List D → Prop} (h : g x env (dLcT t m (fun env acc => dLcL vs g t m r (wipeD env vs) acc Ql) acc)) : dLcL vs g t m (x :: r) env acc Ql := h
theorem s_lcT {acc : List D} {nxt : En → List D → Prop} (h : t env fun env2 b => dIte b
      (dKeep m env2 fun env3 q => match q with
        | .val x => acc.length < sizeLine ∧ nxt env3 (acc ++ [x])
        | _ => False)
      (nxt env2 acc)) : dLcT t m nxt acc env := h
/-! values -/
theorem v_eq {c : Bool} (h1 : okD x ∧ okD y) (h : QR (.val (.bl c))) (e : eqD x y = c := by first | rfl | exact eqD_int _ _ | exact eqD_bl _ _ | exact eqD_str _ _) : mEq x y QR := ⟨h1, e ▸ h⟩
theorem v_ne {c : Bool} (h1 : okD x ∧ okD y) (h : QR (.val (.bl (!c)))) (e : eqD x y = c := by first | rfl | exact eqD_int _ _ | exact eqD_bl _ _ | exact eqD_str _ _) : mNe x y QR := ⟨h1, e ▸ h⟩
theorem v_is {c : Bool} (h : QR (.val (.bl c))) (e : isNon x = some c := by rfl) : mIs x .non QR := ⟨c, e, h⟩
theorem v_isN {c : Bool} (h : QR (.val (.bl (!c)))) (e : isNon x = some c := by rfl) : mIsN x .non QR := ⟨c, e, h⟩
theorem v_lenL {l : List D} (h : QR (.val (.int l.length))) : mLen [.lst l] QR := h
theorem v_lenT {l : List D} (h : QR (.val (.int l.length))) : mLen [.tup l] QR := h
theorem v_lenS {z : Str} (h : z.length ≤ sizeLine) (k : QR (.val (.int z.length))) : mLen [.str z] QR := ⟨h, k⟩
theorem v_addI {i j : Int} (h : QR (.val (.int (i + j)))) : mAdd (.int i) (.int j) QR := h
theorem v_addL {l r : List D} (e : l.length + r.length ≤ sizeLine) (h : QR (.own (l ++ r))) : mAdd (.lst l) (.lst r) QR := ⟨e, h⟩
theorem v_addS {l r : Str} (e : l.length + r.length ≤ sizeLine) (h : QR (.val (.str (l ++ r)))) : mAdd (.str l) (.str r) QR := ⟨e, h⟩
theorem v_addA {i j : Int} (h : QR (.val (.int (i + j)))) : mAddI (.int i) (.int j) QR := h
theorem v_sub {i j : Int} (h : QR (.val (.int (i - j)))) : mSub (.int i) (.int j) QR := h
theorem v_mod {i j : Int} (e : 0 < j) (h : QR (.val (.int (i % j)))) : mMod (.int i) (.int j) QR := ⟨e, h⟩
theorem v_cmp {p : List Nat → List Nat → Bool} {f : Int → Int → Bool} {i j : Int} (h : QR (.val (.bl (f i j)))) : m2S p f (.int i) (.int j) QR := h
theorem v_cmpS {p : List Nat → List Nat → Bool} {f : Int → Int → Bool} {i j : Str} (h : QR (.val (.bl (p i.cps.toList j.cps.toList)))) : m2S p f (.str i) (.str j) QR := h
theorem v_ixL {l : List D} {i : Int} {z : D} (e : atI l i = some z) (h : QR (.val z)) : mIx (.lst l) (.int i) QR := ⟨z, e, h⟩
theorem v_ixT {l : List D} {i : Int} {z : D} (e : atI l i = some z) (h : QR (.val z)) : mIx (.tup l) (.int i) QR := ⟨z, e, h⟩
theorem v_intI {i : Int} (h : QR (.val (.int i))) : mInt [.int i] QR := h
theorem v_intB {b : Bool} (h : QR (.val (.int (if b then 1 else 0)))) : mInt [.bl b] QR := h
theorem v_list {l : List D} (h : QR (.own l)) : mList [.lst l] QR := h
theorem v_listT {l : List D} (h : QR (.own l)) : mList [.tup l] QR := h
theorem v_tuple {l : List D} (h : QR (.val (.tup l))) : mTuple [.lst l] QR := h
theorem v_tupleT {l : List D} (h : QR (.val (.tup l))) : mTuple [.tup l] QR := h
theorem v_slL {l : List D} {lo hi : Option Int} (h : QR (.own (cutD l lo hi))) : mSl (.lst l) lo hi QR := h
end
end DL
end

section
set_option Elab.async false
set_option linter.all false
set_option maxRecDepth 100000
set_option maxHeartbeats 4000000
namespace DL
open PySem PySem.Spec PyProof.Rows L2
open Evl (Ex)
/-! ### places, by natural numbers -/
theorem atI_nat {α : Type} {l : List α} {k : Nat} {d : α} (h : l[k]? = some d) : atI l (k : Int) = some d := by
  have hk : k < l.length := by
    rcases Nat.lt_or_ge k l.length with q | q
    · exact q
    · rw [List.getElem?_eq_none q] at h
      cases h
  unfold atI ixN
  rw [if_pos (by omega), if_pos (by omega)]
  exact h
theorem rangeD_nat' (n : Nat) : rangeD 0 (n : Int) = (List.range' 0 n).map fun k : Nat => D.int (k : Int) := by
  rw [rangeD_nat, List.range_eq_range']
theorem sameDs_false {a b : List D} (h : a.length ≠ b.length) : sameDs a b = false := by
  cases q : sameDs a b with
  | false => rfl
  | true => exact absurd (sameDs_length q) h
theorem neLen {m n : Nat} : (!eqD (.int (m : Int)) (.int (n : Int))) = true ↔ m ≠ n := by
  rw [eqD_int]
  simp
  omega
theorem neLen' {m n : Nat} : (!eqD (.int (m : Int)) (.int (n : Int))) = false ↔ m = n := by
  rw [eqD_int]
  simp
  omega
/-- a list or a tuple with these parts -/
def SqD (x : D) (l : List D) : Prop := x = .lst l ∨ x = .tup l
theorem SqD.ix {x : D} {l : List D} {k : Nat} {d : D} {Q : R → Prop} (h : SqD x l) (e : l[k]? = some d) (q : Q (.val d)) : mIx x (.int k) Q := by
  rcases h with rfl | rfl
  · exact ⟨d, atI_nat e, q⟩
  · exact ⟨d, atI_nat e, q⟩
theorem mIx_same {x : D} {la : List D} (h : SqD x la) (dx : isDat x = true) (tx : txtOk x) : isDats la = true ∧ txtOks la := by
  rcases h with rfl | rfl
  · exact ⟨dx, tx.2⟩
  · exact ⟨dx, tx.2⟩
end DL
end

section
set_option Elab.async false
set_option linter.all false
set_option maxRecDepth 100000
set_option maxHeartbeats 4000000
namespace DL
open PySem PySem.Spec PyProof.Rows L2
open Evl (Ex)
/-! ### taking away from a name's own list -/
theorem Reps.dropLast {K : PySem.W.Frag} {S : Hp} {vs : List V} {ds : List D} (h : Reps K S vs ds) : Reps K S vs.dropLast ds.dropLast := by
  rw [List.dropLast_eq_take, List.dropLast_eq_take, h.length]
  exact h.take _
/-- an expression that may change the names' own lists -/
abbrev PM := En → (En → D → Prop) → (Xd → Prop) → Prop
def DP (X : Cx) (e : Expr) (m : PM) (t : TE) : Prop := PE X e t ∧ ∀ (B : Bs) (S H : Hp) (env : En) (σ : L2.St) (Q : En → D → Prop) (Qx : Xd → Prop) (Qv : VK), SR X.K B S H env σ → m env Q Qx → XcOk X B σ Qx →
  (∀ v d H' S' env', SR X.K B S' H' env' σ → Rep X.K S' v d → Q env' d → Qv v H') → t σ H Qv
/-- xs.pop() -/
def dPopL (i : Nat) : PM := fun env Q _ => match env[i]? with
  | some (some (.own l)) => ∃ d, l[l.length - 1]? = some d ∧ Q (env.set i (some (.own l.dropLast))) d
  | _ => False
/-- xs.pop(0) -/
def dPopF (i : Nat) : PM := fun env Q _ => match env[i]? with
  | some (some (.own (d :: l))) => Q (env.set i (some (.own l))) d
  | _ => False
/-- int(..) of such -/
def dPInt (m : PM) : PM := fun env Q Qx => m env (fun env' d => mInt [d] fun r => match r with
  | .val d' => Q env' d'
  | _ => False) Qx
section
variable {X : Cx} {x : Str} {xp apos cpos p pos : Pos} {i j : Nat} {a b : Expr} {m : PM} {ta : TE}
theorem dp_popL (hv : PE X (.Name x xp) (tVar i)) (hbase : attributeBase (.Name x xp) "pop" X.env (eval (.Name x xp) X.env) = eval (.Name x xp) X.env := by rfl) (hline : (apos.endLine == cpos.line) = true := by rfl) :
    DP X (.Call (.Attribute (.Name x xp) "pop" apos) [] [] cpos) (dPopL i) (tBM0 X.K "list" rPop (tVar i)) := by
  refine ⟨pe_bm0 PySem.F.plainAttrs_list PySem.F.slot_list_pop PySem.F.type_list_pop mt_pop hv hbase hline, fun B S H env σ Q Qx Qv s q xk k => ?_⟩
  unfold dPopL at q
  split at q
  · rename_i l c
    obtain ⟨d, q1, q2⟩ := q
    obtain ⟨p, vs, hp, p1, p2, p3, p4⟩ := s.own i l c
    obtain ⟨v, v1, v2⟩ := p4.get q1
    refine ⟨.ref p, hp, .inl ⟨rfl, _, SqL.of p3⟩, p, vs, v, rfl, rfl, p3, by rw [p4.length]; exact v1, ?_⟩
    exact k v d _ S _ (s.put c hp p4.dropLast) v2 q2
  · exact q.elim
theorem dp_popF (hv : PE X (.Name x xp) (tVar i)) (hb : PE X b (tC (.int 0))) (hbase : attributeBase (.Name x xp) "pop" X.env (eval (.Name x xp) X.env) = eval (.Name x xp) X.env := by rfl) (hline : (apos.endLine == cpos.line) = true := by rfl)
    (hfew : ((backTo cpos (starEach [b] X.env)).all (fun x => !x.1) && (backToKw cpos (keywordEach [] X.env)).all (fun x => x.1.isSome)
      && decide (([b] : List Expr).length + ([] : List Keyword).length + (if ([] : List Keyword).isEmpty then 0 else 1) < 30)) = true := by rfl)
    (hs : starEach [b] X.env = (false, eval (b) X.env) :: starEach [] X.env := by rfl) :
    DP X (.Call (.Attribute (.Name x xp) "pop" apos) [b] [] cpos) (dPopF i) (tBM X.K "list" rPopAt (tVar i) (tCons (tC (.int 0)) tNil)) := by
  refine ⟨pe_bm PySem.F.plainAttrs_list PySem.F.slot_list_pop PySem.F.type_list_pop mt_popAt hv (pa_cons hb pa_nil hs) hbase hfew hline hs, fun B S H env σ Q Qx Qv s q xk k => ?_⟩
  unfold dPopF at q
  split at q
  · rename_i d l c
    obtain ⟨p, vs, hp, p1, p2, p3, p4⟩ := s.own i _ c
    cases p4 with
    | cons v2 r =>
      rename_i v vs'
      refine ⟨.ref p, hp, .inl ⟨rfl, _, SqL.of p3⟩, ?_⟩
      refine ⟨p, v :: vs', 0, 0, v, rfl, rfl, p3, by decide, by decide, ?_, rfl, ?_⟩
      · unfold seqIndex?
        simp
      · exact k v d _ S _ (s.put c hp (vs' := vs') r) v2 q
  · exact q.elim
theorem dp_int (hd : DP X a m ta) (hg : Gl X "int") (hm : X.mg "int" = none) (hv : bootBuiltins "int" = some (.type "int"))
    (he : starEach (a :: []) X.env = (false, eval a X.env) :: starEach [] X.env := by rfl) (hpl : (backTo pos (starEach [] X.env)).any (·.1) = false := by rfl) :
    DP X (.Call (.Name "int" p) [a] [] pos) (dPInt m) (tCB rInt (tCons ta tNil)) := by
  refine ⟨pe_callTy call_intA hg hm hv (pa_cons hd.1 pa_nil he) (by decide) (by decide) he hpl, fun B S H env σ Q Qx Qv s q xk k => ?_⟩
  refine hd.2 B S H env σ _ _ _ s q xk fun v d H1 S1 env1 s1 r1 q1 => ?_
  refine cd_int S1 H1 [v] [d] _ _ s1.ex (.cons (.inl r1) .nil) q1 fun u H2 S2 r n q2 => ?_
  cases r with
  | val d' => exact k u d' H2 S2 env1 (s1.nw n.nw) n.2 q2
  | own l => exact q2.elim
  | brw i l => exact q2.elim
  | pool => exact q2.elim
/-! ### statements with such -/
def dSetP (i : Nat) (m : PM) : DSM := fun E env => m env (fun env' d => E.nx (env'.set i (some (.val d)))) E.xc
def dRetP (m : PM) : DSM := fun E env => m env (fun env' d => E.rt env' (.val d)) E.xc
def dAsgP (g : DGM) (m : PM) : DSM := fun E env => m env (fun env' d => g d env' E.nx) E.xc
def dAppP (j : Nat) (m : PM) : DSM := fun E env => (∃ l0, Has env j (.own l0)) ∧ m env (fun env' d => match env'[j]? with
  | some (some (.own l)) => l.length < sizeLine ∧ E.nx (env'.set j (some (.own (l ++ [d]))))
  | _ => False) E.xc
theorem ds_setP {pos' : Pos} (ha : DP X a m ta) (hN : X.N.Nodup) (hi : X.N[i]? = some x) (hx : Loc X.env.scope x) (hs : swapsWith a (some (.Name x pos')) pos.line X.env = pure false := by rfl)
    (hf : X.fn x = true ∨ X.env.scope.names.lookup x = some .local := by first | exact .inl rfl | exact .inr rfl | assumption) : DS X (.Assign [.Name x pos'] a pos) (dSetP i m) (tAsg ta (gName i)) := by
  refine ⟨ps_set hN hi hx ha.1 hs hf, fun B S H env σ E D s q e => ?_⟩
  exact ha.2 B S H env σ _ _ _ s q (e.xc σ) fun v d H' S' env' s' r q' => e.nx S' H' _ _ (s'.storeD r) q'
theorem ds_retP (ha : DP X a m ta) : DS X (.Return (some a) pos) (dRetP m) (tRet ta) := by
  refine ⟨ps_ret ha.1, fun B S H env σ E D s q e => ?_⟩
  exact ha.2 B S H env σ _ _ _ s q (e.xc σ) fun v d H' S' env' s' r q' => e.rt S' H' env' σ (.val d) v s' r q'
theorem ds_asgP {tg : Expr} {g : DGM} {tg1 : TG} (ha : DP X a m ta) (hg : DG X tg g tg1) (hs : swapsWithSole [tg] a pos.line X.env = pure false := by rfl) (hw : swappedStores [tg] a X.env = pure none := by rfl)
    (h1 : (assignEach [tg] X.env).map (·.2) = [assign tg X.env] := by rfl) : DS X (.Assign [tg] a pos) (dAsgP g m) (tAsg ta tg1) := by
  refine ⟨ps_asg ha.1 hg.1 hs hw h1, fun B S H env σ E D s q e => ?_⟩
  exact ha.2 B S H env σ _ _ _ s q (e.xc σ) fun v d H' S' env' s' r q' => hg.2 B S' H' env' σ v d _ _ s' r q' fun env2 σ2 s2 q2 => e.nx S' H' env2 σ2 s2 q2
theorem ds_appP (hv : PE X (.Name x xp) (tVar j)) (ha : DP X a m ta)
    (hbase : attributeBase (.Name x xp) "append" X.env (eval (.Name x xp) X.env) = eval (.Name x xp) X.env := by rfl)
    (hfew : ((backTo cpos (starEach (a :: []) X.env)).all (fun x => !x.1) && (backToKw cpos (keywordEach [] X.env)).all (fun x => x.1.isSome)
      && decide ((a :: []).length + ([] : List Keyword).length + (if ([] : List Keyword).isEmpty then 0 else 1) < 30)) = true := by rfl)
    (hline : (apos.endLine == cpos.line) = true := by rfl) (hs : starEach (a :: []) X.env = (false, eval a X.env) :: starEach [] X.env := by rfl) (hplain : (backTo cpos (starEach [] X.env)).any (·.1) = false := by rfl)
    (hsw : swapsWith (.Call (.Attribute (.Name x xp) "append" apos) [a] [] cpos) none pos.line X.env = pure false := by rfl) : DS X (.Expr (.Call (.Attribute (.Name x xp) "append" apos) [a] [] cpos) pos) (dAppP j m) (tDrop (tBM X.K "list" rAppend (tVar j) (tCons ta tNil))) := by
  refine ⟨ps_expr (pe_bm PySem.F.plainAttrs_list PySem.F.slot_list_append PySem.F.type_list_append mt_append hv (pa_cons ha.1 pa_nil hs) hbase hfew hline hs hplain) hsw, fun B S H env σ E D s q e => ?_⟩
  obtain ⟨⟨l0, c0⟩, q⟩ := q
  obtain ⟨p, vs, hp, p1, p2, p3, p4⟩ := s.own j l0 c0
  refine ⟨.ref p, hp, .inl ⟨rfl, _, SqL.of p3⟩, ?_⟩
  refine ha.2 B S H env σ _ _ _ s q (e.xc σ) fun v d H' S' env' s' r q' => ?_
  split at q'
  · rename_i l c
    obtain ⟨p', ws, y1, y2, y3, y4, y5⟩ := s'.own j l c
    cases Slt.ref hp y1
    refine ⟨p, ws, v, rfl, rfl, y4, by rw [y5.length]; exact q'.1, ?_⟩
    exact e.nx S' _ _ σ (s'.put c hp (y5.append (.cons r .nil))) q'.2
  · exact q'.elim
/-! ### xs.extend(list) -/
def dExt (i : Nat) (m : DM) : DSM := fun E env => (∃ l0, Has env i (.own l0)) ∧ m env fun env' r => match r.data, env'[i]? with
  | .lst l2, some (some (.own l)) => l.length + l2.length ≤ sizeLine ∧ E.nx (env'.set i (some (.own (l ++ l2))))
  | _, _ => False
theorem ds_ext {ma : DM} (hv : PE X (.Name x xp) (tVar i)) (ha : DE X a ma ta)
    (hbase : attributeBase (.Name x xp) "extend" X.env (eval (.Name x xp) X.env) = eval (.Name x xp) X.env := by rfl)
    (hfew : ((backTo cpos (starEach (a :: []) X.env)).all (fun x => !x.1) && (backToKw cpos (keywordEach [] X.env)).all (fun x => x.1.isSome)
      && decide ((a :: []).length + ([] : List Keyword).length + (if ([] : List Keyword).isEmpty then 0 else 1) < 30)) = true := by rfl)
    (hline : (apos.endLine == cpos.line) = true := by rfl) (hs : starEach (a :: []) X.env = (false, eval a X.env) :: starEach [] X.env := by rfl) (hplain : (backTo cpos (starEach [] X.env)).any (·.1) = false := by rfl)
    (hsw : swapsWith (.Call (.Attribute (.Name x xp) "extend" apos) [a] [] cpos) none pos.line X.env = pure false := by rfl) : DS X (.Expr (.Call (.Attribute (.Name x xp) "extend" apos) [a] [] cpos) pos) (dExt i ma) (tDrop (tBM X.K "list" rExtend (tVar i) (tCons ta tNil))) := by
  refine ⟨ps_expr (pe_bm PySem.F.plainAttrs_list PySem.F.slot_list_extend PySem.F.type_list_extend mt_extend hv (pa_cons ha.1 pa_nil hs) hbase hfew hline hs hplain) hsw, fun B S H env σ E D s q e => ?_⟩
  obtain ⟨⟨l0, c0⟩, q⟩ := q
  obtain ⟨p, vs, hp, p1, p2, p3, p4⟩ := s.own i l0 c0
  refine ⟨.ref p, hp, .inl ⟨rfl, _, SqL.of p3⟩, ?_⟩
  refine ha.2 B S H env σ _ _ s q fun v H' S' env' r z q' => ?_
  have zl := z.look1
  split at q'
  · rename_i l2 l c1 c
    rw [c1] at zl
    obtain ⟨b, zs, rfl, b1, b2⟩ := zl.lstH z.sr.ex
    obtain ⟨p', ws, y1, y2, y3, y4, y5⟩ := z.sr.own i l c
    cases Slt.ref hp y1
    refine ⟨p, b, ws, zs, rfl, rfl, y4, b1, by rw [y5.length, b2.length]; exact q'.1, ?_⟩
    exact e.nx S' _ _ σ (z.sr.put c hp (y5.append b2)) q'.2
  · exact q'.elim
end
end DL
end

section
set_option Elab.async false
set_option linter.all false
set_option maxRecDepth 100000
set_option maxHeartbeats 4000000
namespace HT
open PySem PySem.Spec PyProof.Rows
section
variable {prog : Program} {w : World} {A : Around} {E : Value → Shared → Prop} {s : Shared}
theorem turned_applied {sl : Addr} {vl vu vs : Value} {n : Nat} {Q : Int × Int × Nat → Shared → Prop} (hs : s.heap.IsSliceOf sl vl vu vs) (pl : IsPart vl none) (pu : IsPart vu none) (ps : IsPart vs (some (-1)))
    (h : Q ((n : Int) - 1, -1, n) s) : wpAny (model prog w) A (Builtin.Slice.sliceApplied (.ref sl) (pure (n : Int))) Q E s := by
  obtain ⟨os, hos, hcs, hds⟩ := id hs
  unfold Builtin.Slice.sliceApplied Builtin.Slice.sliceFields
  refine wpAny_bind (wpAny_bind (wpAny_field hos hds (x := vl) rfl (wpAny_bind (wpAny_field hos hds (x := vu) rfl (wpAny_bind (wpAny_field hos hds (x := vs) rfl (wpAny_pure ?_)))))))
  refine wpAny_bind (slicePart_ ps ?_)
  show wpAny _ _ (if ((-1 : Int) == 0) = true then _ else _) _ _ s
  rw [if_neg (by decide)]
  refine wpAny_bind (slicePart_ pl (wpAny_bind (slicePart_ pu (wpAny_bind (wpAny_pure ?_)))))
  have e1 : Builtin.Slice.sliceAdjust none none (-1) (n : Int) = ((n : Int) - 1, -1) := by
    unfold Builtin.Slice.sliceAdjust
    rfl
  have e2 : Builtin.Slice.slicePlaces ((n : Int) - 1) (-1) (-1) = n := by
    unfold Builtin.Slice.slicePlaces
    have h1 : ¬ ((-1 : Int) > 0) := by decide
    simp only [h1, if_false]
    by_cases c : (n : Int) - 1 > -1
    · rw [if_pos c, show (- -1 : Int) = 1 by decide, Int.ediv_one]
      omega
    · rw [if_neg c]
      omega
  show wpAny _ _ (match Builtin.Slice.sliceAdjust none none (-1) (n : Int) with | (lo, hi) => pure (lo, (-1 : Int), Builtin.Slice.slicePlaces lo hi (-1))) _ _ s
  rw [e1]
  show wpAny _ _ (pure ((n : Int) - 1, (-1 : Int), Builtin.Slice.slicePlaces ((n : Int) - 1) (-1) (-1))) _ _ s
  rw [e2]
  exact wpAny_pure h
theorem pick_same {α β : Type} {f g : α → Option β} : ∀ {l : List α}, (∀ k, k ∈ l → f k = g k) → l.filterMap f = l.filterMap g
  | [], _ => rfl
  | a :: l, h => by
    rw [List.filterMap_cons, List.filterMap_cons, h a (List.mem_cons_self ..), pick_same fun k hk => h k (List.mem_cons_of_mem _ hk)]
theorem turned_pick (xs : Array Value) : ((List.range xs.size).filterMap fun (k : Nat) => xs[((xs.size : Int) - 1 + (k : Int) * -1).toNat]?).toArray = xs.toList.reverse.toArray := by
  have e : (List.range xs.size).filterMap (fun (k : Nat) => xs[((xs.size : Int) - 1 + (k : Int) * -1).toNat]?) = ((List.range xs.size).map fun k => xs.size - 1 - k).filterMap (xs[·]?) := by
    rw [List.filterMap_map]
    apply pick_same
    intro k hk
    have hk := List.mem_range.mp hk
    have : ((xs.size : Int) - 1 + (k : Int) * -1).toNat = xs.size - 1 - k := by omega
    show xs[((xs.size : Int) - 1 + (k : Int) * -1).toNat]? = xs[xs.size - 1 - k]?
    rw [this]
  rw [e, PySem.W.krv_range, List.filterMap_reverse, PySem.W.krv_all]
theorem turned_tuple {t sl : Addr} {items : Array Value} {vl vu vs : Value} {Q : Value → Shared → Prop} (ht : IsTup s.heap t items) (hs : s.heap.IsSliceOf sl vl vu vs) (pl : IsPart vl none) (pu : IsPart vu none) (ps : IsPart vs (some (-1)))
    (h : Q (.ref s.heap.objs.size) { s with heap := s.heap.push { cls := .type "tuple", data := .seq items.toList.reverse.toArray } })
    (hsz : items.size ≤ sizeLine) : wpAny (model prog w) A (getItem (.ref t) (.ref sl)) Q E s := by
  have hrev : sizeOk (.seq items.toList.reverse.toArray) := by
    show items.toList.reverse.toArray.size ≤ sizeLine
    rw [List.size_toArray, List.length_reverse, Array.length_toList]
    exact hsz
  obtain ⟨os, hos, hcs, hds⟩ := id hs
  have hTs : s.TypeIs (.ref sl) "slice" := ⟨os, hos, hcs⟩
  unfold getItem
  try with_reducible refine wpAny_holding ?_
  first | refine wpAny_bind (wpAny_pure ?_) | skip
  refine wpAny_bind (wpAny_sequenceKey ht.typeIs (by decide) ?_)
  refine wpAny_bind (wpAny_callSpecial?_slot (name := Str.ofString "__getitem__") ht.typeIs PyProof.Rows.slot_tuple_getitem
    (wpAny_call_entry PyProof.Rows.slot_tuple_getitem ht.typeIs entry_tuple_getitem ?_ (args_tuple_getitem _ _)))
  show wpAny _ _ (Builtin.Tuple.tupleItemsOf (.ref t) >>= _) _ _ s
  refine wpAny_bind (tupleItemsOf_ ht ?_)
  refine wpAny_bind (wpAny_typeOf hTs ?_)
  rw [if_pos (by decide)]
  refine wpAny_bind (turned_applied hs pl pu ps ?_)
  have hno : ¬ (((items.size : Int) - 1 == 0 && (-1 : Int) == 1 && items.size == items.size) = true) := by
    intro q
    rw [Bool.and_eq_true, Bool.and_eq_true] at q
    exact absurd (eq_of_beq q.1.2) (by decide)
  show wpAny _ _ (if ((items.size : Int) - 1 == 0 && (-1 : Int) == 1 && items.size == items.size) = true then _ else _) _ _ s
  rw [if_neg hno, turned_pick]
  first
    | exact wpAny_bind (m := Builtin.Tuple.tupleExact _) (wpAny_newObj_type (wpAny_pure ⟨_, rfl, wpAny_pure h⟩) hrev)
    | exact wpAny_bind (m := Builtin.Tuple.tupleExact _) (wpAny_newObj_type (wpAny_bind (wpAny_pure (wpAny_pure ⟨_, rfl, wpAny_pure h⟩))) hrev)
    | exact wpAny_bind (wpAny_bind (m := Builtin.Tuple.tupleExact _) (wpAny_newObj_type (wpAny_pure (wpAny_pure ⟨_, rfl, wpAny_pure h⟩)) hrev))
    | exact wpAny_bind (wpAny_bind (m := Builtin.Tuple.tupleExact _) (wpAny_newObj_type (wpAny_pure ⟨_, rfl, wpAny_pure h⟩) hrev))
end
end HT
namespace PySem.AutoSeq1
theorem extendByTuple (l b : Addr) (items items2 : Array Value) (n n2 : Nat) (dd : Option Addr) (sl : Array (Option Value)) (h0 : ¬(!items.isEmpty && Builtin.List.listTooLong (items.size + items2.size)) = true) (h1 : items.size ≤ sizeLine) (h2 : items.size + items2.size ≤ sizeLine + 1) :
    Meets (Builtin.«list.extend» ⟨[.ref l, .ref b], []⟩) (fun _ R s => s.heap.get? l = some { cls := .type "list", dict := none, data := .seq items n, slots := #[] } ∧ s.heap.get? b = some { cls := .type "tuple", dict := dd, data := .seq items2 n2, slots := sl } ∧ R (.ok (.ret Value.none)) { s with heap := s.heap.update l (Obj.mapSeq fun x => x ++ items2), toks := s.toks }) :=
  .of_wp fun prog w A R s h => by
    obtain ⟨hp, g, d, tk, os⟩ := s
    obtain ⟨hl, hb, h⟩ := h
    have f1 := idx_int
    have f2 := sub_tuple_tuple
    have f3 := sub_list_list
    have f4 := sub_tuple_list
    have f5 := sub_list_tuple
    have hz' : (items ++ items2).size ≤ sizeLine + 1 := by rw [Array.size_append]; exact h2
    wp_walk using (wpAny_updateSeq hl rfl (hz := h1) (_hz' := hz')), wpAny_loadPart' hl, wpAny_loadPart' hb
    exact ⟨_, rfl, h⟩
end PySem.AutoSeq1
end

section
set_option Elab.async false
set_option linter.all false
set_option maxRecDepth 100000
set_option maxHeartbeats 4000000
namespace DL
open PySem PySem.Spec PyProof.Rows L2
open Evl (Ex)
section
variable {X : Cx}
/-- a tuple from its end -/
def tRevT (K : PySem.W.Frag) (te : TE) : TE := fun σ H Q => te σ H fun x H1 => ∃ a xs, x = .ref a ∧ SqT K H1 a xs ∧ ∀ p, H1 p = none → Q (.ref p) (upd H1 p (.tup xs.reverse))
theorem pe_revT {e : Expr} {te : TE} {k : Nat} {p1 p2 p3 pos : Pos} (he : PE X e te) : PE X (.Subscript e (.Slice none none (some (.UnaryOp .USub (.Constant (.int 1) k p1) p2)) p3) pos) (tRevT X.K te) := by
  refine ⟨fun pins s σ H Q I h => ?_⟩
  refine Subscript_ (thn (he.run pins s σ H _ I h) fun v s1 ⟨x, H1, I1, r1, a, xs, ex, hx, q⟩ => ?_)
  subst ex
  cases r1
  have step : PO X (some (.UnaryOp .USub (.Constant (.int 1) k p1) p2)) (tPart (tUn (rU fun i => .int (-i)) (tC (.int 1)))) := po_some (pe_un un_neg pe_int)
  refine wpAny_Slice (thn (po_none.run pins s1 σ H1 (fun o Hx => o = none ∧ Hx = H1) I1 ⟨rfl, rfl⟩) fun vl s2 ⟨l, H2, I2, pl, y1, y2⟩ => ?_)
  subst y1 y2
  refine thn (po_none.run pins s2 σ H2 (fun o Hx => o = none ∧ Hx = H2) I2 ⟨rfl, rfl⟩) fun vu s3 ⟨u, H3, I3, pu, y3, y4⟩ => ?_
  subst y3 y4
  refine thn (step.run pins s3 σ H3 (fun o Hx => o = some (-1) ∧ Hx = H3) I3 ⟨1, rfl, -1, rfl, rfl, rfl⟩) fun vs s4 ⟨o, H4, I4, ps, y5, y6⟩ => ?_
  subst y5 y6
  have I5 : Inv X pins σ H4 { s4 with heap := s4.heap.push { cls := .type "slice", data := .fields #[vl, vu, vs] } } := I4.kept (t' := s4.toks) fun b ob z => Heap.get?_push_of_some _ z
  obtain ⟨its, r, ht, hz⟩ := I5.tuple hx
  have hl := r.length
  show wpAny (model X.prog X.w) X.A (subscriptTail e (.Slice none none (some (.UnaryOp .USub (.Constant (.int 1) k p1) p2)) p3) (.ref a) (.ref s4.heap.objs.size)) (EP X pins σ Q) X.xe _
  refine tail_any (ops := [.ref a, .ref s4.heap.objs.size]) ht.typeIs (PyProof.Rows.slot_tuple_getitem.lookup) ?_ (by with_unfolding_all rfl)
  refine HT.turned_tuple ht (Heap.IsSliceOf.new _ vl vu vs) pl pu ps ?_ (by rw [List.size_toArray]; omega)
  refine ⟨.ref _, _, I5.laid (t' := s4.toks) (o := .tup xs.reverse) (fun b ob z => Heap.get?_push_of_some _ z) (Nat.le_refl _) ?_, rfl, q _ (I5.hok.fresh (Nat.le_refl _))⟩
  exact ⟨by rw [List.length_reverse]; exact hz, _, r.reverse, IsTup.new _ _⟩
def rExtTup (K : PySem.W.Frag) : V → List V → Hp → VK → Prop := fun x vs H Q => ∃ l b xs zs, x = .ref l ∧ vs = [.ref b] ∧ H l = some (.lst xs) ∧ SqT K H b zs ∧ xs.length + zs.length ≤ sizeLine ∧ Q .non (upd H l (.lst (xs ++ zs)))
theorem mt_extTup : MtM X "list.extend" (rExtTup X.K) := by
  intro pins s σ H x vs v us Q I rx rv h
  obtain ⟨l, b, xs, zs, rfl, rfl, hH, hB, hz, q⟩ := h
  cases rx
  obtain ⟨u, rfl, ru⟩ := rv.one
  cases ru
  obtain ⟨z, its, n, r, hl, e⟩ := I.lstM hH
  obtain ⟨its2, r2, ⟨⟨cls, dd, data, sl⟩, e2, hc, n2, hd⟩, z2⟩ := I.tuple hB
  simp only at hc hd
  subst hc hd
  have hl2 := r2.length
  have hsz : its.toArray.size + its2.toArray.size ≤ sizeLine := by rw [List.size_toArray, List.size_toArray]; omega
  have hlong : ¬ (!its.toArray.isEmpty && Builtin.List.listTooLong (its.toArray.size + its2.toArray.size)) = true := by
    rw [notLongL hsz, Bool.and_false]
    exact Bool.false_ne_true
  refine call_meets PySem.F.slot_list_extend ⟨_, e, rfl⟩ PySem.F.entry_list_extend (PySem.F.args_list_extend_2 _ _)
    (AutoSeq1.extendByTuple l b its.toArray its2.toArray n n2 dd sl hlong (by rw [List.size_toArray]; omega) (by omega)) ⟨e, e2, ?_⟩
  refine ⟨.non, _, I.lset (its' := its ++ its2) hH e (by simp) (r.append r2) ?_, rfl, q⟩
  rw [List.length_append]
  omega
/-- d[::-1] of a list, of a tuple -/
def dRevT (m : DM) : DM := fun env Q => m env fun env' r => match r.data with
  | .tup l => Q env' (.val (.tup l.reverse))
  | _ => False
def dRevL (m : DM) : DM := fun env Q => m env fun env' r => match r.data with
  | .lst l => Q env' (.own l.reverse)
  | _ => False
theorem de_revT {e : Expr} {m : DM} {te : TE} {k : Nat} {p1 p2 p3 pos : Pos} (he : DE X e m te) : DE X (.Subscript e (.Slice none none (some (.UnaryOp .USub (.Constant (.int 1) k p1) p2)) p3) pos) (dRevT m) (tRevT X.K te) := by
  refine ⟨pe_revT he.1, fun B S H env σ Q Qv s q k => he.2 B S H env σ _ _ s q fun v H1 S1 env1 r z q1 => ?_⟩
  have zl := z.look1
  split at q1
  · rename_i l c
    rw [c] at zl
    obtain ⟨a, xs, rfl, b1, b2⟩ := zl.tup z.sr.ex
    exact ⟨a, xs, rfl, b1, fun p hp => k _ _ _ env1 (.val _) (.fin z.t (q := .val _) (nwr_tup z.sr.ex hp b2.reverse)) q1⟩
  · exact q1.elim
theorem de_revL {e : Expr} {m : DM} {te : TE} {k : Nat} {p1 p2 p3 pos : Pos} (he : DE X e m te) : DE X (.Subscript e (.Slice none none (some (.UnaryOp .USub (.Constant (.int 1) k p1) p2)) p3) pos) (dRevL m) (tRevL X.K te) := by
  refine ⟨pe_revL he.1, fun B S H env σ Q Qv s q k => he.2 B S H env σ _ _ s q fun v H1 S1 env1 r z q1 => ?_⟩
  have zl := z.look1
  split at q1
  · rename_i l c
    rw [c] at zl
    obtain ⟨a, xs, rfl, b1, b2⟩ := zl.lst z.sr.ex
    exact ⟨a, xs, rfl, b1, fun p hp => k _ _ _ env1 (.own _) (.fin z.t (q := .own _) (nwr_lst z.sr.ex hp b2.reverse)) q1⟩
  · exact q1.elim
def rExtA (K : PySem.W.Frag) : V → List V → Hp → VK → Prop := fun x vs H Q => rExtend x vs H Q ∨ rExtTup K x vs H Q
theorem mt_extA : MtM X "list.extend" (rExtA X.K) := by
  intro pins s σ H x vs v us Q I rx rv h
  rcases h with h | h
  · exact mt_extend pins s σ H x vs v us Q I rx rv h
  · exact mt_extTup pins s σ H x vs v us Q I rx rv h
/-- xs.extend(..) -/
def dExtA (i : Nat) (m : DM) : DSM := fun E env => (∃ l0, Has env i (.own l0)) ∧ m env fun env' r => match r.data, env'[i]? with
  | .lst l2, some (some (.own l)) => l.length + l2.length ≤ sizeLine ∧ E.nx (env'.set i (some (.own (l ++ l2))))
  | .tup l2, some (some (.own l)) => l.length + l2.length ≤ sizeLine ∧ E.nx (env'.set i (some (.own (l ++ l2))))
  | _, _ => False
theorem ds_extA {i : Nat} {x : Str} {xp apos cpos pos : Pos} {a : Expr} {ta : TE} {ma : DM} (hv : PE X (.Name x xp) (tVar i)) (ha : DE X a ma ta)
    (hbase : attributeBase (.Name x xp) "extend" X.env (eval (.Name x xp) X.env) = eval (.Name x xp) X.env := by rfl)
    (hfew : ((backTo cpos (starEach (a :: []) X.env)).all (fun x => !x.1) && (backToKw cpos (keywordEach [] X.env)).all (fun x => x.1.isSome)
      && decide ((a :: []).length + ([] : List Keyword).length + (if ([] : List Keyword).isEmpty then 0 else 1) < 30)) = true := by rfl)
    (hline : (apos.endLine == cpos.line) = true := by rfl) (hs : starEach (a :: []) X.env = (false, eval a X.env) :: starEach [] X.env := by rfl) (hplain : (backTo cpos (starEach [] X.env)).any (·.1) = false := by rfl)
    (hsw : swapsWith (.Call (.Attribute (.Name x xp) "extend" apos) [a] [] cpos) none pos.line X.env = pure false := by rfl) : DS X (.Expr (.Call (.Attribute (.Name x xp) "extend" apos) [a] [] cpos) pos) (dExtA i ma) (tDrop (tBM X.K "list" (rExtA X.K) (tVar i) (tCons ta tNil))) := by
  refine ⟨ps_expr (pe_bm PySem.F.plainAttrs_list PySem.F.slot_list_extend PySem.F.type_list_extend mt_extA hv (pa_cons ha.1 pa_nil hs) hbase hfew hline hs hplain) hsw, fun B S H env σ E D s q e => ?_⟩
  obtain ⟨⟨l0, c0⟩, q⟩ := q
  obtain ⟨p, vs, hp, p1, p2, p3, p4⟩ := s.own i l0 c0
  refine ⟨.ref p, hp, .inl ⟨rfl, _, SqL.of p3⟩, ?_⟩
  refine ha.2 B S H env σ _ _ s q fun v H' S' env' r z q' => ?_
  have zl := z.look1
  split at q'
  · rename_i l2 l c1 c
    rw [c1] at zl
    obtain ⟨b, zs, rfl, b1, b2⟩ := zl.lstH z.sr.ex
    obtain ⟨p', ws, y1, y2, y3, y4, y5⟩ := z.sr.own i l c
    cases Slt.ref hp y1
    refine .inl ⟨p, b, ws, zs, rfl, rfl, y4, b1, by rw [y5.length, b2.length]; exact q'.1, ?_⟩
    exact e.nx S' _ _ σ (z.sr.put c hp (y5.append b2)) q'.2
  · rename_i l2 l c1 c
    rw [c1] at zl
    obtain ⟨b, zs, rfl, b1, b2⟩ := zl.tup z.sr.ex
    obtain ⟨p', ws, y1, y2, y3, y4, y5⟩ := z.sr.own i l c
    cases Slt.ref hp y1
    refine .inr ⟨p, b, ws, zs, rfl, rfl, y4, b1, by rw [y5.length, b2.length]; exact q'.1, ?_⟩
    exact e.nx S' _ _ σ (z.sr.put c hp (y5.append b2)) q'.2
  · exact q'.elim
end
end DL
end

section
set_option Elab.async false
set_option linter.all false
set_option maxRecDepth 100000
set_option maxHeartbeats 4000000
namespace DL
open PySem PySem.Spec PyProof.Rows L2
open Evl (Ex)
section
variable {X : Cx}
/-- a list or a tuple, from its end -/
def tRevA (K : PySem.W.Frag) (te : TE) : TE := fun σ H Q => te σ H fun x H1 => ∃ a xs, x = .ref a ∧ ((SqT K H1 a xs ∧ ∀ p, H1 p = none → Q (.ref p) (upd H1 p (.tup xs.reverse))) ∨ (SqL K H1 a xs ∧ ∀ p, H1 p = none → Q (.ref p) (upd H1 p (.lst xs.reverse))))
theorem pe_revA {e : Expr} {te : TE} {k : Nat} {p1 p2 p3 pos : Pos} (he : PE X e te) : PE X (.Subscript e (.Slice none none (some (.UnaryOp .USub (.Constant (.int 1) k p1) p2)) p3) pos) (tRevA X.K te) := by
  refine ⟨fun pins s σ H Q I h => ?_⟩
  refine Subscript_ (thn (he.run pins s σ H _ I h) fun v s1 ⟨x, H1, I1, r1, a, xs, ex, hx⟩ => ?_)
  subst ex
  cases r1
  have step : PO X (some (.UnaryOp .USub (.Constant (.int 1) k p1) p2)) (tPart (tUn (rU fun i => .int (-i)) (tC (.int 1)))) := po_some (pe_un un_neg pe_int)
  refine wpAny_Slice (thn (po_none.run pins s1 σ H1 (fun o Hx => o = none ∧ Hx = H1) I1 ⟨rfl, rfl⟩) fun vl s2 ⟨l, H2, I2, pl, y1, y2⟩ => ?_)
  subst y1 y2
  refine thn (po_none.run pins s2 σ H2 (fun o Hx => o = none ∧ Hx = H2) I2 ⟨rfl, rfl⟩) fun vu s3 ⟨u, H3, I3, pu, y3, y4⟩ => ?_
  subst y3 y4
  refine thn (step.run pins s3 σ H3 (fun o Hx => o = some (-1) ∧ Hx = H3) I3 ⟨1, rfl, -1, rfl, rfl, rfl⟩) fun vs s4 ⟨o, H4, I4, ps, y5, y6⟩ => ?_
  subst y5 y6
  have I5 : Inv X pins σ H4 { s4 with heap := s4.heap.push { cls := .type "slice", data := .fields #[vl, vu, vs] } } := I4.kept (t' := s4.toks) fun b ob z => Heap.get?_push_of_some _ z
  show wpAny (model X.prog X.w) X.A (subscriptTail e (.Slice none none (some (.UnaryOp .USub (.Constant (.int 1) k p1) p2)) p3) (.ref a) (.ref s4.heap.objs.size)) (EP X pins σ Q) X.xe _
  rcases hx with ⟨hx, q⟩ | ⟨hx, q⟩
  · obtain ⟨its, r, ht, hz⟩ := I5.tuple hx
    have hl := r.length
    refine tail_any (ops := [.ref a, .ref s4.heap.objs.size]) ht.typeIs (PyProof.Rows.slot_tuple_getitem.lookup) ?_ (by with_unfolding_all rfl)
    refine HT.turned_tuple ht (Heap.IsSliceOf.new _ vl vu vs) pl pu ps ?_ (by rw [List.size_toArray]; omega)
    refine ⟨.ref _, _, I5.laid (t' := s4.toks) (o := .tup xs.reverse) (fun b ob z => Heap.get?_push_of_some _ z) (Nat.le_refl _) ?_, rfl, q _ (I5.hok.fresh (Nat.le_refl _))⟩
    exact ⟨by rw [List.length_reverse]; exact hz, _, r.reverse, IsTup.new _ _⟩
  · obtain ⟨its, r, ht, hz⟩ := I5.list hx
    have hl := r.length
    refine tail_any (ops := [.ref a, .ref s4.heap.objs.size]) ht.isList.typeIs (PySem.slot_list_getitem.lookup) ?_ (by with_unfolding_all rfl)
    refine wpAny_getItem_list_slice ht.isList (Heap.IsSliceOf.new _ vl vu vs) pl pu ps (by decide) ?_ (by rw [List.size_toArray]; omega)
    rw [PySem.W.krv_pick]
    refine ⟨.ref _, _, I5.laid (t' := s4.toks) (o := .lst xs.reverse) (fun b ob z => Heap.get?_push_of_some _ z) (Nat.le_refl _) ?_, rfl, q _ (I5.hok.fresh (Nat.le_refl _))⟩
    exact ⟨by rw [List.length_reverse]; exact hz, _, 0, r.reverse, Heap.get?_push_size _ rfl⟩
def dRevA (m : DM) : DM := fun env Q => m env fun env' r => match r.data with
  | .tup l => Q env' (.val (.tup l.reverse))
  | .lst l => Q env' (.own l.reverse)
  | _ => False
theorem de_revA {e : Expr} {m : DM} {te : TE} {k : Nat} {p1 p2 p3 pos : Pos} (he : DE X e m te) : DE X (.Subscript e (.Slice none none (some (.UnaryOp .USub (.Constant (.int 1) k p1) p2)) p3) pos) (dRevA m) (tRevA X.K te) := by
  refine ⟨pe_revA he.1, fun B S H env σ Q Qv s q k => he.2 B S H env σ _ _ s q fun v H1 S1 env1 r z q1 => ?_⟩
  have zl := z.look1
  split at q1
  · rename_i l c
    rw [c] at zl
    obtain ⟨a, xs, rfl, b1, b2⟩ := zl.tup z.sr.ex
    exact ⟨a, xs, rfl, .inl ⟨b1, fun p hp => k _ _ _ env1 (.val _) (.fin z.t (q := .val _) (nwr_tup z.sr.ex hp b2.reverse)) q1⟩⟩
  · rename_i l c
    rw [c] at zl
    obtain ⟨a, xs, rfl, b1, b2⟩ := zl.lst z.sr.ex
    exact ⟨a, xs, rfl, .inr ⟨b1, fun p hp => k _ _ _ env1 (.own _) (.fin z.t (q := .own _) (nwr_lst z.sr.ex hp b2.reverse)) q1⟩⟩
  · exact q1.elim
end
end DL
end

section
set_option Elab.async false
set_option linter.all false
set_option maxRecDepth 100000
set_option maxHeartbeats 4000000
namespace DL
open PySem PySem.Spec PyProof.Rows L2
/-! ### trees -/
inductive Tr where
  | nd (a : Option Int) (cs : List Tr)
def optD : Option Int → D
  | none => .non
  | some i => .int i
def ndD (n : Option Int × Nat) : D := .tup [optD n.1, .int n.2]
mutual
def Tr.d : Tr → D
  | .nd a cs => .tup [optD a, .tup (Tr.ds cs)]
def Tr.ds : List Tr → List D
  | [] => []
  | t :: r => t.d :: Tr.ds r
end
mutual
def Tr.pre : Tr → List (Option Int × Nat)
  | .nd a cs => (a, cs.length) :: Tr.pres cs
def Tr.pres : List Tr → List (Option Int × Nat)
  | [] => []
  | t :: r => t.pre ++ Tr.pres r
end
mutual
def Tr.size : Tr → Nat
  | .nd _ cs => Tr.sizes cs + 1
def Tr.sizes : List Tr → Nat
  | [] => 0
  | t :: r => t.size + Tr.sizes r
end
mutual
theorem Tr.pre_length : ∀ t : Tr, t.pre.length = t.size
  | .nd a cs => by rw [Tr.pre, Tr.size, List.length_cons, Tr.pres_length cs]
theorem Tr.pres_length : ∀ ts : List Tr, (Tr.pres ts).length = Tr.sizes ts
  | [] => by rw [Tr.pres, Tr.sizes]; rfl
  | t :: r => by rw [Tr.pres, Tr.sizes, List.length_append, Tr.pre_length t, Tr.pres_length r]
end
theorem Tr.ds_length : ∀ ts : List Tr, (Tr.ds ts).length = ts.length
  | [] => by rw [Tr.ds]; rfl
  | t :: r => by rw [Tr.ds, List.length_cons, List.length_cons, Tr.ds_length r]
theorem Tr.ds_append : ∀ ts us : List Tr, Tr.ds (ts ++ us) = Tr.ds ts ++ Tr.ds us
  | [], us => by rw [Tr.ds]; rfl
  | t :: r, us => by rw [Tr.ds, List.cons_append, Tr.ds, Tr.ds_append r us]; rfl
theorem Tr.pres_append : ∀ ts us : List Tr, Tr.pres (ts ++ us) = Tr.pres ts ++ Tr.pres us
  | [], us => by rw [Tr.pres]; rfl
  | t :: r, us => by rw [Tr.pres, List.cons_append, Tr.pres, Tr.pres_append r us, List.append_assoc]
theorem Tr.sizes_append : ∀ ts us : List Tr, Tr.sizes (ts ++ us) = Tr.sizes ts + Tr.sizes us
  | [], us => by rw [Tr.sizes, List.nil_append, Nat.zero_add]
  | t :: r, us => by rw [Tr.sizes, List.cons_append, Tr.sizes, Tr.sizes_append r us, Nat.add_assoc]
theorem Tr.len_sizes : ∀ ts : List Tr, ts.length ≤ Tr.sizes ts
  | [] => Nat.zero_le _
  | .nd a cs :: r => by
    have := Tr.len_sizes r
    rw [Tr.sizes, Tr.size, List.length_cons]
    omega
/-- the last of a list -/
theorem last_add {α : Type} (l : List α) (x : α) : (l ++ [x])[(l ++ [x]).length - 1]? = some x := by simp
/-! ### the nodes of a tree -/
def F_nodes : FM := fun rs Qd => ∃ t : Tr, rs = [.val t.d] ∧ t.size ≤ 100000 ∧ Qd (.own (t.pre.map ndD))
/-! ### the tree of nodes -/
def F_tree : FM := fun rs Qd => ∃ t : Tr, rs = [.val (.lst (t.pre.map ndD))] ∧ t.size ≤ 100000 ∧ Qd (.val t.d)
end DL
end

section
set_option Elab.async false
set_option linter.all false
set_option maxRecDepth 100000
set_option maxHeartbeats 4000000
/-! sets whose elements are tuples, nested, of whole numbers and None -/
namespace NS
open PySem PySem.Spec PyProof.Rows L2

mutual
/-- no text in it -/
def bare : NestedKey → Bool
  | .none => true
  | .num _ => true
  | .text _ => false
  | .tup ks => bares ks
def bares : List NestedKey → Bool
  | [] => true
  | k :: ks => bare k && bares ks
end
/-- an element: the tuple at a is the key k -/
structure El (h : Heap) (k : NestedKey) (a : Addr) : Prop where
  is : NestedIs h k (.ref a)
  low : k.depth ≤ 8
  bar : bare k = true

section
variable {P : Program} {w : World} {A : Around} {E : Value → Shared → Prop} {s : Shared}

/-! three questions that a set asks of an element, before it looks at it -/
def Says (P : Program) (w : World) (s : Shared) (m : Sem Bool) (b : Bool) : Prop := ∀ (A : Around) (E : Value → Shared → Prop) (Q : Bool → Shared → Prop), Q b s → wpAny (model P w) A m Q E s
theorem Says.of {m : Sem Bool} {b : Bool} (e : m = pure b) : Says P w s m b := fun A E Q h => by
  rw [e]
  exact wpAny_pure h
theorem El.obj {h : Heap} {k : NestedKey} {a : Addr} (x : El h k a) : ∃ ks, k = .tup ks ∧ ∃ (o : Obj) (vs : Array Value) (n : Nat), h.get? a = some o ∧ o.cls = .type "tuple" ∧ o.data = .seq vs n ∧ NestedAll h ks vs.toList := by
  obtain ⟨x, _, _⟩ := x
  cases x with
  | tup h1 h2 h3 h4 => exact ⟨_, rfl, _, _, _, h1, h2, h3, h4⟩
/-- the loop over a tuple's items that stops at the first odd one -/
theorem all_calm {f : Value → Sem Bool} {g : Sem Bool → Sem Bool} {r : Bool} {vs : List Value} (hv : ∀ v ∈ vs, Says P w s (f v) r)
    {body : Value → Option Bool × PUnit → Sem (ForInStep (Option Bool × PUnit))} (hb : ∀ v st t (R : ForInStep (Option Bool × PUnit) → Shared → Prop), t = s → v ∈ vs → st.1 = none → R (.yield (none, PUnit.unit)) t → wpAny (model P w) A (body v st) R E t)
    {Q : Option Bool × PUnit → Shared → Prop} (h : Q (none, PUnit.unit) s) : wpAny (model P w) A (forIn vs ((none : Option Bool), PUnit.unit) body) Q E s := by
  refine wpAny_forIn_list _ (fun l st t => t = s ∧ st.1 = none ∧ ∀ v ∈ l, v ∈ vs) _ (fun v l st t ⟨e1, e2, e3⟩ => ?_) (fun st t ⟨e1, e2, _⟩ => ?_) _ _ ⟨rfl, rfl, fun _ x => x⟩
  · exact hb v st t _ e1 (e3 v List.mem_cons_self) e2 ⟨e1, rfl, fun u hu => e3 u (List.mem_cons_of_mem _ hu)⟩
  · obtain ⟨a, b⟩ := st
    cases e2
    cases e1
    exact h
mutual
/-- it is of no class of the program's own -/
theorem noClass : ∀ (k : NestedKey) (v : Value) (n : Nat), NestedIs s.heap k v → k.depth ≤ n → Says P w s (ofAClassStatement n v) false
  | .none, _, n, x, _ => by
    cases x
    exact .of (by cases n <;> rfl)
  | .num _, _, n, x, _ => by cases x <;> exact .of (by cases n <;> rfl)
  | .text _, _, n, x, _ => by
    cases x
    exact .of (by cases n <;> rfl)
  | .tup ks, _, n, x, hn => by
    cases x with
    | @tup a o vs m _ ho hc hd hk =>
      simp only [NestedKey.depth] at hn
      cases n with
      | zero => omega
      | succ n =>
        have each := noClasses ks vs.toList n hk (by omega)
        intro A E Q h
        unfold ofAClassStatement
        refine wpAny_bind (wpAny_typeOf ⟨o, ho, hc⟩ ?_)
        dsimp only
        rw [if_pos (show (("tuple" : String) == "tuple") = true by decide)]
        try refine wpAny_bind (wpAny_pure ?_)
        try rw [if_neg (show ¬ (!true) = true by decide)]
        show wpAny _ _ (seqItems? (.ref a) >>= _) _ _ s
        refine wpAny_bind (wpAny_seqItems ho hd ?_)
        dsimp only
        refine wpAny_bind ?_
        rw [← Array.forIn_toList]
        refine all_calm (g := id) each (fun v st t R e hv e1 hR => ?_) (wpAny_pure h)
        subst e
        refine wpAny_bind (each v hv _ _ _ ?_)
        rw [if_neg (by decide)]
        exact wpAny_pure hR
theorem noClasses : ∀ (ks : List NestedKey) (vs : List Value) (n : Nat), NestedAll s.heap ks vs → NestedKey.depthAll ks ≤ n → ∀ v ∈ vs, Says P w s (ofAClassStatement n v) false
  | [], _, _, x, _, v, hv => by
    cases x
    cases hv
  | k :: ks, _, n, x, hn, v, hv => by
    cases x with
    | cons x1 x2 =>
      simp only [NestedKey.depthAll] at hn
      cases hv with
      | head => exact noClass k _ n x1 (by omega)
      | tail _ hv => exact noClasses ks _ n x2 (by omega) v hv
end
mutual
/-- its hash follows from what it is -/
theorem hashKnown : ∀ (k : NestedKey) (v : Value) (n : Nat), NestedIs s.heap k v → k.depth ≤ n → bare k = true → Says P w s (hashByValue n v) true
  | .none, _, n, x, _, _ => by
    cases x
    exact .of (by cases n <;> rfl)
  | .num _, _, n, x, _, _ => by cases x <;> exact .of (by cases n <;> rfl)
  | .text _, _, _, _, _, b => by cases b
  | .tup ks, _, n, x, hn, b => by
    cases x with
    | @tup a o vs m _ ho hc hd hk =>
      simp only [NestedKey.depth] at hn
      cases n with
      | zero => omega
      | succ n =>
        have each := hashesKnown ks vs.toList n hk (by omega) b
        intro A E Q h
        unfold hashByValue
        refine wpAny_bind (wpAny_specialOf (show s.TypeIs (.ref a) "tuple" from ⟨o, ho, hc⟩) F.slot_tuple_hash.lookup ?_)
        show wpAny _ _ (seqItems? (.ref a) >>= _) _ _ s
        refine wpAny_bind (wpAny_seqItems ho hd ?_)
        refine wpAny_bind ?_
        show wpAny _ _ (forIn vs _ _) _ _ s
        rw [← Array.forIn_toList]
        refine all_calm (g := id) each (fun v st t R e hv e1 hR => ?_) (wpAny_pure h)
        subst e
        refine wpAny_bind (each v hv _ _ _ ?_)
        rw [if_neg (by decide)]
        exact wpAny_pure hR
theorem hashesKnown : ∀ (ks : List NestedKey) (vs : List Value) (n : Nat), NestedAll s.heap ks vs → NestedKey.depthAll ks ≤ n → bares ks = true → ∀ v ∈ vs, Says P w s (hashByValue n v) true
  | [], _, _, x, _, _, v, hv => by
    cases x
    cases hv
  | k :: ks, _, n, x, hn, b, v, hv => by
    cases x with
    | cons x1 x2 =>
      simp only [NestedKey.depthAll] at hn
      simp only [bares, Bool.and_eq_true] at b
      cases hv with
      | head => exact hashKnown k _ n x1 (by omega) b.1
      | tail _ hv => exact hashesKnown ks _ n x2 (by omega) b.2 v hv
end
/-- so a search for it shows nothing -/
theorem unseen {k : NestedKey} {x : Addr} (hx : El s.heap k x) {ys : List Value} (hy : ∀ y ∈ ys, ∃ j c, y = Value.ref c ∧ El s.heap j c) : Says P w s (searchCouldBeSeen (.ref x) ys) false := fun A E Q h => by
  unfold searchCouldBeSeen
  refine wpAny_bind (all_calm (f := fun _ => pure true) (g := id) (r := true) (fun _ _ => .of rfl) (fun v st t R e hv e1 hR => ?_) (wpAny_pure h))
  subst e
  obtain ⟨j, c, rfl, hc⟩ := hy v hv
  dsimp only
  by_cases same : (x == c || (carriedByValue (.ref x) && carriedByValue (.ref c))) = true
  · exact wp_if_pos same (wpAny_pure hR)
  · refine wp_if_neg same (wpAny_bind (quiet_key k _ 8 t hx.is hx.low _ _ _ ?_))
    rw [if_neg (by decide)]
    refine wpAny_bind (quiet_key j _ 8 t hc.is hc.low _ _ _ ?_)
    rw [if_neg (by decide)]
    refine wpAny_bind (noClass k _ 8 hx.is hx.low _ _ _ ?_)
    rw [if_neg (by decide)]
    refine wpAny_bind (noClass j _ 8 hc.is hc.low _ _ _ ?_)
    rw [if_neg (by decide)]
    exact wpAny_pure hR
end
end NS
end

section
set_option Elab.async false
set_option linter.all false
set_option maxRecDepth 100000
set_option maxHeartbeats 4000000
namespace NS
open PySem PySem.Spec PyProof.Rows L2
abbrev NL := List (Addr × NestedKey)
def keysOf (L : NL) : List NestedKey := L.map (·.2)
def rws (w : World) (L : NL) : List (Int × Value) := L.map fun p => (p.2.hash w, Value.ref p.1)
def hss (w : World) (L : NL) : List Int := L.map fun p => p.2.hash w
/-- the set at a has the elements of L, in its table's order -/
structure Stand (w : World) (h : Heap) (a : Addr) (L : NL) (es : Array (Int × Value)) (ep : Nat) (t : SetTable) : Prop where
  obj : ∃ o, h.get? a = some o ∧ o.ExactSet ∧ o.data = .set es ep t
  row : es.toList = rws w L
  lay : TabOk t (hss w L)
  one : (keysOf L).Nodup
  els : ∀ p ∈ L, El h p.2 p.1
  pln : t.plain = true
  led : w.params.followText "set-order" = true ∨ t.led = true
  air : L.length * 5 < t.mask * 3
  few : L.length < 64
abbrev prb (t : SetTable) (x : Int) (c : Nat) : SetTable.Probe := nth t.mask (runAt t.mask (SetTable.bits x % (t.mask + 1)) (SetTable.bits x)) c
theorem prb_more (t : SetTable) (x : Int) (c q : Nat) : nth t.mask (prb t x c) q = prb t x (c + q) := (nth_add t.mask c _ q).symm
theorem no_dummy {m : Nat} : ∀ (n : Nat) {p : SetTable.Probe}, p.dummy = none → (nth m p n).dummy = none
  | 0, _, h => h
  | n + 1, p, h => no_dummy n (p := adv m p) (by unfold adv; split <;> exact h)
section
variable {P : Program} {w : World} {A : Around} {E : Value → Shared → Prop} {s : Shared} {a : Addr} {L : NL} {es : Array (Int × Value)} {ep : Nat} {t : SetTable}
theorem rws_len : (rws w L).length = L.length := List.length_map ..
theorem hss_len : (hss w L).length = L.length := List.length_map ..
theorem row_size {es : Array (Int × Value)} (e : es.toList = rws w L) : es.size = L.length := by rw [← Array.length_toList, e, rws_len]
theorem row_at {es : Array (Int × Value)} (e : es.toList = rws w L) {i : Nat} {p : Addr × NestedKey} (h : L[i]? = some p) : es[i]? = some (p.2.hash w, Value.ref p.1) := by
  rw [← Array.getElem?_toList, e, rws, List.getElem?_map, h]
  rfl
theorem Stand.places (R : Stand w s.heap a L es ep t) : t.place.toList.length = L.length := by rw [Array.length_toList, R.lay.sz, hss_len]
theorem Stand.fits (R : Stand w s.heap a L es ep t) : t.fits es.size = true := by
  have p := R.places
  have q := R.air
  rw [Array.length_toList] at p
  unfold SetTable.fits SetTable.fill
  rw [R.lay.dm, row_size R.row, Bool.and_eq_true, beq_iff_eq, decide_eq_true_eq]
  exact ⟨p, by show t.place.size + 0 ≤ t.mask; omega⟩
theorem Stand.whole (R : Stand w s.heap a L es ep t) : ¬ t.gaveWay = true := by
  simp [SetTable.gaveWay, mask_odd R.lay.mok]
/-- the next probe that tells something, from the c-th on -/
theorem Stand.probe (R : Stand w s.heap a L es ep t) {k : NestedKey} {m c : Nat} (hm : m < 10 * SetTable.turns t.mask) (hc : c ≤ m) (hend : way t.mask (k.hash w) m ∉ t.place.toList) (hbef : ∀ c, c < m → way t.mask (k.hash w) c ∈ t.place.toList) :
    (∃ (q i : Nat) (p : Addr × NestedKey), c + q < m ∧ L[i]? = some p ∧ t.place.toList[i]? = some (way t.mask (k.hash w) (c + q)) ∧ (∀ d, c ≤ d → d < c + q → ∀ (j : Nat) (p' : Addr × NestedKey), L[j]? = some p' → t.place.toList[j]? = some (way t.mask (k.hash w) d) → p'.2 ≠ k) ∧
      t.probe (fun i => (es[i]?.map (·.1)).getD 0) (k.hash w) (prb t (k.hash w) c) = some (.candidate (way t.mask (k.hash w) (c + q)) i (prb t (k.hash w) (c + q + 1)))) ∨
    ((∀ d, c ≤ d → d < m → ∀ (j : Nat) (p' : Addr × NestedKey), L[j]? = some p' → t.place.toList[j]? = some (way t.mask (k.hash w) d) → p'.2 ≠ k) ∧ t.probe (fun i => (es[i]?.map (·.1)).getD 0) (k.hash w) (prb t (k.hash w) c) = some (.empty (way t.mask (k.hash w) m) none)) := by
  have j_at : ∀ q, (nth t.mask (prb t (k.hash w) c) q).j = way t.mask (k.hash w) (c + q) := fun q => congrArg SetTable.Probe.j (prb_more t _ c q)
  have told : ∀ (j : Nat) (p' : Addr × NestedKey), L[j]? = some p' → p'.2 = k → (es[j]?.map (·.1)).getD 0 = k.hash w := fun j p' h e => by
    rw [row_at R.row h, ← e]
    rfl
  have back : c + (m - c) = m := by omega
  have g := go_spec t R.lay.ris R.lay.dm (fun i => (es[i]?.map (·.1)).getD 0) (k.hash w) (10 * SetTable.turns t.mask) (m - c) (prb t (k.hash w) c) (no_dummy c rfl) (by omega)
    (fun q hq => by rw [j_at]; exact hbef _ (by omega)) (by rw [j_at, back]; exact hend)
  rcases g with ⟨q, i, h1, h2, h3, h4, h5⟩ | ⟨h4, h5⟩
  · rw [j_at] at h2
    have hi : i < L.length := by
      rw [← R.places]
      exact (List.getElem?_eq_some_iff.mp h2).1
    refine .inl ⟨q, i, L[i], by omega, List.getElem?_eq_getElem hi, h2, fun d d1 d2 j p' hj hp e => h4 (d - c) j (by omega) ?_ (told j p' hj e), ?_⟩
    · rw [j_at, show c + (d - c) = d by omega]
      exact hp
    · rw [← j_at, show c + q + 1 = c + (q + 1) by omega, ← prb_more]
      exact h5
  · refine .inr ⟨fun d d1 d2 j p' hj hp e => h4 (d - c) j (by omega) ?_ (told j p' hj e), ?_⟩
    · rw [j_at, show c + (d - c) = d by omega]
      exact hp
    · have h5 : t.probe (fun i => (es[i]?.map (·.1)).getD 0) (k.hash w) (prb t (k.hash w) c) = some (.empty (nth t.mask (prb t (k.hash w) c) (m - c)).j none) := h5
      rw [h5, j_at, back]
theorem seek (R : Stand w s.heap a L es ep t) {x : Addr} {k : NestedKey} (hx : El s.heap k x) (hu : A.units + 8 < cLine) {m : Nat} (hm : m < 10 * SetTable.turns t.mask) (hend : way t.mask (k.hash w) m ∉ t.place.toList)
    (hbef : ∀ c, c < m → way t.mask (k.hash w) c ∈ t.place.toList) {Q : SetFound → Shared → Prop} (yes : k ∈ keysOf L → Q (.there none) s) (no : k ∉ keysOf L → Q (.free (way t.mask (k.hash w) m) false) s) (left : Nat) :
    ∀ (c fuel : Nat) (stand : Option SetTable.Probe), m - c = left → c ≤ m → left < fuel → stand.getD (t.probeStart (k.hash w)) = prb t (k.hash w) c →
      (∀ (i : Nat) (p : Addr × NestedKey), L[i]? = some p → p.2 = k → ∃ d, c ≤ d ∧ d < m ∧ t.place.toList[i]? = some (way t.mask (k.hash w) d)) → wpAny (model P w) A (setSearchFrom a (.ref x) (k.hash w) true fuel stand) Q E s := by
  obtain ⟨o, ho, hex, hd⟩ := R.obj
  induction left using Nat.strongRecOn with
  | _ left ih =>
    intro c fuel stand e hc hf hst due
    obtain ⟨fuel, rfl⟩ : ∃ f, fuel = f + 1 := ⟨fuel - 1, by omega⟩
    rw [setSearchFrom_succ]
    refine wpAny_bind (wpAny_setState_of ho hd R.fits ?_)
    dsimp only
    refine wp_if_neg R.whole ?_
    try refine wpAny_bind (wpAny_pure ?_)
    rw [hst]
    rcases R.probe hm hc hend hbef with ⟨q, i, p, h1, h2, h3, h4, h5⟩ | ⟨h4, h5⟩
    · rw [h5]
      dsimp only
      have hp : El s.heap p.2 p.1 := R.els p (List.mem_of_getElem? h2)
      have look : wpAny (model P w) A (searchRest a (.ref x) (k.hash w) true fuel es t (way t.mask (k.hash w) (c + q)) i (prb t (k.hash w) (c + q + 1))) Q E s := by
        unfold searchRest
        rw [row_at R.row h2]
        dsimp only
        refine wpAny_bind (wpAny_holding ((nestedKind P w).eqBool (x := p.2) (y := k) hu ⟨hp.is, hp.low⟩ ⟨hx.is, hx.low⟩ ?_))
        refine wpAny_bind (wpAny_setState_of ho hd R.fits ?_)
        dsimp only
        by_cases hit : p.2 = k
        · rw [decide_eq_true hit]
          exact wp_if_pos rfl (wpAny_pure (yes (List.mem_map.mpr ⟨p, List.mem_of_getElem? h2, hit⟩)))
        · rw [decide_eq_false hit]
          refine wp_if_neg (by decide) ?_
          try refine wpAny_bind (wpAny_pure ?_)
          have live := slot_live R.lay.ris h3
          simp only [sameMem, live, if_true, row_at R.row h2]
          refine wpAny_bind (wpAny_isSame_ref_self (wpAny_bind (wpAny_pure ?_)))
          rw [if_pos rfl]
          dsimp only
          refine wp_if_neg (by decide) ?_
          refine ih (m - (c + q + 1)) (by omega) (c + q + 1) fuel _ rfl (by omega) (by omega) rfl fun j p' hj hk => ?_
          obtain ⟨d, d1, d2, d3⟩ := due j p' hj hk
          refine ⟨d, ?_, d2, d3⟩
          rcases Nat.lt_trichotomy d (c + q) with z | z | z
          · exact absurd hk (h4 d d1 z j p' hj d3)
          · exfalso
            rw [z] at d3
            have live' := slot_live R.lay.ris d3
            rw [live] at live'
            injection live' with ji
            rw [← ji, h2] at hj
            cases hj
            exact hit hk
          · exact z
      by_cases hl : t.led = true
      · refine wp_if_neg (by rw [hl]; decide) ?_
        try refine wpAny_bind (wpAny_pure ?_)
        exact look
      · refine wp_if_pos (by simpa using hl) (wpAny_bind (unseen hx (fun y hy => ?_) _ _ _ ?_))
        · obtain ⟨r, hr, rfl⟩ := List.mem_map.mp hy
          rw [Array.toList_filter] at hr
          have hr := (List.mem_filter.mp hr).1
          rw [R.row] at hr
          obtain ⟨p', hp', rfl⟩ := List.mem_map.mp hr
          exact ⟨p'.2, p'.1, rfl, R.els p' hp'⟩
        · refine wp_if_neg (by decide) ?_
          try refine wpAny_bind (wpAny_pure ?_)
          exact look
    · rw [h5]
      dsimp only
      refine wpAny_pure (no fun z => ?_)
      obtain ⟨p', hp', hk⟩ := List.mem_map.mp z
      obtain ⟨j, hj, e'⟩ := List.getElem_of_mem hp'
      have hj' : L[j]? = some p' := by rw [List.getElem?_eq_getElem hj, e']
      obtain ⟨d, d1, d2, d3⟩ := due j p' hj' hk
      exact h4 d d1 d2 j p' hj' d3 hk
/-- as adding asks for it: it is there, or a free place is found -/
theorem lookup (R : Stand w s.heap a L es ep t) {x : Addr} {k : NestedKey} (hx : El s.heap k x) (hu : A.units + 8 < cLine) {Q : SetFound → Shared → Prop} (yes : k ∈ keysOf L → Q (.there none) s)
    (no : ∀ m, k ∉ keysOf L → way t.mask (k.hash w) m ∉ t.place.toList → (∀ c, c < m → way t.mask (k.hash w) c ∈ t.place.toList) → Q (.free (way t.mask (k.hash w) m) false) s) :
    wpAny (model P w) A (setSearch a (.ref x) (k.hash w) true) Q E s := by
  have air := R.air
  obtain ⟨m, hm, hend, hbef⟩ := R.lay.first (by rw [hss_len]; omega) (k.hash w)
  have small : m < 100000 := by
    refine Nat.lt_trans hm ?_
    unfold SetTable.turns
    rcases R.lay.mok with z | z | z <;> omega
  unfold setSearch
  refine seek R hx hu hm hend hbef yes (fun n => no m n hend hbef) (m - 0) 0 100000 none rfl (Nat.zero_le _) (by omega) rfl fun i p hi hk => ?_
  have hin : i < t.place.toList.length := by
    rw [R.places]
    exact (List.getElem?_eq_some_iff.mp hi).1
  have at' := List.getElem?_eq_getElem hin
  obtain ⟨d, d1, d2⟩ := R.lay.before hend (i := i) (j := t.place.toList[i]) (by rw [hss, List.getElem?_map, hi, ← hk]; rfl) at'
  exact ⟨d, Nat.zero_le _, d1, by rw [at', d2]⟩
end
end NS
end

section
set_option Elab.async false
set_option linter.all false
set_option maxRecDepth 100000
set_option maxHeartbeats 4000000
namespace NS
open PySem PySem.Spec PyProof.Rows L2
theorem pick_all {α : Type} : ∀ l : List α, (List.range l.length).filterMap (fun i => l[i]?) = l
  | [] => rfl
  | x :: l => by
    rw [List.length_cons, List.range_succ_eq_map, List.filterMap_cons_some (f := fun i => (x :: l)[i]?) (b := x) rfl, List.filterMap_map]
    exact congrArg (x :: ·) (pick_all l)
theorem pick_map {α β : Type} (f : α → β) (l : List α) (is : List Nat) : is.filterMap (fun i => (l.map f)[i]?) = (is.filterMap fun i => l[i]?).map f := by
  rw [List.map_filterMap]
  exact congrArg (fun g => List.filterMap g is) (funext fun i => List.getElem?_map)
theorem pick_in {α : Type} (d : α) (l : List α) : ∀ is : List Nat, (∀ i ∈ is, i < l.length) → is.filterMap (fun i => l[i]?) = is.map fun i => l.getD i d
  | [], _ => rfl
  | i :: is, h => by
    have hi := h i List.mem_cons_self
    rw [List.filterMap_cons_some (List.getElem?_eq_getElem hi), pick_in d l is fun j hj => h j (List.mem_cons_of_mem _ hj), List.map_cons, List.getD_eq_getElem?_getD, List.getElem?_eq_getElem hi]
    rfl
section
variable {P : Program} {w : World} {A : Around} {E : Value → Shared → Prop} {s : Shared} {a : Addr} {L : NL} {es : Array (Int × Value)} {ep : Nat} {t : SetTable}
/-- the rows in another order -/
theorem reorder {order : Array Nat} (e : es.toList = rws w L) (p : order.toList.Perm (List.range L.length)) :
    ∃ L' : NL, (order.filterMap (es[·]?)).toList = rws w L' ∧ L'.Perm L ∧ hss w L' = order.toList.map fun i => (es.map (·.1)).getD i 0 := by
  have low : ∀ i ∈ order.toList, i < L.length := fun i hi => List.mem_range.mp (p.mem_iff.mp hi)
  have e1 : (fun i : Nat => es[i]?) = fun i : Nat => (L.map fun q => (q.2.hash w, Value.ref q.1))[i]? := funext fun i => by rw [← Array.getElem?_toList, e]; rfl
  refine ⟨order.toList.filterMap fun i => L[i]?, ?_, ?_, ?_⟩
  · rw [Array.toList_filterMap, e1, pick_map]
    rfl
  · have q := p.filterMap (fun i => L[i]?)
    rwa [pick_all] at q
  · show (order.toList.filterMap fun i => L[i]?).map (fun q => q.2.hash w) = _
    rw [← pick_map, pick_in 0 _ _ (fun i hi => by rw [List.length_map]; exact low i hi)]
    refine congrArg (fun g => order.toList.map g) (funext fun i => ?_)
    have e2 : (es.map (·.1)).toList = L.map fun q => q.2.hash w := by
      rw [Array.toList_map, e, rws, List.map_map]
      rfl
    rw [← e2, Array.getD_eq_getD_getElem?, List.getD_eq_getElem?_getD, Array.getElem?_toList]
theorem El.other {h g : Heap} {k : NestedKey} {b : Addr} {o : Obj} (x : El h k b) (ho : h.get? a = some o) (hd : o.data = .set es ep t) (hs : Heap.SameBut a h g) : El g k b :=
  ⟨NestedIs.at (fun c u vs n hc hu => (hs.2 c fun z => by
    rw [z, ho] at hc
    cases hc
    rw [hd] at hu
    cases hu).trans hc) k _ x.is, x.low, x.bar⟩
theorem El.keep {h g : Heap} {k : NestedKey} {b : Addr} (x : El h k b) (hk : ∀ c o, h.get? c = some o → g.get? c = some o) : El g k b := ⟨NestedIs.at (fun c u _ _ hc _ => hk c u hc) k _ x.is, x.low, x.bar⟩
/-- the table is laid anew -/
theorem relay {o : Obj} (ho : s.heap.get? a = some o) (hex : o.ExactSet) (hd : o.data = .set es ep t) (row : es.toList = rws w L) (lay : TabOk t (hss w L)) (full : L.length ≤ t.mask) (one : (keysOf L).Nodup) (els : ∀ p ∈ L, El s.heap p.2 p.1) (pln : t.plain = true)
    (led : w.params.followText "set-order" = true ∨ t.led = true) (few : L.length < 64) {n m : Nat} (en : SetTable.sizeAbove n = m + 1) (hm : MaskOk m) (air : L.length * 5 < m * 3) {Q : Unit → Shared → Prop}
    (h : ∀ g L' es' ep' t', Heap.SameBut a s.heap g → Stand w g a L' es' ep' t' → L'.Perm L → Q () { s with heap := g }) : wpAny (model P w) A (setRelay a n) Q E s := by
  have sz := row_size row
  have le127 : m ≤ 127 := by rcases hm with z | z | z <;> omega
  have hfit : t.fits es.size = true := by
    have q := lay.sz
    rw [hss_len] at q
    unfold SetTable.fits SetTable.fill
    rw [lay.dm, sz, Bool.and_eq_true, beq_iff_eq, decide_eq_true_eq]
    exact ⟨q, by show t.place.size + 0 ≤ t.mask; omega⟩
  obtain ⟨t', order, q1, q2, q3, q4, q5, q6, _⟩ := relaid_ok t (hs := es.map (·.1)) (wanted := n) (M := m) (by omega) hm (by rw [Array.size_map]; omega)
  rw [Array.size_map, sz] at q2
  obtain ⟨L', r1, r2, r3⟩ := reorder row q2
  have sz' : (order.filterMap (es[·]?)).size = es.size := by rw [row_size r1, sz, r2.length_eq]
  rw [setRelay_eq]
  refine wpAny_bind (wpAny_setState_of ho hd hfit ?_)
  dsimp only
  refine wp_if_neg (by rw [sizeLine_eq, en]; omega) ?_
  try refine wpAny_bind (wpAny_pure ?_)
  rw [q1]
  dsimp only
  refine wpAny_bind (wp_if_neg (by rw [sz']; simp) ?_)
  try refine wpAny_bind (wpAny_pure ?_)
  refine wpAny_pure (wpAny_storeSet_of ho hd ?_ (by rw [sz', sz, sizeLine_eq]; omega))
  have only := Heap.SameBut.update (a := a) (h := s.heap) (f := Obj.putSet (order.filterMap (es[·]?)) t')
  refine h _ L' _ (ep + 1) t' only ⟨⟨_, store_at ho hd, ⟨hex.1, hex.2.1, hex.2.2⟩, rfl⟩, r1, by rw [r3]; exact q3, (r2.map _).nodup_iff.mpr one, fun p hp => (els p (r2.mem_iff.mp hp)).other ho hd only, by rw [q6]; exact pln, by rw [q5]; exact led, by rw [r2.length_eq, q4]; exact air, by rw [r2.length_eq]; exact few⟩ r2
/-- one element more, if it isn't there -/
theorem grow (R : Stand w s.heap a L es ep t) {x : Addr} {k : NestedKey} (hx : El s.heap k x) (hu : A.units + 8 < cLine) (room : L.length + 1 < 64) {Q : Bool → Shared → Prop}
    (h : ∀ b g L' es' ep' t', Heap.SameBut a s.heap g → Stand w g a L' es' ep' t' → (k ∈ keysOf L → L' = L) → (k ∉ keysOf L → L'.Perm ((x, k) :: L)) → Q b { s with heap := g }) :
    wpAny (model P w) A (setAddHashed a (.ref x) (k.hash w)) Q E s := by
  obtain ⟨o, ho, hex, hd⟩ := R.obj
  have air := R.air
  unfold setAddHashed
  refine wpAny_holding ?_
  rw [show (100000 : Nat) = 99999 + 1 from rfl, setAddHashedIn_succ]
  refine wpAny_bind (wpAny_setState_of ho hd R.fits ?_)
  dsimp only
  refine wp_if_neg (by simp [byScan, Value.scannable]) ?_
  try refine wpAny_bind (wpAny_pure ?_)
  refine wpAny_bind (lookup R hx hu (fun z => wpAny_pure (h false s.heap L es ep t (Heap.SameBut.refl ..) R (fun _ => rfl) fun n => absurd z n)) fun m nin hend hbef => ?_)
  dsimp only
  refine wpAny_bind (wpAny_setState_of ho hd R.fits ?_)
  dsimp only
  obtain ⟨b1, b2, b3, b4, b5, b6, _, _, b9⟩ := R.lay.put hend hbef
  rw [hss_len] at b2 b9
  obtain ⟨u, j, eu⟩ : ∃ u j, t.put (way t.mask (k.hash w) m) = (u, j) := ⟨_, _, rfl⟩
  rw [eu] at b1 b3 b4 b5 b6 b9 ⊢
  dsimp only at b1 b3 b4 b5 b6 b9 ⊢
  rw [← b1] at b2 b3
  have pl : u.plain = true := b6.trans R.pln
  simp only [pl, if_true]
  refine wpAny_bind (hashKnown k _ 8 hx.is hx.low hx.bar _ _ _ ?_)
  simp only [if_true]
  obtain ⟨L1, e1⟩ : ∃ L1 : NL, L1 = L.take j ++ (x, k) :: L.drop j := ⟨_, rfl⟩
  have pm : L1.Perm ((x, k) :: L) := by
    rw [e1]
    refine List.perm_middle.trans (.cons _ ?_)
    rw [List.take_append_drop]
  have len : L1.length = L.length + 1 := pm.length_eq
  have row1 : (SetTable.insertAt es j (k.hash w, Value.ref x)).toList = rws w L1 := by
    rw [SetTable.toList_insertAt, R.row, e1, rws, rws, List.map_append, List.map_cons, List.map_take, List.map_drop]
  have lay1 : TabOk u (hss w L1) := by
    rw [e1, hss, List.map_append, List.map_cons, List.map_take, List.map_drop]
    exact b3
  have one1 : (keysOf L1).Nodup := (pm.map _).nodup_iff.mpr (List.nodup_cons.mpr ⟨nin, R.one⟩)
  generalize SetTable.insertAt es j (k.hash w, Value.ref x) = es1 at row1 ⊢
  have sz1 := row_size row1
  refine wpAny_bind (wpAny_storeSet_of ho hd ?_ (by rw [sz1, len, sizeLine_eq]; omega))
  have only := Heap.SameBut.update (a := a) (h := s.heap) (f := Obj.putSet es1 u)
  have ho1 := store_at (es' := es1) (t' := u) ho hd
  generalize s.heap.update a (Obj.putSet es1 u) = g at only ho1 ⊢
  have els1 : ∀ p ∈ L1, El g p.2 p.1 := fun p hp => by
    rcases List.mem_cons.mp (pm.mem_iff.mp hp) with z | z
    · subst z
      exact hx.other ho hd only
    · exact (R.els p z).other ho hd only
  have led1 : w.params.followText "set-order" = true ∨ u.led = true := by
    rw [b5]
    exact R.led
  have hex1 : Obj.ExactSet { o with data := .set es1 (ep + 1) u } := ⟨hex.1, hex.2.1, hex.2.2⟩
  by_cases full : u.tooFull = true
  · have f5 := full
    unfold SetTable.tooFull at f5
    rw [decide_eq_true_eq, b9, b4] at f5
    have again : ∀ {n' : Nat}, SetTable.sizeAbove (SetTable.grown (L.length + 1)) = n' + 1 → MaskOk n' → (L.length + 1) * 5 < n' * 3 → L.length + 1 ≤ t.mask →
        wpAny (model P w) A (setRelay a (SetTable.grown (L.length + 1))) (fun _ s' => wpAny (model P w) A (pure true) Q E s') E { s with heap := g } := fun {n'} z1 z2 z3 z4 =>
      relay (s := { s with heap := g }) ho1 hex1 rfl row1 lay1 (by rw [len, b4]; exact z4) one1 els1 pl led1 (by rw [len]; exact room) z1 z2 (by rw [len]; exact z3) fun g2 L2 es2 ep2 t2 only2 R2 pm2 =>
        wpAny_pure (h true g2 L2 es2 ep2 t2 (only.trans only2) R2 (fun z => absurd z nin) fun _ => pm2.trans pm)
    have go : wpAny (model P w) A (setRelay a (SetTable.grown (es.size + 1))) (fun _ s' => wpAny (model P w) A (pure true) Q E s') E { s with heap := g } := by
      rw [row_size R.row]
      rcases R.lay.mok with z | z | z
      · have l4 : L.length = 4 := by omega
        rw [l4] at again ⊢
        exact again (by rw [size_20]) (.inr (.inl rfl)) (by decide) (by omega)
      · have l18 : L.length = 18 := by omega
        rw [l18] at again ⊢
        exact again (by rw [size_76]) (.inr (.inr rfl)) (by decide) (by omega)
      · exfalso
        omega
    first
      | exact wpAny_bind (wp_if_pos (by simp [full]) go)
      | exact wp_if_pos (by simp [full]) (wpAny_bind go)
  · have done := h true g L1 es1 (ep + 1) u only ⟨⟨_, ho1, hex1, rfl⟩, row1, lay1, one1, els1, pl, led1, by
      have f5 := full
      unfold SetTable.tooFull at f5
      rw [decide_eq_true_eq, b9] at f5
      rw [len]
      omega, by rw [len]; exact room⟩ (fun z => absurd z nin) fun _ => pm
    first
      | exact wp_if_neg (by simp [full]) (wpAny_pure done)
      | exact wpAny_bind (wp_if_neg (by simp [full]) (wpAny_pure (wpAny_pure done)))
end
end NS
end

section
set_option Elab.async false
set_option linter.all false
set_option maxRecDepth 100000
set_option maxHeartbeats 4000000
namespace NS
open PySem PySem.Spec PyProof.Rows L2
mutual
/-- the value y is the key k -/
inductive KV (K : PySem.W.Frag) (H : Hp) : V → NestedKey → Prop
  | non : KV K H .non .none
  | int (i : Int) : KV K H (.int i) (.num i)
  | tup {a : Addr} {xs : List V} {ks : List NestedKey} : SqT K H a xs → KVs K H xs ks → KV K H (.ref a) (.tup ks)
inductive KVs (K : PySem.W.Frag) (H : Hp) : List V → List NestedKey → Prop
  | nil : KVs K H [] []
  | cons {x : V} {xs : List V} {k : NestedKey} {ks : List NestedKey} : KV K H x k → KVs K H xs ks → KVs K H (x :: xs) (k :: ks)
end
mutual
theorem KV.mono {K : PySem.W.Frag} {H H' : Hp} (e : Evl.Ex H H') : ∀ {y : V} {k : NestedKey}, KV K H y k → KV K H' y k
  | _, _, .non => .non
  | _, _, .int i => .int i
  | _, _, .tup h r => .tup (Evl.ex_t e h) (KVs.mono e r)
theorem KVs.mono {K : PySem.W.Frag} {H H' : Hp} (e : Evl.Ex H H') : ∀ {y : List V} {k : List NestedKey}, KVs K H y k → KVs K H' y k
  | _, _, .nil => .nil
  | _, _, .cons h r => .cons (KV.mono e h) (KVs.mono e r)
end
theorem KV.bare {K : PySem.W.Frag} {H : Hp} : ∀ {y : V} {k : NestedKey}, KV K H y k → NS.bare k = true := by
  intro y k h
  refine KV.rec (motive_1 := fun _ k _ => NS.bare k = true) (motive_2 := fun _ ks _ => bares ks = true) rfl (fun _ => rfl) (fun _ _ ih => by rw [NS.bare]; exact ih) rfl (fun _ _ h1 h2 => by rw [bares, h1, h2]; rfl) h
section
variable {X : Cx} {pins : List (Addr × Obj)} {σ : L2.St} {H : Hp} {s : Shared}
mutual
theorem KV.is (I : Inv X pins σ H s) : ∀ {y : V} {k : NestedKey} {u : Value}, KV X.K H y k → RelV y u → NestedIs s.heap k u ∧ Reads s.heap u k.data []
  | _, _, u, .non, r => by
    cases r
    exact ⟨.none, by rw [NestedKey.data]; exact .none⟩
  | _, _, u, .int i, r => by
    obtain ⟨t, rfl⟩ := r
    exact ⟨.int i t, by rw [NestedKey.data]; exact .int i t⟩
  | _, _, u, .tup h q, r => by
    cases r
    obtain ⟨its, rv, ⟨o, ho, hc, n, hd⟩, _⟩ := I.tuple h
    obtain ⟨z1, z2⟩ := KVs.is I q rv
    exact ⟨.tup ho hc hd (by simpa using z1), by rw [NestedKey.data]; exact .tuple ho hc hd (by simpa using z2)⟩
theorem KVs.is (I : Inv X pins σ H s) : ∀ {y : List V} {k : List NestedKey} {u : List Value}, KVs X.K H y k → Vals y u → NestedAll s.heap k u ∧ ReadsAll s.heap u (NestedKey.datas k) []
  | _, _, u, .nil, r => by
    cases r
    exact ⟨.nil, by rw [NestedKey.datas]; exact .nil⟩
  | _, _, u, .cons h q, r => by
    cases r with
    | cons r1 r2 =>
      obtain ⟨z1, z2⟩ := KV.is I h r1
      obtain ⟨w1, w2⟩ := KVs.is I q r2
      exact ⟨.cons z1 w1, by rw [NestedKey.datas]; exact .cons (as := []) (bs := []) z2 w2⟩
end
theorem KV.el (I : Inv X pins σ H s) {a : Addr} {k : NestedKey} (h : KV X.K H (.ref a) k) (low : k.depth ≤ 8) : El s.heap k a := ⟨(h.is I rfl).1, low, h.bare⟩
end
/-- the set at a, but for the tuples themselves -/
def SetS (w : World) (a : Addr) (L : NL) (h : Heap) : Prop := ∃ (es : Array (Int × Value)) (ep : Nat) (t : SetTable), (∃ o, h.get? a = some o ∧ o.ExactSet ∧ o.data = .set es ep t) ∧ es.toList = rws w L ∧ TabOk t (hss w L) ∧ (keysOf L).Nodup ∧ t.plain = true ∧
  (w.params.followText "set-order" = true ∨ t.led = true) ∧ L.length * 5 < t.mask * 3 ∧ L.length < 64
def SO (w : World) (a : Addr) (L : NL) : HO := .ext (SetS w a L)
section
variable {P : Program} {w : World} {A : Around} {E : Value → Shared → Prop} {s : Shared} {a : Addr} {L : NL}
theorem SetS.stand {h : Heap} (x : SetS w a L h) (e : ∀ p ∈ L, El h p.2 p.1) : ∃ es ep t, Stand w h a L es ep t := by
  obtain ⟨es, ep, t, h1, h2, h3, h4, h5, h6, h7, h8⟩ := x
  exact ⟨es, ep, t, h1, h2, h3, h4, e, h5, h6, h7, h8⟩
theorem Stand.bare {h : Heap} {es ep t} (R : Stand w h a L es ep t) : SetS w a L h := ⟨es, ep, t, R.obj, R.row, R.lay, R.one, R.pln, R.led, R.air, R.few⟩
theorem so_new {H : Hp} {h : Heap} (x : SetS w a L h) : ObjOk P w H h a (SO w a L) := by
  obtain ⟨es, ep, t, ⟨o, ho, r⟩, q⟩ := id x
  refine ⟨x, ⟨o, ho⟩, fun h1 h2 y k => ?_⟩
  obtain ⟨es', ep', t', ⟨o', ho', r'⟩, q'⟩ := y
  exact ⟨es', ep', t', ⟨o', k o' ho', r'⟩, q'⟩
theorem set_none {h : Heap} (e : h.get? a = some { cls := .type "set", dict := none, data := .set #[] 0 (.fresh 0 0 (!w.params.followText "set-order")) }) : SetS w a [] h := by
  refine ⟨#[], 0, _, ⟨_, e, ⟨rfl, rfl, rfl⟩, rfl⟩, rfl, ⟨.nil, rfl, rfl, .inl rfl, fun x h => (by cases h), fun i h j e => (by simp [hss] at e)⟩, .nil, rfl, ?_, (show 0 * 5 < 7 * 3 by decide), (show 0 < 64 by decide)⟩
  show _ ∨ (!w.params.followText "set-order") = true
  cases w.params.followText "set-order" with
  | true => exact .inl rfl
  | false => exact .inr rfl
theorem add_call {es ep t} (R : Stand w s.heap a L es ep t) {x : Addr} {k : NestedKey} (hx : El s.heap k x) (hu : A.units + 64 < cLine) (room : L.length + 1 < 64) {Q : Value → Shared → Prop}
    (h : ∀ g n L', Heap.SameBut a s.heap g → SetS w a L' g → (k ∈ keysOf L → L' = L) → (k ∉ keysOf L → L'.Perm ((x, k) :: L)) → Q .none { s with heap := g, toks := n }) :
    wpAny (model P w) A (call (.builtin "set.add") [.ref a, .ref x]) Q E s := by
  obtain ⟨o, ho, hex, hd⟩ := R.obj
  refine wpAny_call_entry F.slot_set_add (show s.TypeIs (.ref a) "set" from ⟨o, ho, hex.1⟩) F.entry_set_add ?_ (F.args_set_add_2 _ _)
  unfold Builtin.«set.add» Builtin.Frozenset.oneOther
  simp only [List.isEmpty_nil, bind_assoc]
  unfold Builtin.Frozenset.addrOf setAdd
  refine wpAny_bind (wpAny_pure ?_)
  try dsimp only
  refine wpAny_bind (wpAny_pure ?_)
  try dsimp only
  refine wpAny_bind (wpAny_holding (wpAny_bind ((nestedKind P w).pyHash (k := k) (show A.units + 1 + 8 < cLine by omega) ⟨hx.is, hx.low⟩ ?_)))
  refine grow (s := { s with toks := s.toks + (nestedKind P w).draws k }) ⟨⟨o, ho, hex, hd⟩, R.row, R.lay, R.one, R.els, R.pln, R.led, R.air, R.few⟩ ⟨hx.is, hx.low, hx.bar⟩ (show A.units + 1 + 8 < cLine by omega) room fun b g L' es' ep' t' only R' c1 c2 => ?_
  exact wpAny_pure ⟨_, rfl, h g _ L' only R'.bare c1 c2⟩
end
section
variable {X : Cx} {pins : List (Addr × Obj)} {σ : L2.St} {H : Hp} {s : Shared} {D : Addr} {L : NL}
theorem so_get (I : Inv X pins σ H s) (e : H D = some (SO X.w D L)) (hk : ∀ p ∈ L, KV X.K H (.ref p.1) p.2 ∧ p.2.depth ≤ 8) : ∃ es ep t, Stand X.w s.heap D L es ep t :=
  SetS.stand (show SetS X.w D L s.heap from (I.hok D _ e).1) fun p hp => (hk p hp).1.el I (hk p hp).2
theorem add_ok {E : Value → Shared → Prop} {b : Addr} {k : NestedKey} {Q : Value → Shared → Prop} (hu : X.A.units + 64 < cLine) (I : Inv X pins σ H s) (e : H D = some (SO X.w D L)) (hk : ∀ p ∈ L, KV X.K H (.ref p.1) p.2 ∧ p.2.depth ≤ 8) (hb : KV X.K H (.ref b) k) (low : k.depth ≤ 8)
    (room : L.length + 1 < 64) (h : ∀ s' L', (k ∈ keysOf L → L' = L) → (k ∉ keysOf L → L'.Perm ((b, k) :: L)) → Inv X pins σ (upd H D (SO X.w D L')) s' → Q .none s') : wpAny (model X.prog X.w) X.A (call (.builtin "set.add") [.ref D, .ref b]) Q E s := by
  obtain ⟨es, ep, t, R⟩ := so_get I e hk
  refine add_call R (hb.el I low) hu room fun g n L' only x c1 c2 => h _ L' c1 c2 ?_
  obtain ⟨_, _, _, ⟨o, ho, _⟩, _⟩ := id x
  exact I.write (e := D) (t' := n) (by rw [e]; trivial) (.inl rfl) (fun b u hb hu => (only.2 b hb).trans hu) ⟨o, ho⟩ (so_new x)
end
/-- sorted(a set): the elements as data -/
def enc (p : Addr × NestedKey) : PyData := p.2.data
def rSortS (K : PySem.W.Frag) (w : World) : List V → Hp → VK → Prop := fun vs H Q => ∃ (a : Addr) (L : NL), vs = [V.ref a] ∧ H a = some (SO w a L) ∧ (∀ p ∈ L, KV K H (.ref p.1) p.2 ∧ p.2.depth ≤ 8) ∧ (∀ p ∈ L, ∀ q ∈ L, PySem.W.alike (enc p) (enc q) = true) ∧ (∀ p ∈ L, ∃ x r, enc p = .tuple (x :: r)) ∧
  ∀ (L' : NL) (p : Addr), L'.Perm L → (keysOf L').Nodup → L'.length < 64 → L'.Pairwise (fun q r => PySem.W.dataLe false enc q r = true) → H p = none → Q (.ref p) (upd H p (.lst (L'.map fun q => V.ref q.1)))
mutual
theorem data_depth : ∀ k : NestedKey, k.data.depth = k.depth
  | .none => by rw [NestedKey.data, NestedKey.depth, PyData.depth]
  | .num _ => by rw [NestedKey.data, NestedKey.depth, PyData.depth]
  | .text _ => by rw [NestedKey.data, NestedKey.depth, PyData.depth]
  | .tup ks => by rw [NestedKey.data, NestedKey.depth, PyData.depth, datas_depth ks]
theorem datas_depth : ∀ k : List NestedKey, PyData.depthAll (NestedKey.datas k) = NestedKey.depthAll k
  | [] => by rw [NestedKey.datas, NestedKey.depthAll, PyData.depthAll]
  | k :: ks => by rw [NestedKey.datas, NestedKey.depthAll, PyData.depthAll, data_depth k, datas_depth ks]
end
theorem each_refs {R : Value → Addr × NestedKey → Prop} : ∀ L : NL, (∀ p ∈ L, R (.ref p.1) p) → PySem.W.EachIs R (L.map fun p => Value.ref p.1) L
  | [], _ => .nil
  | p :: L, h => .cons (h p List.mem_cons_self) (each_refs L fun q hq => h q (List.mem_cons_of_mem _ hq))
theorem refs_each : ∀ {vs : List Value} {L : NL}, PySem.W.EachIs (fun v (p : Addr × NestedKey) => v = .ref p.1) vs L → vs = L.map fun p => Value.ref p.1
  | _, _, .nil => rfl
  | _, _, .cons h t => by rw [h, refs_each t]; rfl
theorem vals_refs : ∀ L : NL, Vals (L.map fun p => V.ref p.1) (L.map fun p => Value.ref p.1)
  | [] => .nil
  | _ :: L => .cons rfl (vals_refs L)
section
variable {P : Program} {w : World} {A : Around} {E : Value → Shared → Prop} {s : Shared} {a : Addr} {L : NL}
theorem sorted_set {es ep t} (R : Stand w s.heap a L es ep t) (rd : ∀ p ∈ L, Reads s.heap (.ref p.1) (enc p) []) (hh : A.handled = none) (hu : A.units + 64 < cLine) (al : ∀ p ∈ L, ∀ q ∈ L, PySem.W.alike (enc p) (enc q) = true) (ft : ∀ p ∈ L, ∃ x r, enc p = .tuple (x :: r)) {Q : Value → Shared → Prop}
    (h : ∀ s' p (out : List Value) c (L' : NL), (∀ b o, s.heap.get? b = some o → s'.heap.get? b = some o) → s'.gens = s.gens → s'.os = s.os → s.heap.objs.size ≤ p → s'.heap.get? p = some (seqObj "list" out.toArray c) → out = L'.map (fun q => Value.ref q.1) → L'.Perm L →
      L'.Pairwise (fun q r => PySem.W.dataLe false enc q r = true) → Q (.ref p) s') : wpAny (model P w) A (call (.builtin "sorted") [.ref a]) Q E s := by
  obtain ⟨o, ho, hex, hd⟩ := R.obj
  have sz := row_size R.row
  have few := R.few
  refine Calls.call_function_entry kind_sorted plain_sorted entry_sorted (args_sorted1 _) ?_
  unfold Builtin.«sorted»
  refine wpAny_bind (m := checkCount "sorted" 1 1 _) (wpAny_pure ?_)
  refine wpAny_bind (collect_set (A := A.in1) hh ⟨o, ho, hex.1, hd⟩ R.fits (by unfold scanBound; omega) R.lay.ris R.led fun s1 vs k1 hz g1 o1 pm => ?_)
  rw [R.row, rws, List.map_map] at pm
  obtain ⟨L1, pL, e1⟩ := perm_lift (fun p : Addr × NestedKey => Value.ref p.1) (n := L.map fun p => Value.ref p.1) pm L rfl
  subst e1
  have in1 : ∀ p ∈ L1, p ∈ L := fun p hp => pL.mem_iff.mp hp
  have len1 : L1.length = L.length := pL.length_eq
  refine wpAny_bind (wpAny_newList ?_ (by rw [List.length_map, sizeLine_eq]; omega))
  have at1 : (s1.heap.push (seqObj "list" (L1.map fun p => Value.ref p.1).toArray 0)).get? s1.heap.objs.size = some (seqObj "list" (L1.map fun p => Value.ref p.1).toArray 0) := Heap.get?_push_size _ rfl
  have rd1 : ∀ p ∈ L1, Reads (s1.heap.push (seqObj "list" (L1.map fun p => Value.ref p.1).toArray 0)) (.ref p.1) (enc p) [] := fun p hp => PyProof.Rows.Reads.keeps (fun b u e => Heap.get?_push_of_some _ (k1 b u e)) (rd p (in1 p hp))
  have dep : ∀ p ∈ L1, (enc p).depth ≤ 8 := fun p hp => by
    show p.2.data.depth ≤ 8
    rw [data_depth]
    exact (R.els p (in1 p hp)).low
  refine wpAny_bind (wpAny_holding (PySem.W.list_sort_data (s := { s1 with heap := s1.heap.push (seqObj "list" (L1.map fun p => Value.ref p.1).toArray 0) }) (A := A.in1) (R := fun v p => v = .ref p.1) (enc := enc) at1 (each_refs L1 fun _ _ => rfl)
    (each_refs L1 fun p hp => ⟨[], rd1 p hp, by simp⟩) (fun d hd d' hd' => ?_) (.inl fun d hd => ?_) (by rw [sizeLine_eq]; omega) (fun p hp => ?_) fun out ol oe => ?_))
  · obtain ⟨p, hp, rfl⟩ := List.mem_map.mp hd
    obtain ⟨q, hq, rfl⟩ := List.mem_map.mp hd'
    exact al p (in1 p hp) q (in1 q hq)
  · obtain ⟨p, hp, rfl⟩ := List.mem_map.mp hd
    exact ft p (in1 p hp)
  · have := dep p hp
    show A.units + 1 + 1 + _ < _
    omega
  · have e := refs_each oe
    obtain ⟨c, hc⟩ := PyProof.Rows.sortedHeap_at (vs := L1.map fun p => Value.ref p.1) (out := out.toArray) at1
    refine wpAny_pure ⟨_, rfl, h _ s1.heap.objs.size out c (L1.mergeSort (PySem.W.dataLe false enc)) (fun b u q => ?_) g1 o1 hz hc e ((List.mergeSort_perm _ _).trans pL) (PySem.W.sort_pairwise (PySem.W.sortLe_total _ false _) L1)⟩
    have q1 := k1 b u q
    have lt := Heap.lt_size q1
    show (PyProof.Rows.sortedHeap _ _ _ _).get? b = some u
    rw [PyProof.Rows.sortedHeap_old (Nat.ne_of_lt lt) (by rw [PyProof.Rows.size_push']; exact Nat.lt_succ_of_lt lt)]
    exact Heap.get?_push_of_some _ q1
end
theorem cr_sortS {X : Cx} (hc : X.calm = true) (hu : X.A.units + 64 < cLine) : CallR X (.builtin "sorted") (rSortS X.K X.w) := by
  intro pins s σ H vs us Q I r h
  obtain ⟨a, L, rfl, e, hk, al, ft, q⟩ := h
  obtain ⟨es, ep, t, R⟩ := so_get I e hk
  rw [Vals.ref1 r]
  refine sorted_set R (fun p hp => ((hk p hp).1.is I rfl).2) (I.ok.hd hc) hu al ft fun s' p out c L' k g o hp ho he pm pw => ?_
  have len : L'.length < 64 := by
    rw [pm.length_eq]
    exact R.few
  have hn : H p = none := I.hok.fresh hp
  have J : Inv X pins σ (upd H p (.lst (L'.map fun q => V.ref q.1))) { s with heap := s'.heap, gens := s'.gens, drawn := s'.drawn, toks := s'.toks } :=
    I.call (ch := []) (Un.laid k hp hn) (I.hok.laid k hp ⟨by rw [List.length_map, sizeLine_eq]; omega, out, c, by rw [he]; exact vals_refs L', ho⟩) (by rw [g]; exact I.bare) (fun _ z => nomatch z)
  have same : s' = { s with heap := s'.heap, gens := s'.gens, drawn := s'.drawn, toks := s'.toks } := by
    cases s'
    cases s
    cases o
    rfl
  rw [same]
  exact ⟨.ref p, _, J, rfl, q L' p pm ((pm.map _).nodup_iff.mpr R.one) len pw hn⟩
end NS
end

section
set_option Elab.async false
set_option linter.all false
set_option maxRecDepth 100000
set_option maxHeartbeats 4000000
namespace L2
open PySem PySem.Spec PyProof.Rows
/-! a comprehension whose block may let an error out -/
section
variable {M : Model} {A : Around} {E : Value → Shared → Prop} {s : Shared} {B : Heap} {fe : Env} {out : List Env} {L a : Addr} {Z : Obj → Prop} {fl : Value}
/-- a frame notes an error that has been noted before, whichever frame's flight it is on -/
theorem note_traced {Q : Unit → Shared → Prop} (hZ : PXN.Steady1 Z) (fr : A.frames = some (fe :: out)) (ff : fe.frame = some L) (st : B.StaysIn s.heap) (na : B.get? a = none) (hl : s.heap.FunFrames B (fe :: out)) (tr : HandSPX.TracedZ s.heap B a Z fl)
    (k : ∀ g, HandSPX.HeldZ B (fe :: out) a Z L g → s.heap.UpToSlots g → Q () { s with heap := g }) : wpAny M A (noteFrame (.ref a) fe) Q E s := by
  by_cases c : fl = rawInt L
  · subst c
    exact HandSPX.againZ ff tr (k s.heap ⟨st, na, hl, tr⟩ (Heap.UpToSlots.refl _))
  · obtain ⟨oa, us, T, ot, ws, g1, gz, g2, g3, g4, g5, g6, g7, g8⟩ := tr
    unfold noteFrame
    simp only [ff]
    refine wpAny_bind (wpAny_field g1 g2 g3 ?_)
    rw [if_pos (show (Value.ref T != Value.none) = true by simp)]
    refine wpAny_bind (wpAny_field g6 g7 g8 ?_)
    rw [if_neg (fun z => c (by simpa using z))]
    refine wpAny_bind (wpAny_setField g6 g7 (Array.getElem?_eq_some_iff.mp g8).1 ?_)
    have oth : ∀ b, b ≠ T → (s.heap.update T (Obj.mapFields (·.setIfInBounds 3 Value.none))).get? b = s.heap.get? b := fun b hb => Heap.get?_update_other _ _ (fun z => hb z.symm)
    have ntT : ∀ b o, s.heap.get? b = some o → (∀ vs, o.data ≠ .fields vs) → b ≠ T := fun b o e nf z => by
      subst z
      rw [g6] at e
      cases e
      exact nf ws g7
    refine PXN.wpAny_entryZ hZ fr (hl.of_keeps fun b o e nf => ⟨o, (oth b (ntT b o e nf)).trans e, rfl⟩) ff ((oth a (fun z => g5 z.symm)).trans g1)
      (fun b o e => (oth b fun z => by subst z; rw [g4] at e; cases e).trans (st b o e)) na g2 (Array.getElem?_eq_some_iff.mp g3).1 gz fun g hg => ?_
    obtain ⟨y1, y2, y3, y4⟩ := hg
    exact k g ⟨y1, na, y2, y3⟩ fun b o e nf => y4 b o ((oth b (ntT b o e nf)).trans e) nf
theorem note_sky {L' : Addr} {Q : Unit → Shared → Prop} (hZ : PXN.Steady1 Z) (fr : A.frames = some (fe :: out)) (ff : fe.frame = some L) (x : Sky B (fe :: out) a Z L' s.heap)
    (k : ∀ g, HandSPX.HeldZ B (fe :: out) a Z L g → s.heap.UpToSlots g → Q () { s with heap := g }) : wpAny M A (noteFrame (.ref a) fe) Q E s := by
  rcases x with ⟨z1, z2, z3, oe, vs, z4, z5, z6, z7⟩ | ⟨z1, z2, z3, z4⟩ | ⟨z1, z2, z3, z4⟩
  · exact PXN.look_newZ hZ fr z3 ff z4 z1 z2 z6 z7 z5 k
  · exact note_traced hZ fr ff z1 z2 z3 z4 k
  · exact note_traced hZ fr ff z1 z2 z3 z4 k
end
end L2
end

section
set_option Elab.async false
set_option linter.all false
set_option maxRecDepth 100000
set_option maxHeartbeats 4000000
namespace L2
open PySem PySem.Spec PyProof.Rows
section
variable {M : Model} {A : Around} {E : Value → Shared → Prop} {s : Shared} {env : Env}
/-- behind a block: its list stands there, or an error goes on, by the block's own environment -/
def lcEnd (M : Model) (A : Around) (E : Value → Shared → Prop) (use : Option (Value → Sem Unit)) (Q : Value → Shared → Prop) (acc : Value) (ce : Env) : Result → Shared → Prop
  | .ok f, t => compPost M A E use Q acc ce.locals (.ok f) t
  | .error x, t => ∃ m, t.heap.Ns ce.locals m ∧ ∀ g, Heap.SameBut ce.locals t.heap g → wpAny M A (passOn "comprehension.variables-let-go" x ce : Sem Value) (fun _ _ => False) E { t with heap := g }
theorem compr_ends {e : Expr} {sc : Scope} {pos : Pos} {mk fst : Sem Value} {c0 : Comprehension} {cs : List Comprehension} {cl : List (Str × Addr)} {use : Option (Value → Sem Unit)} {Q : Value → Shared → Prop}
    (h1 : clausesOf e = c0 :: cs) (h2 : ∀ x, foldedSetIterable c0.iter env x = pure x) (h3 : closureFor sc env = pure cl) (h4 : sc.kind = .function) (h5 : ∀ y ∈ sc.names, y.2 = .local → sc.names.lookup y.1 = some .local)
    (h : wpAny M A fst (fun x s₁ => wpAny M A (pyIter x) (fun it s₂ => wpAny M A mk (fun acc s₃ =>
      wpAny M A (newFunctionEnv sc env.globals cl [] env.qual none .none (some env)) (fun ce s₄ =>
        codeAny M A (.compStart e 0 it acc { ce with scope := relabel sc env }) (lcEnd M A E use Q acc { ce with scope := relabel sc env }) s₄) E s₃) E s₂) E s₁) E s) :
    wpAny M A (comprehension e sc env pos mk false fst use) Q E s := by
  unfold comprehension
  rw [h3, h1]
  refine wpAny_bind (wpAny_mono h (fun x t₁ k₁ => ?_) fun _ _ z => z)
  refine wpAny_bind (wpAny_standAt (wpAny_bind (wpAny_of_eq (h2 x) (wpAny_bind (wpAny_holding ?_)))))
  refine wpAny_mono k₁ (fun it t₂ k₂ => ?_) fun _ _ z => z
  refine wpAny_standIf (wpAny_bind (wpAny_mono k₂ (fun acc t₃ k₃ => ?_) fun _ _ z => z))
  refine wpAny_bind (wpAny_pure (wpAny_bind (wpAny_mono k₃ (fun ce t₄ k₄ => ?_) fun _ _ z => z)))
  dsimp only
  let vars := (sc.names.filter fun y => (y.2 == .local || y.2 == .cell) && y.1 != (".0" : Str)).reverse
  have v1 : ∀ y ∈ vars, y.2 = .local → Env.kindOf { ce with scope := relabel sc env } y.1 = some .local := fun y hy e =>
    lookup_relabel_local (h5 y (List.mem_filter.mp (List.mem_reverse.mp hy)).1 e)
  have v2 : ∀ y ∈ vars.drop 1 ++ vars.take 1, y.2 = .local → Env.kindOf { ce with scope := relabel sc env } y.1 = some .local := fun y hy e => by
    rcases List.mem_append.mp hy with z | z
    · exact v1 y (List.mem_of_mem_drop z) e
    · exact v1 y (List.mem_of_mem_take z) e
  refine wpAny_holding (wpAny_bind (wpAny_attempt (wpAny_holding (wpAny_run (codeAny_mono k₄ fun r t hr => ?_)))))
  cases r with
  | error x =>
    obtain ⟨m, n1, n2⟩ := hr
    exact wpAny_bind (wpAny_holding (wpAny_comp_letGo (cenv := { ce with scope := relabel sc env }) h4 _ t m v1 n1 fun g m' _ sb => wpAny_mono (n2 g sb) (fun _ _ z => z.elim) fun _ _ y => y))
  | ok f =>
    have hr : compPost M A E use Q acc ce.locals (.ok f) t := hr
    cases use with
    | none =>
      obtain ⟨m, n1, n2⟩ := hr
      exact wpAny_bind (wpAny_holding (wpAny_comp_letGo (cenv := { ce with scope := relabel sc env }) h4 _ t m v1 n1 fun g m' _ sb => wpAny_pure (n2 g sb)))
    | some u =>
      refine wpAny_bind (wpAny_rule (wpAny_bind (wpAny_holding (wpAny_mono hr (fun _ t2 n => ?_) fun _ _ z => z))))
      obtain ⟨m, n1, n2⟩ := n
      exact wpAny_bind (wpAny_comp_letGo (cenv := { ce with scope := relabel sc env }) h4 _ t2 m v2 n1 fun g m' _ sb => wpAny_pure (n2 g sb))
end
/-! the block's context, its errors let out: told by the def's slots -/
abbrev Cx.blkX (X : Cx) (W : WX) (σ : St) (s : Shared) (H : Hp) (scope : Scope) (cenv : Env) (fp : List Addr) : Cx :=
  { X.blk s H scope cenv fp with xe := fun u s' => L2N.XE (X.blk s H scope cenv fp) (fun c d _ H' => W c d σ H') u s' }
section
variable {X : Cx} {W : WX} {σ σ' : St} {s s' : Shared} {H H' : Hp} {scope : Scope} {cenv : Env} {fp : List Addr} {pins : List (Addr × Obj)}
theorem Inv.toX (I : Inv (X.blk s H scope cenv fp) pins σ' H' s') : Inv (X.blkX W σ s H scope cenv fp) pins σ' H' s' :=
  ⟨⟨I.ok.mod, I.ok.kind, I.ok.glob, I.ok.blt, I.ok.above, I.ok.inj, I.ok.has, I.ok.cab, I.ok.hd, I.ok.frames, I.ok.stk, I.ok.exf, I.ok.bs, I.ok.bsz, I.ok.noex, I.ok.exfs, I.ok.funs, I.ok.frf⟩, I.os, I.bare, I.base, I.loc, I.cell, I.free, I.freeC, I.pin, I.hok, I.len⟩
theorem Inv.ofX (I : Inv (X.blkX W σ s H scope cenv fp) pins σ' H' s') : Inv (X.blk s H scope cenv fp) pins σ' H' s' :=
  ⟨⟨I.ok.mod, I.ok.kind, I.ok.glob, I.ok.blt, I.ok.above, I.ok.inj, I.ok.has, I.ok.cab, I.ok.hd, I.ok.frames, I.ok.stk, I.ok.exf, I.ok.bs, I.ok.bsz, I.ok.noex, I.ok.exfs, I.ok.funs, I.ok.frf⟩, I.os, I.bare, I.base, I.loc, I.cell, I.free, I.freeC, I.pin, I.hok, I.len⟩
theorem takes_blkX : L2N.Takes (X.blkX W σ s H scope cenv fp) (fun c d _ H' => W c d σ H') := fun u s' ⟨a, B, sI, pins, τ, H1, cls, d, e, I, r⟩ => ⟨a, B, sI, pins, τ, H1, cls, d, e, I.ofX, r⟩
end
end L2
namespace L2
open PySem PySem.Spec PyProof.Rows
theorem frames_at {h g base B : Heap} : ∀ {l : List Env}, h.FunFrames base l → (∀ L ∈ frs l, ∀ o, h.get? L = some o → g.get? L = some o) → (∀ L ∈ frs l, B.get? L = none) → g.FunFrames B l
  | [], _, _, _ => trivial
  | e :: l, h1, h2, h3 => by
    obtain ⟨k1, ⟨L, o, k2, _, k3, k4⟩, k5⟩ := h1
    have inl : ∀ {b}, b ∈ frs l → b ∈ frs (e :: l) := fun {b} hb => by
      obtain ⟨e', q1, q2⟩ := List.mem_filterMap.mp hb
      exact List.mem_filterMap.mpr ⟨e', List.mem_cons_of_mem _ q1, q2⟩
    have inh : L ∈ frs (e :: l) := List.mem_filterMap.mpr ⟨e, List.mem_cons_self, k2⟩
    exact ⟨k1, ⟨L, o, k2, h3 L inh, h2 L inh o k3, k4⟩, frames_at k5 (fun b hb => h2 b (inl hb)) fun b hb => h3 b (inl hb)⟩
section
variable {X : Cx} {W : WX} {σ : St} {s3 t : Shared} {H3 : Hp} {scope : Scope} {ce : Env} {fp : List Addr} {pins : List (Addr × Obj)} {use : Option (Value → Sem Unit)} {Qf : Value → Shared → Prop} {acc u : Value}
/-- an error goes out of the block -/
theorem xe_out (hs : X.stack = X.env :: X.outer) (hf : X.env.frame = some X.env.locals) (tk : L2N.Takes X W) (I3 : Inv X pins σ H3 s3) (fps : ∀ b ∈ fp, FpOk X pins H3 b) (cl : ce.locals = s3.heap.objs.size) (cf : ce.frame = X.env.frame)
    (x : L2N.XE (X.blk s3 H3 scope ce fp) (fun c d _ H' => W c d σ H') u t) :
    notedBy (model X.prog X.w) X.A ce (fun e s'' => lcEnd (model X.prog X.w) X.A X.xe use Qf acc ce (.error e) s'') u t := by
  obtain ⟨a, B, sI, pp, τ, H', cls, d, rfl, I, nb, up, sky, na, os, ag, w⟩ := x
  have hfr : X.A.frames = some (X.env :: X.outer) := by rw [I3.ok.frames, hs]
  have nb : ∀ b o, sI.heap.get? b = some o → b ∉ frs X.stack → B.get? b = some o := nb
  have sky : Sky B (X.env :: X.outer) a (L2N.Zn cls d) ce.locals t.heap := by rw [← hs]; exact sky
  have os : t.os = sI.os := os
  obtain ⟨C, hC⟩ : ∃ C, C = ce.locals := ⟨_, rfl⟩
  have fC : H' C = none := by rw [hC]; exact I.free
  have fpC : FpOk X pins H' C := I3.fpOk (by rw [hC, cl]; exact Nat.le_refl _) fC
  obtain ⟨p0, p1, p2, p3, p4, p5⟩ := fpC
  have nst : C ∉ frs X.stack := fun z => by
    rcases List.mem_cons.mp (I3.stkSub C z) with q | q
    · exact p1 q
    · exact p2 q
  obtain ⟨m, nsm, _⟩ := I.loc
  have nsm : sI.heap.Ns C m := by rw [hC]; exact nsm
  obtain ⟨oC, es, ep, c1, c2, c3⟩ := id nsm
  have bC := nb C oC c1 nst
  have ne : noteFrame (.ref a) ce = noteFrame (.ref a) X.env := by
    unfold noteFrame PySem.frameOf
    rw [cf]
  show wpAny _ _ (noteFrame (.ref a) ce) _ _ _
  rw [ne]
  refine note_sky L2N.Zn.steady hfr hf sky fun g1 held up1 => ?_
  obtain ⟨y1, y2, y3, oa, us, T, ot, ws, t1, t2, t3, t4, t5, t6, t7, t8, t9⟩ := held
  have g1C : g1.get? C = some oC := y1 C oC bC
  have naC : a ≠ C := fun z => by
    rw [z, g1C] at t1
    cases t1
    rw [c2] at t3
    cases t3
  have nTC : T ≠ C := fun z => by
    rw [z, g1C] at t7
    cases t7
    rw [c2] at t8
    cases t8
  refine ⟨m, by rw [← hC]; exact ⟨oC, es, ep, g1C, c2, c3⟩, fun g sb => ?_⟩
  rw [← hC] at sb
  have sb : ∀ b, b ≠ C → g.get? b = g1.get? b := fun b hb => sb.2 b hb
  -- without the block's variables
  obtain ⟨G, G1, G2⟩ := restrict sI.heap fun b => decide (b ≠ C)
  obtain ⟨B', B1, B2⟩ := restrict B fun b => decide (b ≠ C)
  have Gin : ∀ b o, G.get? b = some o → b ≠ C ∧ sI.heap.get? b = some o := fun b o e => by
    by_cases z : b = C
    · rw [G2 b (by simp [z])] at e
      cases e
    · rw [G1 b (by simp [z])] at e
      exact ⟨z, e⟩
  have Bin : ∀ b o, B'.get? b = some o → b ≠ C ∧ B.get? b = some o := fun b o e => by
    by_cases z : b = C
    · rw [B2 b (by simp [z])] at e
      cases e
    · rw [B1 b (by simp [z])] at e
      exact ⟨z, e⟩
  have Bnone : ∀ b, B.get? b = none → B'.get? b = none := fun b e => by
    cases q : B'.get? b with
    | none => rfl
    | some o =>
      have z := (Bin b o q).2
      rw [e] at z
      cases z
  have held' : HandSPX.HeldZ B' (X.env :: X.outer) a (L2N.Zn cls d) X.env.locals g := by
    refine ⟨fun b o e => ?_, Bnone a y2, frames_at y3 (fun b hb o e => ?_) (fun b hb => Bnone b (y3.mem hb).1), oa, us, T, ot, ws, (sb a naC).trans t1, t2, t3, t4, Bnone T t5, t6, (sb T nTC).trans t7, t8, t9⟩
    · obtain ⟨z1, z2⟩ := Bin b o e
      exact (sb b z1).trans (y1 b o z2)
    · exact (sb b fun z => nst (by rw [hs, ← z]; exact hb)).trans e
  unfold PySem.passOn
  refine wpAny_bind (wpAny_field ((sb a naC).trans t1) t3 t4 ?_)
  rw [if_neg (by simp)]
  rw [cf, hf]
  refine wpAny_bind (HandSPX.setFlight_onZ (s := { t with heap := g }) held' fun g2 held2 up2 => wpAny_throw ?_)
  have IX : Inv X pins σ H' sI := I3.call' (ch := fp) I.os I.base I.hok I.bare fun b hb => ⟨(fps b hb).2.2.2.1, (fps b hb).2.1, (fps b hb).2.2.2.2.1, (fps b hb).2.2.2.2.2⟩
  have IG : Inv X pins σ H' { sI with heap := G, toks := sI.toks } := IX.turned (it := C) (fun b o hb e => by rw [G1 b (by simp [hb])]; exact e) p0 p1 p3 p4 p5
  refine tk _ _ ⟨a, B', _, pins, σ, H', cls, d, rfl, IG, fun b o e hb => ?_, fun b o e nf => ?_, ?_, na, os, ag, w⟩
  · obtain ⟨z1, z2⟩ := Gin b o e
    rw [B1 b (by simp [z1])]
    exact nb b o z2 hb
  · obtain ⟨z1, z2⟩ := Gin b o e
    obtain ⟨sl1, e1⟩ := up b o z2 nf
    obtain ⟨sl2, e2⟩ := up1 b _ e1 nf
    obtain ⟨sl3, e3⟩ := up2 b _ ((sb b z1).trans e2) nf
    exact ⟨sl3, e3⟩
  · rw [hs]
    exact .inr (.inr held2)
end
end L2
end

section
set_option Elab.async false
set_option linter.all false
set_option maxRecDepth 100000
set_option maxHeartbeats 4000000
namespace L2
open PySem PySem.Spec PyProof.Rows
/-- where a block runs -/
structure BC where
  s : Shared
  H : Hp
  C : Addr
  cl : List (Str × Addr)
  fp : List Addr
abbrev Cx.atB (X : Cx) (W : WX) (scope : Scope) (σ : St) (c : BC) : Cx := X.blkX W σ c.s c.H scope (compEnvC scope c.cl c.C X.env) c.fp
/-- [elt for target in iter], elt may raise; its reading is told for each place where the block may run -/
def tLcX (wi : TI) (g : TG) (te : St → BC → TE) (vs : List Nat) : TE := fun σ H Q => wi σ H fun J H1 => ∀ D, H1 D = none → ∃ Wv : Nat → Nat → Hp → Prop, (∃ m, Wv 0 m (upd H1 D (.lst []))) ∧ ∀ i m H, Wv i m H →
  (J.stop i H ∧ Q (.ref D) H) ∨ (J.go i H ∧ ∃ Nx : Hp → Prop, (∀ H', Nx H' → ∃ m', m' < m ∧ Wv (i + 1) m' H') ∧ ∀ x H', J.yld i H x H' → ∀ c : BC, g x (wipe σ vs) H' fun σ2 H2 => wipe σ2 vs = wipe σ vs ∧
    te σ c σ2 H2 fun y H4 => ∃ acc, H4 D = some (.lst acc) ∧ acc.length < sizeLine ∧ Nx (upd H4 D (.lst (acc ++ [y]))))
section
variable {X : Cx} {W : WX} {pins : List (Addr × Obj)} {s : Shared} {σ : St} {H : Hp} {Q : VK} {elt tg iter : Expr} {scope : Scope} {own : List (Str × Nat)} {pos pos' : Pos} {wi : TI} {g : TG} {te : St → BC → TE} {use : Option (Value → Sem Unit)} {Qf : Value → Shared → Prop}
theorem lcX_core (hs : X.stack = X.env :: X.outer) (hf : X.env.frame = some X.env.locals) (tk : L2N.Takes X W) (hc : X.calm = true) (hN : X.N.Nodup) (I : Inv X pins σ H s) (hi : PI X tg iter wi) (ok : BlkOk X.N X.env.scope scope own)
    (hg : ∀ τ c, PG (X.atB W scope τ c) tg g) (he : ∀ τ c, PE (X.atB W scope τ c) elt (te τ c)) (hsi : ∀ x, foldedSetIterable iter X.env x = pure x) (h : tLcX wi g te (own.map (·.2)) σ H Q)
    (fin : ∀ D C t m H', Inv X pins σ H' t → Q (.ref D) H' → t.heap.Ns C m → FpOk X pins H' C → compPost (model X.prog X.w) X.A X.xe use Qf (.ref D) C (.ok .next) t) :
    wpAny (model X.prog X.w) X.A (comprehension (.ListComp elt [⟨tg, iter, [], 0⟩] scope pos) scope X.env pos' (newList []) false (eval iter X.env) use) Qf X.xe s := by
  have fr : ∀ y ∈ scope.names, y.2 = .free → ∃ c, X.env.cells.lookup y.1 = some c := fun y hy e => (ok.free y hy e).elim (fun k => I.ok.has _ (.inl k)) fun k => I.ok.has _ (.inr k)
  refine compr_ends (use := use) rfl hsi (closure_ok fr) ok.kind (fun y hy e => (ok.uniq y hy).trans (by rw [e])) ?_
  refine thn (hi.run pins s σ H _ I h) fun xv t1 hx => thn hx fun itv t2 ht2 => ?_
  obtain ⟨it, fp, tn, J, H2, rfl, I2, T, st2, fp2, q⟩ := ht2
  refine wpAny_newObj_type (newEnv_comp ?_) (Nat.zero_le _)
  obtain ⟨D, eD⟩ : ∃ D, D = t2.heap.objs.size := ⟨_, rfl⟩
  obtain ⟨Wv, ⟨m0, w0⟩, step⟩ := q D (I2.hok.fresh (Nat.le_of_eq eD.symm))
  rw [← eD]
  -- the list
  obtain ⟨t3, e3⟩ : ∃ t3 : Shared, t3 = { t2 with heap := t2.heap.push { cls := .type "list", data := .seq ([] : List Value).toArray } } := ⟨_, rfl⟩
  have p3 : ∀ b o, t2.heap.get? b = some o → t3.heap.get? b = some o := fun b o e => by
    rw [e3]
    exact Heap.get?_push_of_some _ e
  have I3 : Inv X pins σ (upd H2 D (.lst [])) t3 := by
    rw [e3]
    refine I2.laid (t' := t2.toks) (fun b o e => Heap.get?_push_of_some _ e) (Nat.le_of_eq eD.symm) ⟨Nat.zero_le _, [], 0, .nil, ?_⟩
    rw [eD]
    exact Heap.get?_push_size _ rfl
  have fpl : ∀ b ∈ fp, b < t2.heap.objs.size := fun b hb => let ⟨_, e, _⟩ := T.obj _ _ st2 b hb; Heap.lt_size e
  have lt3 : ∀ b ∈ fp, b < t3.heap.objs.size := fun b hb => let ⟨o, e, _⟩ := T.obj _ _ st2 b hb; Heap.lt_size (p3 b o e)
  have fp3 : ∀ b ∈ fp, FpOk X pins (upd H2 D (.lst [])) b := fun b hb => ⟨(upd_ne (fun z => Nat.lt_irrefl _ (eD ▸ z ▸ fpl b hb))).trans (fp2 b hb).1, (fp2 b hb).2⟩
  have st3 : tn 0 t3.heap := T.keep _ _ _ st2 fun b _ o e => p3 b o e
  have I4 := block_start I3 ok hN fun b hb => ⟨fp3 b hb, lt3 b hb⟩
  rw [← e3]
  show codeAny _ _ (.compStart (.ListComp elt [⟨tg, iter, [], 0⟩] scope pos) 0 (.ref it) (.ref D) (compEnvC scope (cellsFrom (t3.heap.objs.size + 1) scope.names (cloFrom X.env.cells scope.names [])) t3.heap.objs.size X.env)) (lcEnd (model X.prog X.w) X.A X.xe use Qf (.ref D) (compEnvC scope (cellsFrom (t3.heap.objs.size + 1) scope.names (cloFrom X.env.cells scope.names [])) t3.heap.objs.size X.env)) { t3 with heap := pushCells (t3.heap.push { cls := .type "dict", data := .dict #[] }) scope.names }
  obtain ⟨H3, eH3⟩ : ∃ H3, H3 = upd H2 D (.lst []) := ⟨_, rfl⟩
  rw [← eH3] at I3 fp3 I4 w0
  obtain ⟨bc, eb⟩ : ∃ bc : BC, bc = ⟨t3, H3, t3.heap.objs.size, cellsFrom (t3.heap.objs.size + 1) scope.names (cloFrom X.env.cells scope.names []), fp⟩ := ⟨_, rfl⟩
  have pg := hg σ bc
  have pe := he σ bc
  have I4 : Inv (X.atB W scope σ bc) [] (wipe σ (own.map (·.2))) H3 { t3 with heap := pushCells (t3.heap.push { cls := .type "dict", data := .dict #[] }) scope.names } := by
    rw [eb]
    exact I4.toX
  have out : ∀ u t, (X.atB W scope σ bc).xe u t → notedBy (model X.prog X.w) X.A (compEnvC scope bc.cl bc.C X.env) (fun e s'' => lcEnd (model X.prog X.w) X.A X.xe use Qf (.ref D) (compEnvC scope bc.cl bc.C X.env) (.error e) s'') u t := fun u t x => by
    subst eb
    exact xe_out hs hf tk I3 fp3 rfl rfl x
  have back : ∀ {σ' : St} {H' : Hp} {t : Shared}, Inv (X.atB W scope σ bc) [] σ' H' t → Inv X pins σ H' t ∧ (∃ m, t.heap.Ns t3.heap.objs.size m) ∧ H' t3.heap.objs.size = none := fun {σ' H' t} J => by
    subst eb
    have J' := J.ofX
    exact ⟨I3.call' (ch := fp) J'.os J'.base J'.hok J'.bare fun b hb => ⟨(fp3 b hb).2.2.2.1, (fp3 b hb).2.1, (fp3 b hb).2.2.2.2.1, (fp3 b hb).2.2.2.2.2⟩, let ⟨m, z, _⟩ := J'.loc; ⟨m, z⟩, J'.free⟩
  have exb : (X.atB W scope σ bc).ex = fp := by rw [eb]
  have ecl : (compEnvC scope (cellsFrom (t3.heap.objs.size + 1) scope.names (cloFrom X.env.cells scope.names [])) t3.heap.objs.size X.env) = compEnvC scope bc.cl bc.C X.env := by rw [eb]
  rw [ecl]
  have cL : bc.C = t3.heap.objs.size := by rw [eb]
  obtain ⟨t4, e4⟩ : ∃ t4 : Shared, t4 = { t3 with heap := pushCells (t3.heap.push { cls := .type "dict", data := .dict #[] }) scope.names } := ⟨_, rfl⟩
  rw [← e4] at I4 ⊢
  have st4 : tn 0 t4.heap := T.keep _ _ _ st3 fun b _ o e => by
    rw [e4]
    exact pushCells_keeps _ _ _ _ (Heap.get?_push_of_some _ e)
  have stat : ∀ {σ' : St} {H' : Hp} {t : Shared}, Inv (X.atB W scope σ bc) [] σ' H' t → (∀ b ∈ fp, H' b = none) → ∀ b ∈ fp, FpOk (X.atB W scope σ bc) [] H' b := fun {σ' H' t} J hn b hb =>
    ⟨hn b hb, (J.ok.exf b (by rw [exb]; exact hb)).1, J.ok.exfs b (by rw [exb]; exact hb), .inl (by rw [exb]; exact hb), fun x c e => (J.ok.exf b (by rw [exb]; exact hb)).2 x c e, fun p hp => nomatch (show p ∈ ([] : List (Addr × Obj)) from hp)⟩
  have loop : codeAny (model X.prog X.w) X.A (.compLoop (.ListComp elt [⟨tg, iter, [], 0⟩] scope pos) 0 (.ref it) (.ref D) (compEnvC scope bc.cl bc.C X.env)) (lcEnd (model X.prog X.w) X.A X.xe use Qf (.ref D) (compEnvC scope bc.cl bc.C X.env)) t4 := by
    refine compLoop_any (fun n t => ∃ i H', Inv (X.atB W scope σ bc) [] (wipe σ (own.map (·.2))) H' t ∧ tn i t.heap ∧ (∀ b ∈ fp, H' b = none) ∧ Wv i n H') ?_ m0 ⟨0, H3, I4, st4, fun b hb => (fp3 b hb).1, w0⟩
    rintro n t5 ⟨i, H5, I5, st5, n5, w5⟩
    rcases step i n H5 w5 with ⟨stop, qq⟩ | ⟨go, Nx, hNx, turn⟩
    · refine thnF (T.done (X.atB W scope σ bc) rfl rfl rfl hc i [] t5 _ H5 (fun _ _ => False) I5 (stat I5 n5) st5 stop) fun r t6 ⟨hr, I6⟩ => ?_
      subst hr
      obtain ⟨I7, ⟨m, hn⟩, nC⟩ := back I6
      show compPost (model X.prog X.w) X.A X.xe use Qf (.ref D) bc.C (.ok .next) t6
      rw [cL]
      exact fin D _ t6 m H5 I7 qq hn (I3.fpOk (Nat.le_refl _) nC)
    · refine thnF (T.item (X.atB W scope σ bc) rfl rfl rfl hc i [] t5 _ H5 (fun _ _ => False) I5 (stat I5 n5) st5 go) fun r t6 ⟨u, hr, h6⟩ => ?_
      subst hr
      refine thnF h6 fun _ t7 ⟨x, H7, I7, r7, y7, st7, n7⟩ => ?_
      have I7' := I7.pinned (stat I7 n7) (T.obj _ _ st7)
      refine wpAny_mono (pg.run _ t7 _ H7 x u _ I7' r7 (turn x H7 y7 bc)) (fun _ t8 ⟨σ8, H8, I8, hw8, q8⟩ => ?_) out
      refine wpAny_tests_nil ?_
      rw [if_pos rfl]
      refine wpAny_mono (pe.run _ t8 σ8 H8 _ I8 q8) (fun z t9 ⟨yv, H9, I9, r9, acc, hD9, hz9, nx⟩ => ?_) out
      refine app_ok (X := X.atB W scope σ bc) I9 hD9 hz9 r9 fun t10 I10 => ?_
      obtain ⟨m', hm, w'⟩ := hNx _ nx
      have pin' : ∀ b ∈ fp, ∀ o, t7.heap.get? b = some o → t10.heap.get? b = some o ∧ upd H9 D (.lst (acc ++ [yv])) b = none := fun b hb o e =>
        let z := I10.pin (b, o) (List.mem_append_right _ (List.mem_append_right _ (mem_pinsAt hb e)))
        ⟨z.1, z.2.1⟩
      refine ⟨m', hm, i + 1, _, (I10.unpinned (pins := [])).weak (by rw [← hw8, wipe_length]) (fun j v e => ?_), T.keep _ _ _ st7 fun b hb o e => (pin' b hb o e).1, fun b hb => ?_, w'⟩
      · rw [← hw8] at e
        exact (wipe_some e).1
      · obtain ⟨o, e, _⟩ := T.obj _ _ st7 b hb
        exact (pin' b hb o e).2
  exact codeAny_compStart_list loop (T.self X.A 0 _ _ _ st4 loop)
theorem pe_lcX (hs : X.stack = X.env :: X.outer) (hf : X.env.frame = some X.env.locals) (tk : L2N.Takes X W) (hc : X.calm = true) (hN : X.N.Nodup) (hi : PI X tg iter wi) (ok : BlkOk X.N X.env.scope scope own)
    (hg : ∀ τ c, PG (X.atB W scope τ c) tg g) (he : ∀ τ c, PE (X.atB W scope τ c) elt (te τ c)) (hsi : ∀ x, foldedSetIterable iter X.env x = pure x := by intro _; rfl) :
    PE X (.ListComp elt [⟨tg, iter, [], 0⟩] scope pos) (tLcX wi g te (own.map (·.2))) := by
  refine ⟨fun pins s σ H Q I h => ?_⟩
  rw [eval_ListComp]
  refine lcX_core hs hf tk hc hN I hi ok hg he hsi h fun D C t m H' J q hn f => ⟨m, hn, fun g sb => ?_⟩
  obtain ⟨f0, f1, f2, f3, f4, f5⟩ := f
  exact ⟨V.ref D, H', J.turned (t' := t.toks) (fun b o hb e => (sb.2 b hb).trans e) f0 f1 f3 f4 f5, rfl, q⟩
theorem ps_setLcX {i : Nat} {y : Str} {py spos : Pos} (hs : X.stack = X.env :: X.outer) (hf : X.env.frame = some X.env.locals) (tk : L2N.Takes X W) (hc : X.calm = true) (hN : X.N.Nodup) (hy : X.N[i]? = some y) (hyl : X.env.scope.names.lookup y = some .local)
    (hsw : swapsWith (.ListComp elt [⟨tg, iter, [], 0⟩] scope pos) (some (.Name y py)) spos.line X.env = pure true) (hi : PI X tg iter wi) (ok : BlkOk X.N X.env.scope scope own)
    (hg : ∀ τ c, PG (X.atB W scope τ c) tg g) (he : ∀ τ c, PE (X.atB W scope τ c) elt (te τ c)) (hsi : ∀ x, foldedSetIterable iter X.env x = pure x := by intro _; rfl) :
    PS X (.Assign [.Name y py] (.ListComp elt [⟨tg, iter, [], 0⟩] scope pos) spos) (tAsg (tLcX wi g te (own.map (·.2))) (gName i)) := by
  refine ⟨fun pins s σ H D I h => ?_⟩
  rw [exec_Assign_Name_used _ _ _ _ hsw]
  have h : tLcX wi g te (own.map (·.2)) σ H (fun x H1 => gName i x σ H1 D.nx) := h
  refine wpAny_bind (wpAny_standAt (wpAny_bind ?_))
  show wpAny _ X.A (do let _ ← comprehension (.ListComp elt [⟨tg, iter, [], 0⟩] scope pos) scope X.env (firstIterPos [⟨tg, iter, [], 0⟩] pos) (newList []) false (eval iter X.env) (some (assign (.Name y py) X.env))) _ _ s
  refine wpAny_bind (thn (lcX_core (Qf := fun _ t => SP X pins D .next t) hs hf tk hc hN I hi ok hg he hsi h fun L C t m H' J q hn f => ?_) fun _ t hq => wpAny_pure (wpAny_pure hq))
  obtain ⟨f0, f1, f2, f3, f4, f5⟩ := f
  show wpAny _ _ (assign (.Name y py) X.env (.ref L)) _ _ _
  refine wpAny_assign_Name (store_ok2 (v := V.ref L) J hN hy (.inl hyl) rfl (fun t2 J2 ⟨a, sb, ha⟩ => ?_) (.inr hyl))
  have neC : C ≠ a := ha.elim (fun z => by rw [z]; exact f1) fun z e => f4 y a z e.symm
  exact ⟨m, hn.sameBut sb neC, fun g2 sb2 => ⟨_, H', J2.turned (t' := t2.toks) (fun b o hb e => (sb2.2 b hb).trans e) f0 f1 f3 f4 f5, q⟩⟩
end
end L2
end

section
set_option Elab.async false
set_option linter.all false
set_option maxRecDepth 100000
set_option maxHeartbeats 4000000
namespace NS
open PySem PySem.Spec PyProof.Rows L2
/-- {elt for target in iter}, the elements tuples: D the new set -/
def tScN (w : World) (K : PySem.W.Frag) (wi : TI) (g : TG) (te : TE) (vs : List Nat) : TE := fun σ H Q => wi σ H fun J H1 => ∀ D, H1 D = none → ∃ Wv : Nat → Nat → Hp → Prop, (∃ m, Wv 0 m (upd H1 D (SO w D []))) ∧ ∀ i m H, Wv i m H →
  (J.stop i H ∧ Q (.ref D) H) ∨ (J.go i H ∧ ∃ Nx : Hp → Prop, (∀ H', Nx H' → ∃ m', m' < m ∧ Wv (i + 1) m' H') ∧ ∀ x H', J.yld i H x H' → g x (wipe σ vs) H' fun σ2 H2 => wipe σ2 vs = wipe σ vs ∧
    te σ2 H2 fun y H4 => ∃ (b : Addr) (k : NestedKey) (L : NL), y = .ref b ∧ H4 D = some (SO w D L) ∧ (∀ p ∈ L, KV K H4 (.ref p.1) p.2 ∧ p.2.depth ≤ 8) ∧ KV K H4 y k ∧ k.depth ≤ 8 ∧ L.length + 1 < 64 ∧
      ∀ L', (k ∈ keysOf L → L' = L) → (k ∉ keysOf L → L'.Perm ((b, k) :: L)) → Nx (upd H4 D (SO w D L')))
section
variable {X : Cx} {pins : List (Addr × Obj)} {s : Shared} {σ : L2.St} {H : Hp} {Q : VK} {elt tg iter : Expr} {scope : Scope} {own : List (Str × Nat)} {pos pos' : Pos} {wi : TI} {g : TG} {te : TE} {Qf : Value → Shared → Prop}
abbrev Blk (X : Cx) (scope : Scope) (c : BC) : Cx := X.blk c.s c.H scope (compEnvC scope c.cl c.C X.env) c.fp
theorem scN_core (hu : X.A.units + 64 < cLine) (hc : X.calm = true) (hN : X.N.Nodup) (I : Inv X pins σ H s) (hi : PI X tg iter wi) (ok : BlkOk X.N X.env.scope scope own) (hg : ∀ c, PG (Blk X scope c) tg g) (he : ∀ c, PE (Blk X scope c) elt te) (hsi : ∀ x, foldedSetIterable iter X.env x = pure x)
    (h : tScN X.w X.K wi g te (own.map (·.2)) σ H Q) (fin : ∀ D C t m H', Inv X pins σ H' t → Q (.ref D) H' → t.heap.Ns C m → FpOk X pins H' C → compPost (model X.prog X.w) X.A X.xe none Qf (.ref D) C (.ok .next) t) :
    wpAny (model X.prog X.w) X.A (comprehension (.SetComp elt [⟨tg, iter, [], 0⟩] scope pos) scope X.env pos' (newSet (.type "set")) false (eval iter X.env) none) Qf X.xe s := by
  have fr : ∀ y ∈ scope.names, y.2 = .free → ∃ c, X.env.cells.lookup y.1 = some c := fun y hy e => (ok.free y hy e).elim (fun k => I.ok.has _ (.inl k)) fun k => I.ok.has _ (.inr k)
  refine wpAny_comprehension_free (use := none) rfl hsi (closure_ok fr) ok.kind (fun y hy e => (ok.uniq y hy).trans (by rw [e])) ?_
  refine thn (hi.run pins s σ H _ I h) fun xv t1 hx => thn hx fun itv t2 ht2 => ?_
  obtain ⟨it, fp, tn, J, H2, rfl, I2, T, st2, fp2, q⟩ := ht2
  refine PpSet.newSet_ok (newEnv_comp ?_)
  obtain ⟨D, eD⟩ : ∃ D, D = t2.heap.objs.size := ⟨_, rfl⟩
  obtain ⟨Wv, ⟨m0, w0⟩, step⟩ := q D (I2.hok.fresh (Nat.le_of_eq eD.symm))
  rw [← eD]
  -- the set
  obtain ⟨t3, e3⟩ : ∃ t3 : Shared, t3 = { t2 with heap := t2.heap.push { cls := .type "set", dict := none, data := .set #[] 0 (.fresh 0 0 (!X.w.params.followText "set-order")) } } := ⟨_, rfl⟩
  have p3 : ∀ b o, t2.heap.get? b = some o → t3.heap.get? b = some o := fun b o e => by
    rw [e3]
    exact Heap.get?_push_of_some _ e
  have I3 : Inv X pins σ (upd H2 D (SO X.w D [])) t3 := by
    rw [e3]
    refine I2.laid (t' := t2.toks) (fun b o e => Heap.get?_push_of_some _ e) (Nat.le_of_eq eD.symm) (so_new (set_none ?_))
    rw [eD]
    exact Heap.get?_push_size _ rfl
  have fpl : ∀ b ∈ fp, b < t2.heap.objs.size := fun b hb => let ⟨_, e, _⟩ := T.obj _ _ st2 b hb; Heap.lt_size e
  have lt3 : ∀ b ∈ fp, b < t3.heap.objs.size := fun b hb => let ⟨o, e, _⟩ := T.obj _ _ st2 b hb; Heap.lt_size (p3 b o e)
  have fp3 : ∀ b ∈ fp, FpOk X pins (upd H2 D (SO X.w D [])) b := fun b hb => ⟨(upd_ne (fun z => Nat.lt_irrefl _ (eD ▸ z ▸ fpl b hb))).trans (fp2 b hb).1, (fp2 b hb).2⟩
  have st3 : tn 0 t3.heap := T.keep _ _ _ st2 fun b _ o e => p3 b o e
  have I4 := block_start I3 ok hN fun b hb => ⟨fp3 b hb, lt3 b hb⟩
  rw [← e3]
  obtain ⟨H3, eH3⟩ : ∃ H3, H3 = upd H2 D (SO X.w D []) := ⟨_, rfl⟩
  rw [← eH3] at I3 fp3 I4 w0
  obtain ⟨bc, eb⟩ : ∃ bc : BC, bc = ⟨t3, H3, t3.heap.objs.size, cellsFrom (t3.heap.objs.size + 1) scope.names (cloFrom X.env.cells scope.names []), fp⟩ := ⟨_, rfl⟩
  have pg := hg bc
  have pe := he bc
  have I4 : Inv (Blk X scope bc) [] (wipe σ (own.map (·.2))) H3 { t3 with heap := pushCells (t3.heap.push { cls := .type "dict", data := .dict #[] }) scope.names } := by
    rw [eb]
    exact I4
  have back : ∀ {σ' : L2.St} {H' : Hp} {t : Shared}, Inv (Blk X scope bc) [] σ' H' t → Inv X pins σ H' t ∧ (∃ m, t.heap.Ns t3.heap.objs.size m) ∧ H' t3.heap.objs.size = none := fun {σ' H' t} J' => by
    subst eb
    exact ⟨I3.call' (ch := fp) J'.os J'.base J'.hok J'.bare fun b hb => ⟨(fp3 b hb).2.2.2.1, (fp3 b hb).2.1, (fp3 b hb).2.2.2.2.1, (fp3 b hb).2.2.2.2.2⟩, let ⟨m, z, _⟩ := J'.loc; ⟨m, z⟩, J'.free⟩
  have exb : (Blk X scope bc).ex = fp := by rw [eb]
  have ecl : (compEnvC scope (cellsFrom (t3.heap.objs.size + 1) scope.names (cloFrom X.env.cells scope.names [])) t3.heap.objs.size X.env) = compEnvC scope bc.cl bc.C X.env := by rw [eb]
  have cL : t3.heap.objs.size = bc.C := by rw [eb]
  show codeAny _ _ (.compStart (.SetComp elt [⟨tg, iter, [], 0⟩] scope pos) 0 (.ref it) (.ref D) (compEnvC scope (cellsFrom (t3.heap.objs.size + 1) scope.names (cloFrom X.env.cells scope.names [])) t3.heap.objs.size X.env)) (compPost (model X.prog X.w) X.A X.xe none Qf (.ref D) t3.heap.objs.size) _
  rw [ecl]
  obtain ⟨t4, e4⟩ : ∃ t4 : Shared, t4 = { t3 with heap := pushCells (t3.heap.push { cls := .type "dict", data := .dict #[] }) scope.names } := ⟨_, rfl⟩
  rw [← e4] at I4 ⊢
  have st4 : tn 0 t4.heap := T.keep _ _ _ st3 fun b _ o e => by
    rw [e4]
    exact pushCells_keeps _ _ _ _ (Heap.get?_push_of_some _ e)
  have stat : ∀ {σ' : L2.St} {H' : Hp} {t : Shared}, Inv (Blk X scope bc) [] σ' H' t → (∀ b ∈ fp, H' b = none) → ∀ b ∈ fp, FpOk (Blk X scope bc) [] H' b := fun {σ' H' t} J hn b hb =>
    ⟨hn b hb, (J.ok.exf b (by rw [exb]; exact hb)).1, J.ok.exfs b (by rw [exb]; exact hb), .inl (by rw [exb]; exact hb), fun x c e => (J.ok.exf b (by rw [exb]; exact hb)).2 x c e, fun p hp => nomatch (show p ∈ ([] : List (Addr × Obj)) from hp)⟩
  have loop : codeAny (model X.prog X.w) X.A (.compLoop (.SetComp elt [⟨tg, iter, [], 0⟩] scope pos) 0 (.ref it) (.ref D) (compEnvC scope bc.cl bc.C X.env)) (compPost (model X.prog X.w) X.A X.xe none Qf (.ref D) t3.heap.objs.size) t4 := by
    refine PpSet.compLoopS_any (fun n t => ∃ i H', Inv (Blk X scope bc) [] (wipe σ (own.map (·.2))) H' t ∧ tn i t.heap ∧ (∀ b ∈ fp, H' b = none) ∧ Wv i n H') ?_ m0 ⟨0, H3, I4, st4, fun b hb => (fp3 b hb).1, w0⟩
    rintro n t5 ⟨i, H5, I5, st5, n5, w5⟩
    rcases step i n H5 w5 with ⟨stop, qq⟩ | ⟨go, Nx, hNx, turn⟩
    · refine thnF (T.done (Blk X scope bc) rfl rfl rfl hc i [] t5 _ H5 (fun _ _ => False) I5 (stat I5 n5) st5 stop) fun r t6 ⟨hr, I6⟩ => ?_
      subst hr
      obtain ⟨I7, ⟨m, hn⟩, nC⟩ := back I6
      exact fin D _ t6 m H5 I7 qq hn (I3.fpOk (Nat.le_refl _) nC)
    · refine thnF (T.item (Blk X scope bc) rfl rfl rfl hc i [] t5 _ H5 (fun _ _ => False) I5 (stat I5 n5) st5 go) fun r t6 ⟨u, hr, h6⟩ => ?_
      subst hr
      refine thnF h6 fun _ t7 ⟨x, H7, I7, r7, y7, st7, n7⟩ => ?_
      have I7' := I7.pinned (stat I7 n7) (T.obj _ _ st7)
      refine thnF (pg.run _ t7 _ H7 x u _ I7' r7 (turn x H7 y7)) fun _ t8 ⟨σ8, H8, I8, hw8, q8⟩ => ?_
      refine wpAny_tests_nil ?_
      rw [if_pos rfl]
      refine thnF (pe.run _ t8 σ8 H8 _ I8 q8) fun z t9 ⟨yv, H9, I9, r9, b, k, L, ey, hD9, hL9, hk9, low9, room9, nx⟩ => ?_
      subst ey
      cases r9
      refine add_ok (X := Blk X scope bc) hu I9 hD9 hL9 hk9 low9 room9 fun t10 L' c1 c2 I10 => ?_
      obtain ⟨m', hm, w'⟩ := hNx _ (nx L' c1 c2)
      have pin' : ∀ b ∈ fp, ∀ o, t7.heap.get? b = some o → t10.heap.get? b = some o ∧ upd H9 D (SO X.w D L') b = none := fun b hb o e =>
        let z := I10.pin (b, o) (List.mem_append_right _ (List.mem_append_right _ (mem_pinsAt hb e)))
        ⟨z.1, z.2.1⟩
      refine ⟨m', hm, i + 1, _, (I10.unpinned (pins := [])).weak (by rw [← hw8, wipe_length]) (fun j v e => ?_), T.keep _ _ _ st7 fun b hb o e => (pin' b hb o e).1, fun b hb => ?_, w'⟩
      · rw [← hw8] at e
        exact (wipe_some e).1
      · obtain ⟨o, e, _⟩ := T.obj _ _ st7 b hb
        exact (pin' b hb o e).2
  exact PpSet.codeAny_compStart_set loop (T.self X.A 0 _ _ _ st4 loop)
theorem pe_scN (hu : X.A.units + 64 < cLine) (hc : X.calm = true) (hN : X.N.Nodup) (hi : PI X tg iter wi) (ok : BlkOk X.N X.env.scope scope own) (hg : ∀ c, PG (Blk X scope c) tg g) (he : ∀ c, PE (Blk X scope c) elt te) (hsi : ∀ x, foldedSetIterable iter X.env x = pure x := by intro _; rfl) :
    PE X (.SetComp elt [⟨tg, iter, [], 0⟩] scope pos) (tScN X.w X.K wi g te (own.map (·.2))) := by
  refine ⟨fun pins s σ H Q I h => ?_⟩
  rw [PpSet.eval_SetComp]
  refine scN_core hu hc hN I hi ok hg he hsi h fun D C t m H' J q hn f => ⟨m, hn, fun g sb => ?_⟩
  obtain ⟨f0, f1, f2, f3, f4, f5⟩ := f
  exact ⟨V.ref D, H', J.turned (t' := t.toks) (fun b o hb e => (sb.2 b hb).trans e) f0 f1 f3 f4 f5, rfl, q⟩
end
end NS
end

section
set_option Elab.async false
set_option linter.all false
set_option maxRecDepth 100000
set_option maxHeartbeats 4000000
namespace DL
open PySem PySem.Spec PyProof.Rows L2
open Evl (Ex)
/-! ### a call whose last argument is a new list, handed over to be changed -/
def lose (H : Hp) (p : Addr) : Hp := fun a => if a = p then none else H a
theorem lose_ne {H : Hp} {p a : Addr} (h : a ≠ p) : lose H p a = H a := if_neg h
theorem lose_same {H : Hp} {p : Addr} : lose H p p = none := if_pos rfl
theorem lose_some {H : Hp} {p a : Addr} {o : HO} (h : lose H p a = some o) : a ≠ p ∧ H a = some o := by
  by_cases c : a = p
  · subst c
    rw [lose_same] at h
    cases h
  · rw [lose_ne c] at h
    exact ⟨c, h⟩
theorem SR.given {K : PySem.W.Frag} {B : Bs} {S H S' H' : Hp} {env : En} {σ : L2.St} {r : R} {v : V} {p : Addr} (s : SR K B S H env σ) (h1 : B.H0 p = none) (h2 : ¬ Ow B env σ p) (d : DRet K S (lose H p) B.pa S' H' r v) : SR K B S' H' env σ where
  ex0 := s.ex0.trans d.ex
  nw0 := fun a o h e => by
    have ne : a ≠ p := fun z => by rw [z, h1] at h; cases h
    by_cases c : B.pa = some a
    · exact (d.pool a c).1
    · exact d.nw a o ((lose_ne ne).trans (s.keep0 a o h c)) (s.nw0 a o h e)
  keep0 := fun a o h c => by
    have ne : a ≠ p := fun z => by rw [z, h1] at h; cases h
    exact d.keep a o ((lose_ne ne).trans (s.keep0 a o h c)) c
  old0 := fun a h => by
    by_cases ne : a = p
    · subst ne
      exact h1
    · exact s.old0 a ((lose_ne ne).symm.trans (d.old a h))
  len := s.len
  ex := d.sh
  val := fun i d' h => let ⟨v, h1, h2⟩ := s.val i d' h; ⟨v, h1, h2.mono d.ex⟩
  own := fun i l h => by
    obtain ⟨q, vs, k1, k2, k3, k4, k5⟩ := s.own i l h
    have ne : q ≠ p := fun z => h2 (.inr (.inl ⟨i, l, h, z ▸ k1⟩))
    have np : B.pa ≠ some q := fun e => by
      obtain ⟨_, o, z⟩ := s.pool q e
      rw [k3] at z
      cases z
    exact ⟨q, vs, k1, d.nw _ _ ((lose_ne ne).trans k4) k2, k3, d.keep _ _ ((lose_ne ne).trans k4) np, k5.mono d.ex⟩
  dis := s.dis
  fix := fun i q l h => by
    obtain ⟨k1, k2, k3, vs, k4, k5⟩ := s.fix i q l h
    have ne : q ≠ p := fun z => h2 (.inr (.inr ⟨i, l, z ▸ h⟩))
    have np : B.pa ≠ some q := fun e => by
      obtain ⟨_, o, z⟩ := s.pool q e
      rw [k3] at z
      cases z
    exact ⟨k1, d.nw _ _ ((lose_ne ne).trans k4) k2, k3, vs, d.keep _ _ ((lose_ne ne).trans k4) np, k5.mono d.ex⟩
  dfx := s.dfx
  dff := s.dff
  pin := fun a e => by
    have ne : a ≠ p := fun z => h2 (.inl (by rw [← z]; exact e))
    have k := d.pin a e
    rw [lose_ne ne] at k
    exact k.trans (s.pin a e)
  pl := s.pl
  pool := fun a h => let ⟨q, o⟩ := s.pool a h; ⟨d.pool a h, o⟩
/-- the last argument's list at p -/
structure Gift (K : PySem.W.Frag) (B : Bs) (Hs S H : Hp) (env : En) (σ : L2.St) (p : Addr) (l : List D) : Prop where
  s : S p = none
  b : B.H0 p = none
  o : ¬ Ow B env σ p
  n : Hs p = none
  at_ : ∃ ws, H p = some (.lst ws) ∧ Reps K S ws l
abbrev DLM := En → (En → List R → List D → Prop) → Prop
def DLA (X : Cx) (es : List Expr) (m : DLM) (t : TA) : Prop := PA X es t ∧ ∀ (B : Bs) (S H : Hp) (env : En) (σ : L2.St) (Q : En → List R → List D → Prop) (Qv : List V → Hp → Prop), SR X.K B S H env σ → m env Q →
  (∀ vs p H' S' env' rs l, TPo X.K B S H env σ S' H' env' → LkA X.K B S' H' vs rs → Gift X.K B H S' H' env' σ p l → vs.length + 1 = es.length → Q env' rs l → Qv (vs ++ [.ref p]) H') → t σ H Qv
def dEndO (m : DM) : DLM := fun env Q => m env fun env' r => match r with
  | .own l => Q env' [] l
  | _ => False
def dConsO (m : DM) (n : DLM) : DLM := fun env Q => m env fun env1 r => n env1 fun env2 rs l => Q env2 (r :: rs) l
/-- the function's meaning: of the values, and of the list that is handed over -/
abbrev FML := List R → List D → (R → Prop) → Prop
def spL (K : PySem.W.Frag) (n : Nat) (F : FML) : Sp := fun vs H Q _ => ∃ (S : Hp) (pa : Option Addr) (vs0 : List V) (p : Addr) (rs : List R) (l : List D) (Qd : R → Prop), vs = vs0 ++ [.ref p] ∧ Ex S H ∧ (∀ a, pa = some a → PoolAt S H a) ∧ ArgR K S pa vs0 rs ∧ vs.length = n ∧
  (S p = none ∧ pa ≠ some p ∧ ∃ ws, H p = some (.lst ws) ∧ Reps K S ws l) ∧ F rs l Qd ∧ ∀ v H' S' r, DRet K S (lose H p) pa S' H' r v → Qd r → Q v H'
def dCallL (F : FML) (n : DLM) : DM := fun env Q => n env fun env' rs l => argsOk rs = true ∧ F rs l fun r => match r with
  | .brw _ _ => False
  | r => Q env' r
section
variable {X : Cx} {a : Expr} {ma : DM} {ta : TE} {k : Nat} {f : Addr} {fd : FuncData} {ps : List Str} {F : FML} {x : Str} {p pos : Pos} {e : Expr} {es : List Expr} {n : DLM} {tn : TA} {np : Nat}
theorem dla_end (ha : DE X a ma ta) (hs : starEach (a :: []) X.env = (false, eval a X.env) :: starEach [] X.env := by rfl) : DLA X [a] (dEndO ma) (tCons ta tNil) := by
  refine ⟨pa_cons ha.1 pa_nil hs, fun B S H env σ Q Qv s q k => ?_⟩
  refine ha.2 B S H env σ _ _ s q fun v H1 S1 env1 r1 e1 q1 => ?_
  cases r1 with
  | own l =>
    obtain ⟨p, ws, rfl, z1, z2, z3, z4, z5, z6⟩ := e1.res
    exact k [] p H1 S1 env1 [] l e1.t .nil ⟨z1, z2, z4, z3, ws, z5, z6⟩ rfl q1
  | val d => exact q1.elim
  | brw i l => exact q1.elim
  | pool => exact q1.elim
theorem dla_cons (ha : DE X a ma ta) (hb : DLA X es n tn) (hs : starEach (a :: es) X.env = (false, eval a X.env) :: starEach es X.env := by rfl) : DLA X (a :: es) (dConsO ma n) (tCons ta tn) := by
  refine ⟨pa_cons ha.1 hb.1 hs, fun B S H env σ Q Qv s q k => ?_⟩
  refine ha.2 B S H env σ _ _ s q fun x H1 S1 env1 r1 e1 q1 => ?_
  refine hb.2 B S1 H1 env1 σ _ _ e1.sr q1 fun vs p H2 S2 env2 rs l e2 l2 g len2 q2 => ?_
  refine k (x :: vs) p H2 S2 env2 (r1 :: rs) l (e1.t.trans e2) (.cons (RepB.go e1 rfl e2) (fun d e => ?_) (fun e => ?_) l2) ⟨g.s, g.b, g.o, e1.go.old p g.n, g.at_⟩ (by rw [List.length_cons, List.length_cons]; omega) q2
  · subst e
    have := e1.res
    exact Rep.mono e2.go.ex this
  · subst e
    exact e1.res
theorem de_callL (hF : FnOk X.prog X.w X.K X.mg X.base CX0 k f fd ps (spL X.K np F)) (hr : Room k X.A) (hg : Gl X x) (hm : X.mg x = some (.ref f)) (hk : PySem.W.keepIn X.K (.ref f) = true) (hb : Binds X.K fd ps [])
    (ha : DLA X (e :: es) n tn) (hlen : (e :: es).length = np) (hdb : (x == ("__debug__" : Str)) = false := by decide) (he : starEach (e :: es) X.env = (false, eval e X.env) :: starEach es X.env := by rfl) (hpl : (backTo pos (starEach es X.env)).any (·.1) = false := by rfl) :
    DE X (.Call (.Name x p) (e :: es) [] pos) (dCallL F n) (tCall (spL X.K np F) [] E0 tn) := by
  refine ⟨pe_call hF hr hg hm hk hb .nil pass0 ha.1 hdb he hpl, fun B S H env σ Q Qv s q k => ha.2 B S H env σ _ _ s q fun vs p H1 S1 env1 rs l z lk g len q1 => ?_⟩
  show spL X.K np F ((vs ++ [.ref p]) ++ []) H1 Qv E0
  rw [List.append_nil]
  have hpa : B.pa ≠ some p := fun e => g.o (.inl e)
  refine ⟨S1, B.pa, vs, p, rs, l, _, rfl, z.sr.ex, fun a e => (z.sr.pool a e).1, lk.args q1.1, by rw [List.length_append]; exact len.trans hlen, ⟨g.s, hpa, g.at_⟩, q1.2, fun v H' S' r d qr => ?_⟩
  have s' := z.sr.given g.b g.o d
  have go : Go (Ow B env σ) S H S' H' := by
    refine ⟨z.go.ex.trans d.ex, fun a o h nz => ?_, fun a o h nz e => ?_, fun a h => ?_⟩
    · have ne : a ≠ p := fun c => by rw [c, g.n] at h; cases h
      exact d.keep a o ((lose_ne ne).trans (z.go.keep a o h nz)) fun e => nz (.inl e)
    · have ne : a ≠ p := fun c => by rw [c, g.n] at h; cases h
      exact d.nw a o ((lose_ne ne).trans (z.go.keep a o h nz)) (z.go.nw a o h nz e)
    · by_cases ne : a = p
      · subst ne
        exact g.n
      · exact z.go.old a ((lose_ne ne).symm.trans (d.old a h))
  have dr := d.ret
  cases r with
  | val d0 => exact k v H' S' env1 (.val d0) ⟨s', go, z.fz, dr⟩ qr
  | own l2 =>
    obtain ⟨p2, ws, rfl, h1, h2, h3, h4⟩ := dr
    by_cases ne : p2 = p
    · subst ne
      exact k _ H' S' env1 (.own l2) ⟨s', go, z.fz, p2, ws, rfl, h1, g.b, g.n, g.o, h3, h4⟩ qr
    · have h2' : H1 p2 = none := (lose_ne ne).symm.trans h2
      exact k _ H' S' env1 (.own l2) ⟨s', go, z.fz, p2, ws, rfl, h1, z.sr.hp0 h2', z.go.old p2 h2', z.sr.now h2', h3, h4⟩ qr
  | pool => exact k v H' S' env1 .pool ⟨s', go, z.fz, dr⟩ qr
  | brw i l2 => exact qr.elim
end
end DL
end

section
set_option Elab.async false
set_option linter.all false
set_option maxRecDepth 100000
set_option maxHeartbeats 4000000
namespace DL
open PySem PySem.Spec PyProof.Rows L2
open Evl (Ex)
/-! ### pool = ..: from here on the list is the pool -/
def plainE (env : En) : Bool := env.all fun n => match n with
  | none => true
  | some (.val _) => true
  | _ => false
theorem plainE_has {env : En} (h : plainE env = true) {i : Nat} {n : Nv} (k : Has env i n) : ∃ d, n = .val d := by
  have q := List.all_eq_true.mp h _ (List.mem_of_getElem? k)
  cases n with
  | val d => exact ⟨d, rfl⟩
  | own l => cases q
  | pool => cases q
  | fix p l => cases q
/-- only values are handed back -/
def onlyRt (E : DEn) : DEn := { nx := fun _ => False, rt := fun _ r => match r with
  | .val d => E.rt [] (.val d)
  | _ => False }
def dPool (i : Nat) (ma : DM) (m : DSM) : DSM := fun E env => ma env fun env' r => match r with
  | .own [.lst cs, .int pos, .int big, .int seed, .int cnt, .int bud] => (∃ ns : List Int, cs = ns.map D.int) ∧ 0 ≤ pos ∧ plainE env' = true ∧ m (onlyRt E) (env'.set i (some .pool))
  | _ => False
section
variable {X : Cx} {a : Expr} {ma : DM} {ta : TE} {i : Nat} {x : Str} {pos pos' : Pos} {rest : List Stmt} {m : DSM} {tm : TS}
theorem SR.toPool {K : PySem.W.Frag} {B : Bs} {S H : Hp} {env : En} {σ : L2.St} {p : Addr} {vs : List V} {cs : List Int} {q1 q2 q3 q4 q5 : Int} {i : Nat} (s : SR K B S H env σ) (hpl : plainE env = true) (h1 : S p = none) (h3 : H p = some (.lst vs))
    (r : Reps K S vs [.lst (cs.map D.int), .int q1, .int q2, .int q3, .int q4, .int q5]) (h0 : 0 ≤ q1) : SR K ⟨S, H, some p⟩ S H (env.set i (some .pool)) (σ.set i (some (.ref p))) := by
  have il : ∀ {j : Nat} {n : Nv}, Has (env.set i (some .pool)) j n → j < σ.length := fun {j n} h => by
    have q := (List.getElem?_eq_some_iff.mp h).1
    rw [List.length_set] at q
    exact s.len ▸ q
  have other : ∀ {j : Nat} {n : Nv}, Has (env.set i (some .pool)) j n → n ≠ .pool → j ≠ i ∧ Has env j n := fun {j n} h ne => by
    have c : j ≠ i := fun z => by
      subst z
      exact ne (Option.some.inj (set_self h)).symm
    exact ⟨c, set_other h c⟩
  refine ⟨Ex.refl _, fun _ _ _ e => e, fun _ _ e _ => e, fun _ e => e, by rw [List.length_set, List.length_set]; exact s.len, s.ex, fun j d h => ?_, fun j l h => ?_, fun j k l m q e1 e2 _ _ => ?_, fun j h => ?_, fun b e => ?_, fun j q l h => ?_, fun j k q l m e1 _ _ => ?_, fun j k q l m e1 _ => ?_, fun _ _ => rfl⟩
  · obtain ⟨c, h⟩ := other h (fun z => by cases z)
    obtain ⟨v, k1, k2⟩ := s.val j d h
    exact ⟨v, (sset_other c).mpr k1, k2⟩
  · obtain ⟨c, h⟩ := other h (fun z => by cases z)
    obtain ⟨d, z⟩ := plainE_has hpl h
    cases z
  · obtain ⟨c, h⟩ := other e1 (fun z => by cases z)
    obtain ⟨d, z⟩ := plainE_has hpl h
    cases z
  · by_cases c : j = i
    · subst c
      exact ⟨p, rfl, sset_self (il h)⟩
    · obtain ⟨d, z⟩ := plainE_has hpl (set_other h c)
      cases z
  · cases e
    refine ⟨⟨h1, ?_⟩, _, h3⟩
    cases r with
    | cons r0 r => cases r with
      | cons r1 r => cases r with
        | cons r2 r => cases r with
          | cons r3 r => cases r with
            | cons r4 r => cases r with
              | cons r5 r =>
                cases r
                cases r0 with
                | lst hl rl =>
                  cases r1
                  cases r2
                  cases r3
                  cases r4
                  cases r5
                  rw [rl.ints_inv] at hl
                  exact ⟨_, cs, q1, q2, q3, q4, q5, h3, hl, h0⟩
  · obtain ⟨c, h⟩ := other h (fun z => by cases z)
    obtain ⟨d, z⟩ := plainE_has hpl h
    cases z
  · obtain ⟨c, h⟩ := other e1 (fun z => by cases z)
    obtain ⟨d, z⟩ := plainE_has hpl h
    cases z
  · obtain ⟨c, h⟩ := other e1 (fun z => by cases z)
    obtain ⟨d, z⟩ := plainE_has hpl h
    cases z
theorem dss_pool (ha : DE X a ma ta) (hm : DSs X rest m tm) (hN : X.N.Nodup) (hi : X.N[i]? = some x) (hx : Loc X.env.scope x) (hs : swapsWith a (some (.Name x pos')) pos.line X.env = pure false := by rfl)
    (hf : X.fn x = true ∨ X.env.scope.names.lookup x = some .local := by first | exact .inl rfl | exact .inr rfl | assumption) : DSs X (.Assign [.Name x pos'] a pos :: rest) (dPool i ma m) (tSeq (tAsg ta (gName i)) tm) := by
  refine ⟨pss_cons (ps_set hN hi hx ha.1 hs hf) hm.1, fun B S H env σ E D s q e => ?_⟩
  refine ha.2 B S H env σ _ _ s q fun v H' S' env' r z q' => ?_
  have zr := z.res
  split at q'
  · rename_i cs q1 q2 q3 q4 q5
    obtain ⟨⟨ns, rfl⟩, k0, k1, k2⟩ := q'
    obtain ⟨p, vs, rfl, z1, z2, z3, z4, z5, z6⟩ := zr
    have s' := z.sr.toPool (i := i) k1 z1 z5 z6 k0
    refine hm.2 ⟨S', H', some p⟩ S' H' _ _ (onlyRt E) D s' k2 ?_
    have z0 := z.sr
    have back : ∀ {S2 H2 : Hp} {env2 : En} {σ2 : L2.St}, SR X.K ⟨S', H', some p⟩ S2 H2 env2 σ2 → SR X.K B S2 H2 [] [] := fun {S2 H2 env2 σ2} s2 => by
      have np : B.pa ≠ some p := fun e => by
        obtain ⟨_, o, w⟩ := z0.pool p e
        rw [z2] at w
        cases w
      have up : ∀ b o, B.H0 b = some o → b ≠ p := fun b o w c => by
        rw [c, z2] at w
        cases w
      refine ⟨z0.ex0.trans s2.ex0, fun b o h w => ?_, fun b o h w => ?_, fun b h => z0.old0 b (s2.old0 b h), rfl, s2.ex, fun j d h => ?_, fun j l h => ?_, fun j k l m q e1 _ _ _ => ?_, fun j h => ?_, fun b h => ?_, fun j q l h => ?_, fun j k q l m e1 _ _ => ?_, fun j k q l m e1 _ => ?_, fun b e => ?_⟩
      · by_cases c : B.pa = some b
        · obtain ⟨⟨w1, _⟩, o', w2⟩ := z0.pool b c
          obtain ⟨⟨_, l, cells, y1, y2, y3, y4, y5, y6, _⟩, _⟩ := z0.pool b c
          exact s2.nw0 b _ y6 w1
        · exact s2.nw0 b o (z0.keep0 b o h c) (z0.nw0 b o h w)
      · exact s2.keep0 b o (z0.keep0 b o h w) fun c => up b o h (by cases c; rfl)
      · cases (show (none : Option (Option Nv)) = some (some _) from h)
      · cases (show (none : Option (Option Nv)) = some (some _) from h)
      · cases (show (none : Option (Option Nv)) = some (some _) from e1)
      · cases (show (none : Option (Option Nv)) = some (some _) from h)
      · obtain ⟨⟨w1, l, cells, y1, y2, y3, y4, y5, y6, y7, y8⟩, o, y9⟩ := z0.pool b h
        exact ⟨⟨s2.nw0 b _ y6 w1, l, cells, y1, y2, y3, y4, y5, s2.keep0 b _ y6 fun c => up b o y9 (by cases c; rfl), s2.ex0 _ _ y7, y8⟩, o, y9⟩
      · cases (show (none : Option (Option Nv)) = some (some _) from h)
      · cases (show (none : Option (Option Nv)) = some (some _) from e1)
      · cases (show (none : Option (Option Nv)) = some (some _) from e1)
      · obtain ⟨⟨w1, l, cells, y1, y2, y3, y4, y5, y6, y7, y8⟩, o, y9⟩ := z0.pool b e
        rw [s2.keep0 b _ y6 fun c => up b o y9 (by cases c; rfl), ← z0.pin b e, y6]
    refine ⟨fun _ _ _ _ _ w => w.elim, fun S2 H2 env2 σ2 r2 v2 s2 w1 w2 => ?_, fun _ _ _ _ _ w => w.elim, fun _ _ _ _ _ w => w.elim, fun _ _ _ _ _ _ _ _ _ _ _ _ w => w.elim⟩
    cases r2 with
    | val d => exact e.rt S2 H2 [] [] (.val d) v2 (back s2) w1 w2
    | own l => exact w2.elim
    | brw j l => exact w2.elim
    | pool => exact w2.elim
  · exact q'.elim
end
end DL
end

section
set_option Elab.async false
set_option linter.all false
set_option maxRecDepth 100000
set_option maxHeartbeats 4000000
namespace DL
open PySem PySem.Spec PyProof.Rows L2
open Evl (Ex)
/-! ### a def whose last parameter is a list that it changes -/
abbrev FMI := List R → List D → (R → List D → Prop) → Prop
def startI (n : Nat) (rs : List R) (p : Addr) (l : List D) : En := (rs.map R.nv ++ [some (.fix p (.lst l))]) ++ List.replicate (n - (rs.length + 1)) none
def bodyI (n : Nat) (m : DSM) : FMI := fun rs l Qd => ∀ p : Addr, m { nx := fun env => ∃ l', Has env rs.length (.fix p (.lst l')) ∧ Qd (.val .non) l', rt := fun env r => ∃ l', Has env rs.length (.fix p (.lst l')) ∧ Qd r l' } (startI n rs p l)
def spI (K : PySem.W.Frag) (n : Nat) (F : FMI) : Sp := fun vs H Q _ => ∃ (S : Hp) (pa : Option Addr) (vs0 : List V) (p : Addr) (rs : List R) (l : List D) (Qd : R → List D → Prop), vs = vs0 ++ [.ref p] ∧ Ex S H ∧ (∀ a, pa = some a → PoolAt S H a) ∧ ArgR K S pa vs0 rs ∧ vs.length = n ∧
  (S p = none ∧ pa ≠ some p ∧ ∃ ws, H p = some (.lst ws) ∧ Reps K S ws l) ∧ F rs l Qd ∧
  ∀ v H' S' r l', DRet K S (lose H p) pa S' H' r v → (S' p = none ∧ ∃ ws, H' p = some (.lst ws) ∧ Reps K S' ws l') → Qd r l' → Q v H'
theorem spI.imp {K : PySem.W.Frag} {n : Nat} {F F' : FMI} (h : ∀ rs l Q, F' rs l Q → F rs l Q) : ∀ vs H Q E, spI K n F' vs H Q E → spI K n F vs H Q E :=
  fun vs H Q E ⟨S, pa, vs0, p, rs, l, Qd, h0, h1, h2, h3, h4, h5, h6, h7⟩ => ⟨S, pa, vs0, p, rs, l, Qd, h0, h1, h2, h3, h4, h5, h _ _ _ h6, h7⟩
/-- .. asked by one who does not look at the list again -/
theorem spI.last {K : PySem.W.Frag} {n : Nat} {F : FMI} {G : FML} (h : ∀ rs l Q, G rs l Q → F rs l fun r _ => Q r) : ∀ vs H Q E, spL K n G vs H Q E → spI K n F vs H Q E :=
  fun vs H Q E ⟨S, pa, vs0, p, rs, l, Qd, h0, h1, h2, h3, h4, h5, h6, h7⟩ => ⟨S, pa, vs0, p, rs, l, _, h0, h1, h2, h3, h4, h5, h _ _ _ h6, fun v H' S' r l' d _ q => h7 v H' S' r d q⟩
section
variable {K : PySem.W.Frag} {S H : Hp} {pa : Option Addr}
theorem SR.entryI {vs : List V} {rs : List R} {N : List Str} {p : Addr} {l : List D} {ws : List V} (h1 : Ex S H) (h2 : ∀ a, pa = some a → PoolAt S H a) (h3 : ArgR K S pa vs rs) (p1 : S p = none) (p2 : pa ≠ some p) (p3 : H p = some (.lst ws)) (p4 : Reps K S ws l) : SR K ⟨S, lose H p, pa⟩ S H (startI N.length rs p l) (L2.start N (vs ++ [.ref p])) := by
  have hl := h3.length
  have get : ∀ i n, Has (startI N.length rs p l) i n → (rs.map R.nv)[i]? = some (some n) ∨ (i = rs.length ∧ n = .fix p (.lst l)) := fun i n h => by
    unfold startI at h
    have h' : ((rs.map R.nv ++ [some (.fix p (.lst l))]) ++ List.replicate (N.length - (rs.length + 1)) none)[i]? = some (some n) := h
    rcases Nat.lt_or_ge i (rs.map R.nv).length with c | c
    · rw [List.getElem?_append_left (by rw [List.length_append]; omega), List.getElem?_append_left c] at h'
      exact .inl h'
    · rcases Nat.lt_or_ge i (rs.map R.nv ++ [some (Nv.fix p (.lst l))]).length with c2 | c2
      · rw [List.getElem?_append_left c2, List.getElem?_append_right c] at h'
        rw [List.length_append, List.length_singleton] at c2
        have e0 : i - (rs.map R.nv).length = 0 := by omega
        rw [e0] at h'
        have e1 : n = .fix p (.lst l) := (Option.some.inj (Option.some.inj h')).symm
        rw [List.length_map] at c c2
        exact .inr ⟨by omega, e1⟩
      · rw [List.getElem?_append_right c2] at h'
        have := List.mem_of_getElem? h'
        rw [List.mem_replicate] at this
        cases this.2
  have slt : ∀ i v, (vs ++ [V.ref p])[i]? = some v → Slt (L2.start N (vs ++ [.ref p])) i v := fun i v h => by
    unfold L2.start
    have c : i < ((vs ++ [V.ref p]).map some).length := by
      rw [List.length_map]
      exact (List.getElem?_eq_some_iff.mp h).1
    show ((vs ++ [V.ref p]).map some ++ List.replicate (N.length - (vs ++ [V.ref p]).length) none)[i]? = some (some v)
    rw [List.getElem?_append_left c, List.getElem?_map, h]
    rfl
  have slt0 : ∀ i v, vs[i]? = some v → Slt (L2.start N (vs ++ [.ref p])) i v := fun i v h => slt i v (by
    rw [List.getElem?_append_left (List.getElem?_eq_some_iff.mp h).1]
    exact h)
  have lst : Slt (L2.start N (vs ++ [.ref p])) rs.length (.ref p) := slt _ _ (by
    rw [List.getElem?_append_right (by omega), hl, Nat.sub_self]
    rfl)
  refine ⟨Ex.refl _, fun _ _ _ h => h, fun a o h _ => (lose_some h).2, fun a h => ?_, ?_, h1, fun i d h => ?_, fun i m h => ?_, fun i j m m2 q h _ _ _ => ?_, fun i h => ?_, fun a h => ⟨h2 a h, ?_⟩, fun i q m h => ?_, fun i j q m m2 _ h _ => ?_, fun i j q m m2 h h' => ?_, fun a h => congrArg headO (lose_ne (H := H) (fun c => p2 (by rw [← c]; exact h))).symm⟩
  · by_cases c : a = p
    · subst c
      exact lose_same
    · exact (lose_ne c).trans h
  · unfold startI L2.start
    simp only [List.length_append, List.length_map, List.length_replicate, List.length_singleton]
    omega
  · rcases get i _ h with h | ⟨_, h⟩
    · obtain ⟨v, q1, ⟨d', e, q2⟩ | ⟨e, _⟩⟩ := h3.get h
      · cases e
        exact ⟨v, slt0 i v q1, q2⟩
      · cases e
    · cases h
  · rcases get i _ h with h | ⟨_, h⟩
    · obtain ⟨v, q1, ⟨d', e, q2⟩ | ⟨e, _⟩⟩ := h3.get h
      · cases e
      · cases e
    · cases h
  · rcases get i _ h with h | ⟨_, h⟩
    · obtain ⟨v, q1, ⟨d', e, q2⟩ | ⟨e, _⟩⟩ := h3.get h
      · cases e
      · cases e
    · cases h
  · rcases get i _ h with h | ⟨_, h⟩
    · obtain ⟨v, q1, ⟨d', e, q2⟩ | ⟨e, a, q2, q3⟩⟩ := h3.get h
      · cases e
      · subst q3
        exact ⟨a, q2, slt0 i _ q1⟩
    · cases h
  · obtain ⟨_, l, cells, pos, big, seed, cnt, bud, k1, _⟩ := h2 a h
    exact ⟨_, (lose_ne (fun c => p2 (by rw [← c]; exact h))).trans k1⟩
  · rcases get i _ h with h | ⟨e, h⟩
    · obtain ⟨v, q1, ⟨d', e, q2⟩ | ⟨e, _⟩⟩ := h3.get h
      · cases e
      · cases e
    · cases h
      subst e
      exact ⟨lst, p1, lose_same, _, p3, ws, rfl, p4⟩
  · rcases get j _ h with h | ⟨_, h⟩
    · obtain ⟨v, q1, ⟨d', e, q2⟩ | ⟨e, _⟩⟩ := h3.get h
      · cases e
      · cases e
    · cases h
  · rcases get i _ h with h | ⟨e, h⟩
    · obtain ⟨v, q1, ⟨d', e, q2⟩ | ⟨e, _⟩⟩ := h3.get h
      · cases e
      · cases e
    · rcases get j _ h' with h' | ⟨e', h'⟩
      · obtain ⟨v, q1, ⟨d', e, q2⟩ | ⟨e, _⟩⟩ := h3.get h'
        · cases e
        · cases e
      · rw [e, e']
theorem fn_dI {P : Program} {w : World} {mg : Str → Option Value} {base : Heap} {x qual : Str} {st : Stmt} {f : Addr} {fd : FuncData} {N ps : List Str} {k : Nat} {m : DSM} (F : Fun K x qual st f fd) (Sc : FnScope N ps (defScope st))
    (hbody : ∀ (cdv : Value) (A : Around) (outer : List Env) (s : Shared) (H : Hp) (E : XK), Room k (A.deeper (envOfC qual (defScope st) s.heap.objs.size f cdv)) → ∃ t, DSs (cxOf CX0 P w K mg base N qual (defScope st) f cdv A outer s H E).nox (defBody st) m t) :
    FnOk P w K mg base CX0 (k + 1) f fd ps (spI K ps.length (bodyI N.length m)) := by
  refine F.ok Sc (fun vs H Q E h => ?_) fun cdv A outer s H vs Q E hr h => ?_
  · obtain ⟨S, pa, vs0, p, rs, l, Qd, h0, h1, h2, h3, h4, h5⟩ := h
    exact h4
  · obtain ⟨S, pa, vs0, p, rs, l, Qd, rfl, h1, h2, h3, h4, ⟨p1, p2, ws, p3, p4⟩, h6, h7⟩ := h
    obtain ⟨t, t1, t2⟩ := hbody cdv A outer s H E hr
    refine ⟨t, t1, t2 ⟨S, lose H p, pa⟩ S H _ _ _ _ (SR.entryI h1 h2 h3 p1 p2 p3 p4) (h6 p) ?_⟩
    have fin : ∀ {S' H' : Hp} {env : En} {σ : L2.St} {r : R} {v : V}, SR K ⟨S, lose H p, pa⟩ S' H' env σ → RetR K ⟨S, lose H p, pa⟩ S' H' r v → (∃ l', Has env rs.length (.fix p (.lst l')) ∧ Qd r l') → Q v H' := fun s r ⟨l', f, q⟩ => by
      obtain ⟨_, k2, _, o, k4, ws, rfl, k5⟩ := s.fix _ _ _ f
      exact h7 _ _ _ _ l' ⟨s.ex0, s.ex, s.keep0, s.nw0, s.old0, fun a e => (s.pool a e).1, s.pin, r⟩ ⟨k2, ws, k4, k5⟩ q
    exact ⟨fun S' H' env σ s q => fin s (r := .val .non) .non q, fun S' H' env σ r v s q z => fin s q z, fun _ _ _ _ _ z => z.elim, fun _ _ _ _ _ z => z.elim, fun _ _ _ _ _ _ _ _ _ _ _ _ z => z.elim⟩
end
end DL
end

section
set_option Elab.async false
set_option linter.all false
set_option maxRecDepth 100000
set_option maxHeartbeats 4000000
namespace DL
open PySem PySem.Spec PyProof.Rows L2
open Evl (Ex)
/-! ### the list at a known place: read, written, handed on -/
section
variable {K : PySem.W.Frag} {B : Bs} {S H S' H' : Hp} {env : En} {σ : L2.St}
theorem SR.putF {i : Nat} {l l' : FxL} {p : Addr} {o' : HO} (s : SR K B S H env σ) (h : Has env i (.fix p l)) (r : FxAt K S l' o') : SR K B S (upd H p o') (env.set i (some (.fix p l'))) σ := by
  obtain ⟨h1, h2, h3, vs, h4, h5⟩ := s.fix i p l h
  have npa : ∀ a, B.pa = some a → a ≠ p := fun a e c => by
    obtain ⟨_, o, q⟩ := s.pool a e
    rw [c, h3] at q
    cases q
  have ow : ∀ {j m}, Has (env.set i (some (.fix p l'))) j (.own m) → j ≠ i ∧ Has env j (.own m) := fun {j m} e => by
    by_cases z : j = i
    · subst z
      cases set_self e
    · exact ⟨z, set_other e z⟩
  have fx : ∀ {j q m}, Has (env.set i (some (.fix p l'))) j (.fix q m) → ∃ m', Has env j (.fix q m') := fun {j q m} e => by
    by_cases z : j = i
    · subst z
      cases set_self e
      exact ⟨l, h⟩
    · exact ⟨m, set_other e z⟩
  refine ⟨s.ex0, s.nw0, fun a o e c => ?_, fun a e => ?_, by rw [List.length_set]; exact s.len, fun a o e => ?_, fun j d e => ?_, fun j m e => ?_, fun j k m n q e1 e2 e3 e4 => s.dis j k m n q (ow e1).2 (ow e2).2 e3 e4, fun j e => ?_, fun a e => ?_, fun j q m e => ?_, fun j k q m n e1 e2 e3 => ?_, fun j k q m n e1 e2 => ?_, fun a e => by rw [upd_ne (npa a e)]; exact s.pin a e⟩
  · rw [upd_ne (fun z => by rw [z, h3] at e; cases e)]
    exact s.keep0 a o e c
  · by_cases z : a = p
    · subst z
      exact h3
    · rw [upd_ne z] at e
      exact s.old0 a e
  · rw [upd_ne (fun z => by rw [z, h2] at e; cases e)]
    exact s.ex a o e
  · by_cases z : j = i
    · subst z
      exact nomatch set_self e
    · exact s.val j d (set_other e z)
  · obtain ⟨c, e⟩ := ow e
    obtain ⟨q, ws, q1, q2, q3, q4, q5⟩ := s.own j m e
    refine ⟨q, ws, q1, q2, q3, ?_, q5⟩
    rw [upd_ne (fun z => s.dfx i j p l m h e (by rw [← z]; exact q1))]
    exact q4
  · by_cases z : j = i
    · subst z
      exact nomatch set_self e
    · exact s.pl j (set_other e z)
  · obtain ⟨⟨y, l', cells, pos, big, seed, cnt, bud, k1, k2, k3⟩, o⟩ := s.pool a e
    exact ⟨⟨y, l', cells, pos, big, seed, cnt, bud, (upd_ne (npa a e)).trans k1, k2, k3⟩, o⟩
  · by_cases z : j = i
    · subst z
      cases set_self e
      exact ⟨h1, h2, h3, o', upd_same, r⟩
    · have e' := set_other e z
      obtain ⟨k1, k2, k3, ws, k4, k5⟩ := s.fix j q m e'
      refine ⟨k1, k2, k3, ws, ?_, k5⟩
      rw [upd_ne (fun c => z (s.dff j i p m l (by rw [← c]; exact e') h))]
      exact k4
  · obtain ⟨m', e1⟩ := fx e1
    exact s.dfx j k q m' n e1 (ow e2).2 e3
  · obtain ⟨m', e1⟩ := fx e1
    obtain ⟨n', e2⟩ := fx e2
    exact s.dff j k q m' n' e1 e2
end
/-- left[e] -/
def dIxF (i : Nat) (mb : DM) : DM := fun env Q => (∃ p l0, Has env i (.fix p (.lst l0))) ∧ mb env fun env1 r => match env1[i]? with
  | some (some (.fix _ (.lst l))) => mIx (.lst l) r.data fun q => Q env1 q
  | _ => False
/-- left[e] = v -/
def dPutF (i : Nat) (mi m : DM) : DSM := fun E env => dKeep m env fun env1 r => (∃ p l0, Has env1 i (.fix p (.lst l0))) ∧ mi env1 fun env2 k => match r, k, env2[i]? with
  | .val d, .val (.int j), some (some (.fix p (.lst l))) => ∃ n, ixN l.length j = some n ∧ E.nx (env2.set i (some (.fix p (.lst (l.set n d)))))
  | _, _, _ => False
section
variable {X : Cx} {a b : Expr} {ma mb : DM} {ta tb : TE} {i : Nat} {x : Str} {xp tp pos : Pos}
theorem de_ixF (hv : PE X a (tVar i)) (hb : DE X b mb tb) (hs : PlainIx b) : DE X (.Subscript a b pos) (dIxF i mb) (tOp (rIx X.K) (tVar i) tb) := by
  refine ⟨pe_ix ix_seq hv hb.1 hs, fun B S H env σ Q Qv s q k => ?_⟩
  obtain ⟨⟨p, l0, c0⟩, q⟩ := q
  obtain ⟨h1, _⟩ := s.fix i p _ c0
  refine ⟨_, h1, hb.2 B S H env σ _ _ s q fun y H2 S2 env2 r2 e2 q2 => ?_⟩
  split at q2
  · rename_i p' l c
    obtain ⟨k1, k2, k3, o, k4, vs, rfl, k5⟩ := e2.sr.fix i p' _ c
    cases Slt.ref h1 k1
    exact opd_ix S2 H2 (.ref p) y (.lst l) r2.data _ _ e2.sr.ex (.inr ⟨p, vs, l, rfl, rfl, k4, k5⟩) e2.look1 q2 fun v H3 S3 q n q3 => k v H3 S3 env2 q (.fin e2.t n) q3
  · exact q2.elim
theorem ds_putF (hv : PE X (.Name x xp) (tVar i)) (hb : DE X b mb tb) (ha : DE X a ma ta)
    (hss : ∀ v, assign (.Subscript (.Name x xp) b tp) X.env v = (do
      let ov ← holding [v] (eval (.Name x xp) X.env)
      let iv ← holding [v, ov] (eval b X.env)
      standAt tp
      holding [v, ov, iv] (setItem ov iv v)
      release [v, ov, iv] []) := by intro _; rfl)
    (hs : swapsWithSole [.Subscript (.Name x xp) b tp] a pos.line X.env = pure false := by rfl) (hw : swappedStores [.Subscript (.Name x xp) b tp] a X.env = pure none := by rfl)
    (h1 : (assignEach [.Subscript (.Name x xp) b tp] X.env).map (·.2) = [assign (.Subscript (.Name x xp) b tp) X.env] := by rfl) : DS X (.Assign [.Subscript (.Name x xp) b tp] a pos) (dPutF i mb ma) (tAsg ta (gSub (tVar i) tb rSetL)) := by
  obtain ⟨t1, t2⟩ := de_keep ha
  refine ⟨ps_asg t1 (pg_sub hv hb.1 set_list hss) hs hw h1, fun B S H env σ E D s q e => ?_⟩
  refine t2 B S H env σ _ _ s q fun v H1 S1 env1 r z1 q1 => ?_
  obtain ⟨⟨p0, l0, c0⟩, q1⟩ := q1
  obtain ⟨ho, _⟩ := z1.sr.fix i p0 _ c0
  refine ⟨_, ho, hb.2 B S1 H1 env1 σ _ _ z1.sr q1 fun w H2 S2 env2 k z2 q2 => ?_⟩
  split at q2
  · rename_i d j p l c
    obtain ⟨n, n1, n2⟩ := q2
    obtain ⟨y1, y2, y3, o, y4, vs, rfl, y5⟩ := z2.sr.fix i p _ c
    cases Slt.ref ho y1
    have e2 : w = .int j := by
      have h' : Rep X.K S2 w (.int j) := z2.res
      cases h'
      rfl
    refine ⟨_, vs, j, n, rfl, e2, y4, by rw [y5.length]; exact n1, ?_⟩
    have r1 : Rep X.K S1 v d := z1.res
    exact e.nx S2 _ _ σ (z2.sr.putF (l' := .lst _) c ⟨_, rfl, y5.set n (r1.mono z2.go.ex)⟩) n2
  · exact q2.elim
/-! the recursion: f(.., left) -/
abbrev DIA' := En → (En → List R → Addr → List D → Prop) → Prop
def DFA (X : Cx) (i : Nat) (es : List Expr) (m : DIA') (t : TA) : Prop := PA X es t ∧ ∀ (B : Bs) (S H : Hp) (env : En) (σ : L2.St) (Q : En → List R → Addr → List D → Prop) (Qv : List V → Hp → Prop), SR X.K B S H env σ → m env Q →
  (∀ vs p H' S' env' rs l, TPo X.K B S H env σ S' H' env' → LkA X.K B S' H' vs rs → Has env' i (.fix p (.lst l)) → vs.length + 1 = es.length → Q env' rs p l → Qv (vs ++ [.ref p]) H') → t σ H Qv
def dEndF (i : Nat) : DIA' := fun env Q => match env[i]? with
  | some (some (.fix p (.lst l))) => Q env [] p l
  | _ => False
def dConsF (m : DM) (n : DIA') : DIA' := fun env Q => m env fun env1 r => n env1 fun env2 rs p l => Q env2 (r :: rs) p l
def dCallF (i : Nat) (F : FMI) (n : DIA') : PM := fun env Q _ => n env fun env' rs p l => argsOk rs = true ∧ F rs l fun r l' => match r with
  | .val d => Q (env'.set i (some (.fix p (.lst l')))) d
  | _ => False
variable {k : Nat} {f : Addr} {fd : FuncData} {ps : List Str} {F : FMI} {e : Expr} {es : List Expr} {n : DIA'} {tn : TA} {np : Nat}
theorem dfa_end (hv : PE X a (tVar i)) (hs : starEach (a :: []) X.env = (false, eval a X.env) :: starEach [] X.env := by rfl) : DFA X i [a] (dEndF i) (tCons (tVar i) tNil) := by
  refine ⟨pa_cons hv pa_nil hs, fun B S H env σ Q Qv s q k => ?_⟩
  unfold dEndF at q
  split at q
  · rename_i p l c
    obtain ⟨h1, _⟩ := s.fix i p _ c
    exact ⟨_, h1, k [] p H S env [] l (.refl s) .nil c rfl q⟩
  · exact q.elim
theorem dfa_cons (ha : DE X a ma ta) (hb : DFA X i es n tn) (hs : starEach (a :: es) X.env = (false, eval a X.env) :: starEach es X.env := by rfl) : DFA X i (a :: es) (dConsF ma n) (tCons ta tn) := by
  refine ⟨pa_cons ha.1 hb.1 hs, fun B S H env σ Q Qv s q k => ?_⟩
  refine ha.2 B S H env σ _ _ s q fun x H1 S1 env1 r1 e1 q1 => ?_
  refine hb.2 B S1 H1 env1 σ _ _ e1.sr q1 fun vs p H2 S2 env2 rs l e2 l2 g len2 q2 => ?_
  refine k (x :: vs) p H2 S2 env2 (r1 :: rs) l (e1.t.trans e2) (.cons (RepB.go e1 rfl e2) (fun d e => ?_) (fun e => ?_) l2) g (by rw [List.length_cons, List.length_cons]; omega) q2
  · subst e
    have := e1.res
    exact Rep.mono e2.go.ex this
  · subst e
    exact e1.res
theorem SR.handed {K : PySem.W.Frag} {B : Bs} {S H S' H' : Hp} {env : En} {σ : L2.St} {r : R} {v : V} {p : Addr} {i : Nat} {l l' : FxL} {o' : HO} (s : SR K B S H env σ) (h : Has env i (.fix p l)) (d : DRet K S (lose H p) B.pa S' H' r v) (c1 : S' p = none) (c2 : H' p = some o') (c3 : FxAt K S' l' o') :
    SR K B S' H' (env.set i (some (.fix p l'))) σ := by
  obtain ⟨h1, h2, h3, vs, h4, h5⟩ := s.fix i p l h
  have up : ∀ b o, B.H0 b = some o → b ≠ p := fun b o w c => by
    rw [c, h3] at w
    cases w
  have npa : ∀ a, B.pa = some a → a ≠ p := fun a e c => by
    obtain ⟨_, o, q⟩ := s.pool a e
    exact up a o q c
  have ow : ∀ {j m}, Has (env.set i (some (.fix p l'))) j (.own m) → Has env j (.own m) := fun {j m} e => by
    by_cases z : j = i
    · subst z
      cases set_self e
    · exact set_other e z
  have fx : ∀ {j q m}, Has (env.set i (some (.fix p l'))) j (.fix q m) → ∃ m', Has env j (.fix q m') := fun {j q m} e => by
    by_cases z : j = i
    · subst z
      cases set_self e
      exact ⟨l, h⟩
    · exact ⟨m, set_other e z⟩
  refine ⟨s.ex0.trans d.ex, fun a o h e => ?_, fun a o h c => d.keep a o ((lose_ne (up a o h)).trans (s.keep0 a o h c)) c, fun a h => ?_, by rw [List.length_set]; exact s.len, d.sh, fun j d' e => ?_, fun j m e => ?_, fun j k m n q e1 e2 e3 e4 => s.dis j k m n q (ow e1) (ow e2) e3 e4, fun j e => ?_, fun a e => ?_, fun j q m e => ?_, fun j k q m n e1 e2 e3 => ?_, fun j k q m n e1 e2 => ?_, fun a e => by have k := d.pin a e; rw [lose_ne (npa a e)] at k; exact k.trans (s.pin a e)⟩
  · by_cases c : B.pa = some a
    · exact (d.pool a c).1
    · exact d.nw a o ((lose_ne (up a o h)).trans (s.keep0 a o h c)) (s.nw0 a o h e)
  · by_cases ne : a = p
    · subst ne
      exact h3
    · exact s.old0 a ((lose_ne ne).symm.trans (d.old a h))
  · by_cases z : j = i
    · subst z
      exact nomatch set_self e
    · obtain ⟨v, k1, k2⟩ := s.val j d' (set_other e z)
      exact ⟨v, k1, k2.mono d.ex⟩
  · have e' := ow e
    obtain ⟨q, ws, q1, q2, q3, q4, q5⟩ := s.own j m e'
    have ne : q ≠ p := fun z => s.dfx i j p l m h e' (by rw [← z]; exact q1)
    have np : B.pa ≠ some q := fun e => by
      obtain ⟨_, o, w⟩ := s.pool q e
      rw [q3] at w
      cases w
    exact ⟨q, ws, q1, d.nw _ _ ((lose_ne ne).trans q4) q2, q3, d.keep _ _ ((lose_ne ne).trans q4) np, q5.mono d.ex⟩
  · by_cases z : j = i
    · subst z
      exact nomatch set_self e
    · exact s.pl j (set_other e z)
  · obtain ⟨_, o⟩ := s.pool a e
    exact ⟨d.pool a e, o⟩
  · by_cases z : j = i
    · subst z
      cases set_self e
      exact ⟨h1, c1, h3, o', c2, c3⟩
    · have e' := set_other e z
      obtain ⟨k1, k2, k3, us, k4, k5⟩ := s.fix j q m e'
      have ne : q ≠ p := fun c => z (s.dff j i p m l (by rw [← c]; exact e') h)
      have np : B.pa ≠ some q := fun e => by
        obtain ⟨_, o, w⟩ := s.pool q e
        rw [k3] at w
        cases w
      exact ⟨k1, d.nw _ _ ((lose_ne ne).trans k4) k2, k3, us, d.keep _ _ ((lose_ne ne).trans k4) np, k5.mono d.ex⟩
  · obtain ⟨m', e1⟩ := fx e1
    exact s.dfx j k q m' n e1 (ow e2) e3
  · obtain ⟨m', e1⟩ := fx e1
    obtain ⟨n', e2⟩ := fx e2
    exact s.dff j k q m' n' e1 e2
theorem dp_callF (hF : FnOk X.prog X.w X.K X.mg X.base CX0 k f fd ps (spI X.K np F)) (hr : Room k X.A) (hg : Gl X x) (hm : X.mg x = some (.ref f)) (hk : PySem.W.keepIn X.K (.ref f) = true) (hb : Binds X.K fd ps [])
    (ha : DFA X i (e :: es) n tn) (hlen : (e :: es).length = np) (hdb : (x == ("__debug__" : Str)) = false := by decide) (he : starEach (e :: es) X.env = (false, eval e X.env) :: starEach es X.env := by rfl) (hpl : (backTo pos (starEach es X.env)).any (·.1) = false := by rfl) :
    DP X (.Call (.Name x xp) (e :: es) [] pos) (dCallF i F n) (tCall (spI X.K np F) [] E0 tn) := by
  refine ⟨pe_call hF hr hg hm hk hb .nil pass0 ha.1 hdb he hpl, fun B S H env σ Q Qx Qv s q xk k => ha.2 B S H env σ _ _ s q fun vs p H1 S1 env1 rs l z lk g len q1 => ?_⟩
  show spI X.K np F ((vs ++ [.ref p]) ++ []) H1 Qv E0
  rw [List.append_nil]
  obtain ⟨h1, h2, h3, o, h4, ws, rfl, h5⟩ := z.sr.fix i p _ g
  have hpa : B.pa ≠ some p := fun e => by
    obtain ⟨_, o, w⟩ := z.sr.pool p e
    rw [h3] at w
    cases w
  refine ⟨S1, B.pa, vs, p, rs, l, _, rfl, z.sr.ex, fun a e => (z.sr.pool a e).1, lk.args q1.1, by rw [List.length_append]; exact len.trans hlen, ⟨h2, hpa, ws, h4, h5⟩, q1.2, fun v H' S' r l' d ⟨c1, us, c2, c3⟩ qr => ?_⟩
  cases r with
  | val d0 => exact k v d0 H' S' _ (z.sr.handed (l' := .lst _) g d c1 c2 ⟨_, rfl, c3⟩) d.ret qr
  | own l2 => exact qr.elim
  | pool => exact qr.elim
  | brw i l2 => exact qr.elim
end
end DL
end

section
set_option Elab.async false
set_option linter.all false
set_option maxRecDepth 100000
set_option maxHeartbeats 4000000
namespace DL
open PySem PySem.Spec PyProof.Rows L2
/-! ### slices by natural numbers -/
theorem cutTo (xs : List D) (k : Nat) : DL.cutD xs none (some (k : Int)) = xs.take k := by
  unfold DL.cutD
  rw [HT.sIx_none, HT.sIx_nat, List.drop_zero, Nat.sub_zero]
  rcases Nat.le_total k xs.length with h | h
  · rw [Nat.min_eq_left h]
  · rw [Nat.min_eq_right h, List.take_of_length_le (Nat.le_refl _), List.take_of_length_le h]
theorem cutFrom (xs : List D) (k : Nat) : DL.cutD xs (some (k : Int)) none = xs.drop k := by
  unfold DL.cutD
  rw [HT.sIx_none, HT.sIx_nat]
  rcases Nat.le_total k xs.length with h | h
  · rw [Nat.min_eq_left h, List.take_of_length_le (by rw [List.length_drop]; exact Nat.le_refl _)]
  · rw [Nat.min_eq_right h, List.drop_of_length_le (Nat.le_refl _), List.drop_of_length_le h, List.take_nil]
theorem cutFrom1 (x : D) (xs : List D) : DL.cutD (x :: xs) (some 1) none = xs := cutFrom (x :: xs) 1
theorem atI_head (x : D) (xs : List D) : atI (x :: xs) 0 = some x := DL.atI_nat (k := 0) rfl
theorem cdiv_nat {m : Nat} (h : m ≤ 5000) (h2 : 0 < m) : CDivW 0 (m : Int) := ⟨by omega, by
  have : ((m : Int)).natAbs = m := by omega
  rw [this]
  have := Nat.log2_le_self m
  omega⟩
end DL
end

section
set_option Elab.async false
set_option linter.all false
set_option maxRecDepth 100000
set_option maxHeartbeats 4000000
namespace DL
open PySem PySem.Spec PyProof.Rows L2
open Evl (Ex)
/-! ### a loan: a def reads a name's own list, and hands back data without places -/
def flatD : D → Bool
  | .non => true
  | .bl _ => true
  | .int _ => true
  | .str _ => true
  | _ => false
theorem flat_rep {K : PySem.W.Frag} {S S' : Hp} {v : V} {d : D} (h : Rep K S v d) (f : flatD d = true) : Rep K S' v d := by
  cases h with
  | non => exact .non
  | bl b => exact .bl b
  | int i => exact .int i
  | str x => exact .str x
  | any => cases f
  | err _ _ => cases f
  | scr _ => cases f
  | dct _ _ _ _ _ _ _ => cases f
  | lst _ _ => cases f
  | tup _ _ => cases f
  | ins _ _ _ _ => cases f
theorem flat_reps {K : PySem.W.Frag} {S S' : Hp} : ∀ {vs : List V} {ds : List D}, Reps K S vs ds → ds.all flatD = true → Reps K S' vs ds
  | _, _, .nil, _ => .nil
  | _, _, .cons h r, f => by
    rw [List.all_cons, Bool.and_eq_true] at f
    exact .cons (flat_rep h f.1) (flat_reps r f.2)
/-- the last argument is a name's own list, lent -/
abbrev DLN := En → (En → List R → List D → Prop) → Prop
def dEndN (i : Nat) : DLN := fun env Q => match env[i]? with
  | some (some (.own l)) => Q env [] l
  | _ => False
def dConsN (m : DM) (n : DLN) : DLN := fun env Q => m env fun env1 r => n env1 fun env2 rs l => Q env2 (r :: rs) l
def DNA (X : Cx) (i : Nat) (es : List Expr) (m : DLN) (t : TA) : Prop := PA X es t ∧ ∀ (B : Bs) (S H : Hp) (env : En) (σ : L2.St) (Q : En → List R → List D → Prop) (Qv : List V → Hp → Prop), SR X.K B S H env σ → m env Q →
  (∀ vs p H' S' env' rs l, TPo X.K B S H env σ S' H' env' → LkA X.K B S' H' vs rs → Has env' i (.own l) → Slt σ i (.ref p) → vs.length + 1 = es.length → Q env' rs l → Qv (vs ++ [.ref p]) H') → t σ H Qv
def dCallN (F : FM) (n : DLN) : DM := fun env Q => n env fun env' rs l => argsOk rs = true ∧ F (rs ++ [.val (.lst l)]) fun r => match r with
  | .val d => flatD d = true ∧ Q env' (.val d)
  | .own l2 => l2.all flatD = true ∧ Q env' (.own l2)
  | _ => False
section
variable {X : Cx} {a : Expr} {ma : DM} {ta : TE} {k : Nat} {f : Addr} {fd : FuncData} {ps : List Str} {F : FM} {x : Str} {p pos : Pos} {e : Expr} {es : List Expr} {n : DLN} {tn : TA} {np i : Nat}
theorem dna_end (hv : PE X a (tVar i)) (hs : starEach (a :: []) X.env = (false, eval a X.env) :: starEach [] X.env := by rfl) : DNA X i [a] (dEndN i) (tCons (tVar i) tNil) := by
  refine ⟨pa_cons hv pa_nil hs, fun B S H env σ Q Qv s q k => ?_⟩
  unfold dEndN at q
  split at q
  · rename_i l c
    obtain ⟨p, vs, h1, _⟩ := s.own i l c
    exact ⟨_, h1, k [] p H S env [] l (.refl s) .nil c h1 rfl q⟩
  · exact q.elim
theorem dna_cons (ha : DE X a ma ta) (hb : DNA X i es n tn) (hs : starEach (a :: es) X.env = (false, eval a X.env) :: starEach es X.env := by rfl) : DNA X i (a :: es) (dConsN ma n) (tCons ta tn) := by
  refine ⟨pa_cons ha.1 hb.1 hs, fun B S H env σ Q Qv s q k => ?_⟩
  refine ha.2 B S H env σ _ _ s q fun x H1 S1 env1 r1 e1 q1 => ?_
  refine hb.2 B S1 H1 env1 σ _ _ e1.sr q1 fun vs p H2 S2 env2 rs l e2 l2 g g2 len2 q2 => ?_
  refine k (x :: vs) p H2 S2 env2 (r1 :: rs) l (e1.t.trans e2) (.cons (RepB.go e1 rfl e2) (fun d e => ?_) (fun e => ?_) l2) g g2 (by rw [List.length_cons, List.length_cons]; omega) q2
  · subst e
    have := e1.res
    exact Rep.mono e2.go.ex this
  · subst e
    exact e1.res
theorem ArgR.app {K : PySem.W.Frag} {S : Hp} {pa : Option Addr} {v : V} {d : D} (r : Rep K S v d) : ∀ {vs : List V} {rs : List R}, ArgR K S pa vs rs → ArgR K S pa (vs ++ [v]) (rs ++ [.val d])
  | _, _, .nil => .val r .nil
  | _, _, .val h t => .val h (ArgR.app r t)
  | _, _, .pool h t => .pool h (ArgR.app r t)
theorem ArgR.mono {K : PySem.W.Frag} {S S' : Hp} {pa : Option Addr} (e : Ex S S') : ∀ {vs : List V} {rs : List R}, ArgR K S pa vs rs → ArgR K S' pa vs rs
  | _, _, .nil => .nil
  | _, _, .val h t => .val (h.mono e) (ArgR.mono e t)
  | _, _, .pool h t => .pool h (ArgR.mono e t)
/-- S, the lent list taken out again -/
theorem SR.lent {K : PySem.W.Frag} {B : Bs} {S H S' H' : Hp} {env : En} {σ : L2.St} {r : R} {v : V} {q : Addr} {i : Nat} {l : List D} {ws : List V} (s : SR K B S H env σ) (h : Has env i (.own l)) (hq : Slt σ i (.ref q)) (hw : H q = some (.lst ws)) (d : DRet K (upd S q (.lst ws)) H B.pa S' H' r v) :
    SR K B (lose S' q) H' env σ := by
  obtain ⟨p, vs, h1, h2, h3, h4, h5⟩ := s.own i l h
  cases Slt.ref hq h1
  have sub : Ex S (lose S' q) := fun a o e => by
    have ne : a ≠ q := fun z => by rw [z, h2] at e; cases e
    rw [lose_ne ne]
    exact d.ex a o (by rw [upd_ne ne]; exact e)
  have npq : ∀ a, B.pa = some a → a ≠ q := fun a e c => by
    obtain ⟨_, o, z⟩ := s.pool a e
    rw [c, h3] at z
    cases z
  have nw : ∀ a o, H a = some o → S a = none → lose S' q a = none := fun a o e z => by
    by_cases c : a = q
    · subst c
      exact lose_same
    · rw [lose_ne c]
      exact d.nw a o e (by rw [upd_ne c]; exact z)
  refine ⟨s.ex0.trans sub, fun a o e z => ?_, fun a o e c => d.keep a o (s.keep0 a o e c) c, fun a e => s.old0 a (d.old a e), s.len, fun a o e => ?_, fun j d' e => ?_, fun j m e => ?_, s.dis, s.pl, fun a e => ?_, fun j u m e => ?_, s.dfx, s.dff, fun a e => (d.pin a e).trans (s.pin a e)⟩
  · by_cases c : B.pa = some a
    · rw [lose_ne (npq a c)]
      exact (d.pool a c).1
    · exact nw a o (s.keep0 a o e c) (s.nw0 a o e z)
  · obtain ⟨_, e⟩ := lose_some e
    exact d.sh a o e
  · obtain ⟨v, k1, k2⟩ := s.val j d' e
    exact ⟨v, k1, k2.mono sub⟩
  · obtain ⟨u, us, k1, k2, k3, k4, k5⟩ := s.own j m e
    have np : B.pa ≠ some u := fun e => by
      obtain ⟨_, o, w⟩ := s.pool u e
      rw [k3] at w
      cases w
    exact ⟨u, us, k1, nw u _ k4 k2, k3, d.keep _ _ k4 np, k5.mono sub⟩
  · obtain ⟨y0, o⟩ := s.pool a e
    obtain ⟨w1, l1, cells, y1, y2, y3, y4, y5, y6, y7, y8⟩ := d.pool a e
    obtain ⟨z1, l2, cells2, x1, x2, x3, x4, x5, x6, x7, x8⟩ := y0
    have same : l1 = l2 := by
      have k := d.pin a e
      rw [y6, x6] at k
      injection k with k
      injection k
    subst same
    have nl : l1 ≠ q := fun c => by rw [c, h2] at x7; cases x7
    exact ⟨⟨by rw [lose_ne (npq a e)]; exact w1, l1, cells, y1, y2, y3, y4, y5, y6, by rw [lose_ne nl]; exact y7, y8⟩, o⟩
  · obtain ⟨k1, k2, k3, us, k4, k5⟩ := s.fix j u m e
    have np : B.pa ≠ some u := fun e => by
      obtain ⟨_, o, w⟩ := s.pool u e
      rw [k3] at w
      cases w
    exact ⟨k1, nw u _ k4 k2, k3, us, d.keep _ _ k4 np, k5.mono sub⟩
theorem de_callN (hF : FnOk X.prog X.w X.K X.mg X.base CX0 k f fd ps (spF X.K np F)) (hr : Room k X.A) (hg : Gl X x) (hm : X.mg x = some (.ref f)) (hk : PySem.W.keepIn X.K (.ref f) = true) (hb : Binds X.K fd ps [])
    (ha : DNA X i (e :: es) n tn) (hlen : (e :: es).length = np) (hdb : (x == ("__debug__" : Str)) = false := by decide) (he : starEach (e :: es) X.env = (false, eval e X.env) :: starEach es X.env := by rfl) (hpl : (backTo pos (starEach es X.env)).any (·.1) = false := by rfl) :
    DE X (.Call (.Name x p) (e :: es) [] pos) (dCallN F n) (tCall (spF X.K np F) [] E0 tn) := by
  refine ⟨pe_call hF hr hg hm hk hb .nil pass0 ha.1 hdb he hpl, fun B S H env σ Q Qv s q k => ha.2 B S H env σ _ _ s q fun vs p H1 S1 env1 rs l z lk g g2 len q1 => ?_⟩
  show spF X.K np F ((vs ++ [.ref p]) ++ []) H1 Qv E0
  rw [List.append_nil]
  obtain ⟨p', ws, h1, h2, h3, h4, h5⟩ := z.sr.own i l g
  cases Slt.ref g2 h1
  have e1 : Ex S1 (upd S1 p (.lst ws)) := Ex.new h2
  have exH : Ex (upd S1 p (.lst ws)) H1 := fun a o w => by
    by_cases c : a = p
    · subst c
      rw [upd_same] at w
      cases w
      exact h4
    · rw [upd_ne c] at w
      exact z.sr.ex a o w
  have npp : ∀ a, B.pa = some a → a ≠ p := fun a w c => by
    obtain ⟨_, o, y⟩ := z.sr.pool a w
    rw [c, h3] at y
    cases y
  refine ⟨upd S1 p (.lst ws), B.pa, rs ++ [.val (.lst l)], _, exH, fun a w => ?_, (lk.args q1.1 |>.mono e1).app (.lst upd_same (h5.mono e1)), by rw [List.length_append]; exact len.trans hlen, q1.2, fun v H' S' r d qr => ?_⟩
  · obtain ⟨⟨y0, l1, cells, y1, y2, y3, y4, y5, y6, y7, y8⟩, _⟩ := z.sr.pool a w
    exact ⟨by rw [upd_ne (npp a w)]; exact y0, l1, cells, y1, y2, y3, y4, y5, y6, e1 _ _ y7, y8⟩
  · have s' := z.sr.lent g g2 h4 d
    have go : Go (Ow B env1 σ) S1 H1 (lose S' p) H' := by
      refine ⟨fun a o w => ?_, fun a o w nz => d.keep a o w fun c => nz (.inl c), fun a o w nz u => ?_, d.old⟩
      · have ne : a ≠ p := fun c => by rw [c, h2] at w; cases w
        rw [lose_ne ne]
        exact d.ex a o (by rw [upd_ne ne]; exact w)
      · by_cases ne : a = p
        · subst ne
          exact lose_same
        · rw [lose_ne ne]
          exact d.nw a o w (by rw [upd_ne ne]; exact u)
    have go' : Go (Ow B env σ) S H (lose S' p) H' := z.go.trans go fun x o _ nz w => nz (Ow.frz z.fz w)
    have dr := d.ret
    cases r with
    | val d0 => exact k v H' (lose S' p) env1 (.val d0) ⟨s', go', z.fz, flat_rep dr qr.1⟩ qr.2
    | own l2 =>
      obtain ⟨p2, us, rfl, k1, k2, k3, k4⟩ := dr
      have ne : p2 ≠ p := fun c => by
        have w : H1 p2 = none := k2
        rw [c, h4] at w
        cases w
      exact k _ H' (lose S' p) env1 (.own l2) ⟨s', go', z.fz, p2, us, rfl, by rw [lose_ne ne]; exact k1, z.sr.hp0 k2, z.go.old p2 k2, fun w => z.sr.now k2 w, k3, flat_reps k4 qr.1⟩ qr.2
    | pool => exact qr.elim
    | brw j l2 => exact qr.elim
/-- by what the i-th name holds -/
def dEither (i : Nat) (m1 m2 : DM) : DM := fun env Q => match env[i]? with
  | some (some (.own _)) => m1 env Q
  | _ => m2 env Q
theorem de_either {a : Expr} {m1 m2 : DM} {ta : TE} (h1 : DE X a m1 ta) (h2 : DE X a m2 ta) : DE X a (dEither i m1 m2) ta := by
  refine ⟨h1.1, fun B S H env σ Q Qv s q k => ?_⟩
  unfold dEither at q
  split at q
  · exact h1.2 B S H env σ Q Qv s q k
  · exact h2.2 B S H env σ Q Qv s q k
/-! ### (list(e), tuple(e))[c]: the list stays one's own -/
end
end DL
end

section
set_option Elab.async false
set_option linter.all false
set_option maxRecDepth 100000
set_option maxHeartbeats 4000000
/-! An own error: super().__init__(f"..{a}"), then self.a = a. -/
namespace EX
open PySem PySem.W PySem.Calls PyProof.Rows PySem.HandSPX
abbrev eArgs (a : Str) (p1 p2 : Pos) : Arguments := { posonlyargs := [], args := [{ arg := "self", annotation := none, pos := p1 }, { arg := a, annotation := none, pos := p2 }], vararg := none, kwonlyargs := [], kw_defaults := [], kwarg := none, defaults := [] }
abbrev eBody (a txt : Str) (p0 p1 p2 p3 p4 p5 p6 p7 p8 q1 q2 q3 q4 : Pos) : List Stmt :=
  [.Expr (.Call (.Attribute (.Call (.Name "super" p0) [] [] p1) "__init__" p2) [.JoinedStr [.Constant (.str txt) 0 p3, .FormattedValue (.Name a p4) (-1) none p5] p6] [] p7) p8,
   .Assign [.Attribute (.Name "self" q1) a q2] (.Name a q3) q4]
abbrev eScope (a : Str) : Scope := { kind := .function, names := [(PySem.Str.ofString "self", .local), (a, .local), (PySem.Str.ofString "__class__", .free), (PySem.Str.ofString "super", .globalImplicit)], isGenerator := false, isCoroutine := false, more := [] }
/-- what the written part says of an own error's class at C, its __init__ at fI -/
structure ErrTxt (prog : Program) (K : Frag) (C fI : Addr) (a txt : Str) : Prop where
  cls : ∃ nm q N bs bm sn sub ab col dd k0 k1 k2 k3 k5, K.lookup C = some (excClassObj nm q C N bs bm true sn sub ab col dd k0 k1 k2 k3 k5 "ValueError.__new__") ∧ refsVE bm = true
  sa : findIn K (.ref C) "__setattr__" = some (some (.builtin "object.__setattr__"))
  ga : findIn K (.ref C) "__getattribute__" = some (some (.builtin "BaseException.__getattribute__"))
  gg : findIn K (.ref C) "__getattr__" = some none
  noN : findIn K (.ref C) a = some none
  iC : findIn K (.ref C) "__init__" = some (some (.ref fI))
  tC : typeIn K (.ref fI) = some (.type "function")
  kC : keepIn K (.ref C) = true
  exC : subIn K (.ref C) (.type "BaseException") = some true
  veC : subIn K (.ref C) (.type "ValueError") = some true
  tyC : typeIn K (.ref C) = some (.type "type")
  hdC : hasDictIn K C = true
  ms : mroIn K C (.ref C) = some true
  su : ks_superIn K C C "__init__" = some (some (.builtin "ValueError.__init__"))
  op : nsIn K cStatics "thirdparty.any" = some none
  fn : ∃ (oc : Value) (od : Option Addr) (qual : Str) (doc pm : Value) (an : Option Addr) (cda cc : Addr) (ct : Value) (osl : Array (Option Value)) (p1 p2 p0 p1' p2' p3 p4 p5 p6 p7 p8 q1 q2 q3 q4 : Pos),
    K.lookup fI = some ⟨oc, od, .func (ksFn "__init__" qual (eArgs a p1 p2) (eBody a txt p0 p1' p2' p3 p4 p5 p6 p7 p8 q1 q2 q3 q4) (eScope a) .none .none doc pm an (.ref cda) ct cc), osl⟩ ∧ codeIn K (.ref cda) qual = true ∧ (p2'.endLine == p7.line) = true ∧
    (∃ (ccl : Value) (cdd : Option Addr) (vs : Array Value) (ccs : Array (Option Value)) (file : Str) (tf : Tok), K.lookup cda = some ⟨ccl, cdd, .fields vs, ccs⟩ ∧ vs[2]? = some (.str file tf) ∧ ((prog.main.file : Str) == file) = true) ∧
    ∃ (cl : Value) (cld : Option Addr) (csl : Array (Option Value)), K.lookup cc = some ⟨cl, cld, .cell (some (.ref C)), csl⟩
  topS : (prog.main.scope.names.lookup ("super" : Str)).isSome = false
/-- a name of the class's own field: not one of the names that __init__ has beside -/
def NmOk (a : Str) : Prop := a = "at" ∨ a = "what"
/-- what an error tells: a short text or a small int -/
inductive Small : Value → Prop
  | str (y : Str) (t : Tok) : y.length ≤ 1000 → Small (.str y t)
  | int (i : Int) (t : Tok) : i.natAbs.log2 < 1000 → Small (.int i t)

theorem ev1 (p0 p1' p2' p7 : Pos) (env : Env) (e : Expr) (hp : (p2'.endLine == p7.line) = true) (hs : starEach (e :: []) env = [(false, eval e env)]) : eval (.Call (.Attribute (.Call (.Name "super" p0) [] [] p1') "__init__" p2') [e] [] p7) env = (do
      let ov ← attributeBase (.Call (.Name "super" p0) [] [] p1') "__init__" env (eval (.Call (.Name "super" p0) [] [] p1') env)
      standAt p2'.atName
      let (f, first) ← holding [ov] (getMethod ov "__init__" (do return (← importBound (.Call (.Name "super" p0) [] [] p1') env).getD true))
      callWith p7 f first (backTo p7 (starEach [e] env)) []) := by
  show (do
    let ov ← attributeBase (.Call (.Name "super" p0) [] [] p1') "__init__" env (eval (.Call (.Name "super" p0) [] [] p1') env)
    standAt p2'.atName
    methodCall (.Call (.Name "super" p0) [] [] p1') "__init__" p2' p7 env ov 1 (backTo p7 (starEach [e] env)) (backToKw p7 (keywordEach [] env))) = _
  have h1 : methodCallForm 1 (backTo p7 (starEach [e] env)) (backToKw p7 (keywordEach [] env)) = true := by rw [hs]; rfl
  have h2 : methodCallPos true (.Call (.Name "super" p0) [] [] p1') env p2' p7 = pure p7 := by
    unfold methodCallPos
    rw [hp]
    rfl
  congr 1
  funext ov
  congr 1
  funext u
  unfold methodCall
  rw [h1, h2]
  congr 1

/-! the wrapper's call, by the heap -/
section
variable {prog : Program} {w : World} {A : Around} {E : Value → Shared → Prop} {h : Heap} {g : Array GenState} {d : Drawn} {t : Nat} {os : OsState}
variable {nm q : Str} {C N : Addr} {bs bm : List Value} {hdct : Bool} {sn : List Str} {sub : List Value} {ab : Bool} {col : Option Bool} {dd : Option Addr} {k0 k1 k2 k3 k5 : Option Value}
theorem call_mw {u e t0 : Addr} {rest : List Value} {Q : Value → Shared → Prop}
    (hC : h.get? C = some (excClassObj nm q C N bs bm hdct sn sub ab col dd k0 k1 k2 k3 k5 "ValueError.__new__")) (he : h.get? e = some (excO C t0)) (hu : h.get? u = some (kxs_mw "ValueError.__init__" e)) (hrest : rest.length ≤ sizeLine)
    (hq : ∀ h' t1, (∀ b o, b ≠ e → h.get? b = some o → h'.get? b = some o) → h'.get? e = some (excO C t1) → Q .none ⟨h', g, d, t, os⟩) :
    wpAny (model prog w) A (call (.ref u) rest) Q E ⟨h, g, d, t, os⟩ := by
  refine wpAny_call (codeAny_of_tree ?_)
  show wpAny _ A.in1 (callAny (.ref u) ⟨rest, []⟩) _ _ _
  simp only [callAny]
  refine wpAny_bind (wpAny_load hu ?_)
  simp only [kxs_mw, show (Value.type "method-wrapper" == Value.type "method" || Value.type "method-wrapper" == Value.type "builtin_function_or_method" || Value.type "method-wrapper" == Value.type "method-wrapper") = true by decide, if_true]
  refine KFB.if_so (by decide) ?_
  refine wpAny_bind (check_bound_init F.excBase_ValueError.toExcCallFacts hC he rfl ?_)
  refine wpAny_bind (wpAny_pure (wpAny_pure ?_))
  refine ⟨Code.quiet_builtin _ (by decide +kernel), codeAny_builtin F.excBase_ValueError.initEntry ?_⟩
  rw [Around.under_plainId F.excBase_ValueError.init.plain _]
  wp_walk
  refine hq _ h.objs.size (fun b o hb ho => ?_) ?_
  · rw [Heap.get?_update_other _ _ (Ne.symm hb)]
    exact Heap.get?_push_of_some _ ho
  · rw [Heap.get?_update_self _ (Heap.get?_push_of_some _ he) rfl]
    rfl
end
end EX
end

section
set_option Elab.async false
set_option linter.all false
set_option maxRecDepth 100000
set_option maxHeartbeats 4000000
namespace EX
open PySem PySem.W PySem.Calls PyProof.Rows PySem.HandSPX
/-- what __init__ leaves of a fresh exception at x -/
structure InitEnd (h h' : Heap) (x C dx t1 : Addr) (a : Str) (v : Value) : Prop where
  keep : ∀ b o, b ≠ x → h.get? b = some o → h'.get? b = some o
  obj : h'.get? x = some { cls := .ref C, dict := some dx, data := .fields #[.ref t1, .none, .none, .none, .bool false, .none] }
  dbig : h.objs.size ≤ dx
  dne : dx ≠ x
  ns : h'.Ns1 dx (fun y => if y = a then some v else none)
section
variable {prog : Program} {w : World} {A : Around} {E : Value → Shared → Prop} {R : Result → Shared → Prop} {s : Shared} {K : Frag} {mg : Str → Option Value} {base : Heap} {C fI : Addr} {a txt : Str}
theorem ldA {M : Model} {A : Around} {E : Value → Shared → Prop} {s : Shared} {env : Env} {m : Str → Option Value} {x : Str} {pos : Pos} {v : Value} {Q : Value → Shared → Prop} (hn : s.heap.Ns env.locals m) (hv : m x = some v) (h : Q v s)
    (hk : env.scope.kind = .function) (hl : env.kindOf x = some .local) (hd : (x == ("__debug__" : Str)) = false) : wpAny M A (eval (.Name x pos) env) Q E s := wpAny_Name (wpAny_loadName_local hk hl hn hv h) hd
theorem fmt_small {v : Value} (sm : Small v) {Q : Value → Shared → Prop} (h : ∀ y t s', y.length ≤ 2000 → (∃ tk, s' = { s with toks := tk }) → Q (.str y t) s') : wpAny (model prog w) A (formatField v Str.empty) Q E s := by
  cases sm with
  | str y t hy => exact wpAny_formatField_str (h _ _ _ (by omega) ⟨_, rfl⟩) (h _ _ _ (by omega) ⟨_, rfl⟩) (by rw [sizeLine_eq]; omega)
  | int i t hi =>
    refine wpAny_formatField_int (by omega) (h _ _ _ ?_ ⟨_, rfl⟩)
    have e := int_text_length_le (k := 1000) (by decide) hi
    show (Str.ofString (toString i)).length ≤ 2000
    rw [PySem.ofString_length]
    omega
theorem err_init (T : ErrTxt prog K C fI a txt) (ht : txt.length ≤ 1000) (na : NmOk a) (M : L2.Mod K mg base) (hsup : mg "super" = none) (kb : ∀ b o, base.get? b = some o → s.heap.get? b = some o) (hroom : A.depth < recursionLimit)
    {x t0 : Addr} {v : Value} (hx : s.heap.get? x = some (excO C t0)) (nx : K.lookup x = none) (sm : Small v) (hq : ∀ h' tk dx t1, InitEnd s.heap h' x C dx t1 a v → R (.ok (.ret .none)) { s with heap := h', toks := tk }) :
    codeAny (model prog w) A (.call (.ref fI) ⟨[.ref x, v], []⟩) R s := by
  obtain ⟨oc, od, qual, doc, pm, an, cda, cc, ct, osl, p1, p2, p0, p1', p2', p3, p4, p5, p6, p7, p8, q1, q2, q3, q4, lf, hcd, hp2, ⟨ccl, cdd, vs, ccs, file, tf, lcd, hvs, hfile⟩, cl, cld, csl, lcc⟩ := T.fn
  obtain ⟨nm, q, N, bs, bm, sn, sub, ab, col, dd, k0, k1, k2, k3, k5, hC, hbm⟩ := T.cls
  have hcl : clsIn K C = some { name := nm, bases := bs, mro := .ref C :: bm, ns := N, qualname := q, hasDict := true, slotNames := sn, subclasses := sub, abstract := ab, collection := col, hasDel := false } := by unfold clsIn; rw [hC] <;> rfl
  have X : K.In s.heap := M.kin.keeps kb
  have lim : s.heap.NoLimit := M.nolimit.keeps kb
  have hG : s.heap.Ns mainGlobals mg := M.glob.keeps kb
  obtain ⟨mb, hB0, hB1⟩ := M.blt
  have hB : s.heap.Ns builtinsNs mb := hB0.keeps kb
  have ksf : (eScope a).names.lookup ("self" : Str) = some .local := by rcases na with rfl | rfl <;> rfl
  have ka : (eScope a).names.lookup a = some .local := by rcases na with rfl | rfl <;> rfl
  have kc : (eScope a).names.lookup ("__class__" : Str) = some .free := by rcases na with rfl | rfl <;> rfl
  have kss : (eScope a).names.lookup ("super" : Str) = some .globalImplicit := by rcases na with rfl | rfl <;> rfl
  have kdb : (a == ("__debug__" : Str)) = false := by rcases na with rfl | rfl <;> decide
  refine ks_codeAny_call_defAt (fd := ksFn "__init__" qual (eArgs a p1 p2) (eBody a txt p0 p1' p2' p3 p4 p5 p6 p7 p8 q1 q2 q3 q4) (eScope a) .none .none doc pm an (.ref cda) ct cc) (body := eBody a txt p0 p1' p2' p3 p4 p5 p6 p7 p8 q1 q2 q3 q4)
    (binds := [("self", .ref x), (a, v)]) hroom (X _ _ lf) rfl lim (codeRec_of X hcd) rfl (BindsTo.of_eq ?hb) ?hcell ?hloc (fun h₁ hns k₁ => ?_) rfl rfl rfl
  case hb =>
    rcases na with rfl | rfl <;> first | rfl | with_unfolding_all rfl
  case hcell =>
    show ∀ y ∈ (eScope a).names, y.2 ≠ .cell
    rcases na with rfl | rfl <;> decide
  case hloc =>
    intro y hy
    rcases List.mem_cons.mp hy with rfl | hy
    · exact ksf
    rcases List.mem_cons.mp hy with rfl | hy
    · exact ka
    · cases hy
  have vself : (fun y => ([("self", Value.ref x), (a, v)] : List (Str × Value)).reverse.lookup y) "self" = some (.ref x) := by rcases na with rfl | rfl <;> rfl
  have va : (fun y => ([("self", Value.ref x), (a, v)] : List (Str × Value)).reverse.lookup y) a = some v := by rcases na with rfl | rfl <;> rfl
  generalize (fun y => ([("self", Value.ref x), (a, v)] : List (Str × Value)).reverse.lookup y) = m at hns vself va
  show PySem.wpAt _ _ (.func (eBody a txt p0 p1' p2' p3 p4 p5 p6 p7 p8 q1 q2 q3 q4) (ksEnv qual (eScope a) s.heap.objs.size fI (.ref cda) cc)) (execs _ (ksEnv qual (eScope a) s.heap.objs.size fI (.ref cda) cc)) _ _ _
  have X1 : K.In h₁ := X.keeps k₁
  have hx1 := k₁ _ _ hx
  have es1 : starEach [Expr.JoinedStr [.Constant (.str txt) 0 p3, .FormattedValue (.Name a p4) (-1) none p5] p6] (ksEnv qual (eScope a) s.heap.objs.size fI (.ref cda) cc) = [(false, eval (Expr.JoinedStr [.Constant (.str txt) 0 p3, .FormattedValue (.Name a p4) (-1) none p5] p6) (ksEnv qual (eScope a) s.heap.objs.size fI (.ref cda) cc))] := rfl
  refine ks_wpAt_execs_cons (ks_wpAt_Expr_any (ks_wpAt_MethodCall ?_ (he := ev1 _ _ _ _ _ _ hp2 es1)))
  refine ks_wpAt_super_base (env := ksEnv qual (eScope a) s.heap.objs.size fI (.ref cda) cc) kss kc (by decide) rfl (X1 _ _ lf) rfl rfl rfl (X1 _ _ lcd) rfl hvs hfile T.topS ?_
  refine ks_loadName_global rfl kss (loadGlobal_builtin (env := ksEnv qual (eScope a) s.heap.objs.size fI (.ref cda) cc) (hG.keeps k₁) hsup (hB.keeps k₁) ((hB1 _ (by decide)).trans (by decide +kernel)) ⟨rfl, ?_⟩)
  refine wpAny_loadName_free rfl kc rfl ⟨_, X1 _ _ lcc, rfl⟩ ?_
  refine wpAny_loadName_local rfl ksf hns vself ?_
  refine ks_wpAny_isType_cls (X1 _ _ hC) rfl ⟨rfl, ?_⟩
  refine ks_wpAny_call_super (C := C) (X1 _ _ hC) rfl hx1 rfl (fun c z => nomatch z) (looks_mroIn X1 T.ms) (fun h₂ hso k₂ => ?_)
  have X2 : K.In h₂ := X1.keeps k₂
  have hx2 := k₂ _ _ hx1
  have I2 : InstAt h₂ x (excO C t0) C none := ⟨hx2, rfl, rfl, trivial⟩
  have hsu := T.su
  unfold ks_superIn at hsu
  rw [hcl] at hsu
  refine kxs_getMethod kxs_ValueError hso (looks_opaque X2 T.op) (l₀ := .ref C :: bm) ?_ rfl X2 hsu (I2.type.andThen (looks_subIn X2 T.veC)) (ks_ne X2 I2 hcl) (by decide) ?_
  · exact fun A Q E s k q => wpAny_bind ((looks_clsIn X2 hcl) A _ E s k (wpAny_pure q))
  rw [es1]
  refine kxs_callWith (i := "ValueError.__init__") (x := x) rfl (evalArgs_plain (spliced_cons ?_))
  -- the text of the error: put together, never asked for
  have hns2 : h₂.Ns s.heap.objs.size m := hns.keeps k₂
  obtain ⟨h₃, e3⟩ : ∃ h₃, h₃ = h₂.push (kxs_mw "ValueError.__init__" x) := ⟨_, rfl⟩
  have k₃ : ∀ b o, h₂.get? b = some o → h₃.get? b = some o := fun b o e => by rw [e3]; exact Heap.get?_push_of_some _ e
  have hu : h₃.get? h₂.objs.size = some (kxs_mw "ValueError.__init__" x) := by rw [e3]; exact Heap.get?_push_at rfl rfl
  rw [← e3]
  have hns3 : h₃.Ns s.heap.objs.size m := hns2.keeps k₃
  have X3 : K.In h₃ := X2.keeps k₃
  have hx3 := k₃ _ _ hx2
  refine wpAny_JoinedStr (pos := p6) ?_
  refine wpAny_Constant_str ⟨txt, _, rfl, ?_, ?_⟩
  · rw [strLen_append, sizeLine_eq]
    show 0 + txt.length ≤ _
    omega
  refine wpAny_FormattedValue_plain (ldA (m := m) hns3 va (fmt_small sm fun y t s' hy ⟨tk, es'⟩ => ?_) rfl ka kdb)
  subst es'
  refine ⟨y, t, rfl, ?_, ?_, ?_⟩
  · rw [strLen_append, strLen_append, sizeLine_eq]
    show 0 + txt.length + y.length ≤ _
    omega
  · rw [strLen_append, strLen_append, sizeLine_eq]
    show 0 + txt.length + y.length ≤ _
    omega
  refine spliced_nil ⟨hu, ?_⟩
  show wpAny _ _ (call (.ref h₂.objs.size) [_]) _ _ _
  refine call_mw (X3 _ _ hC) hx3 hu (by rw [sizeLine_eq]; exact (by decide : 1 ≤ 16777216)) fun h₄ t1 k₄ hx4 => ?_
  -- self.a = a
  have nL : s.heap.objs.size ≠ x := Nat.ne_of_gt (Heap.lt_size hx)
  have X4 : K.In h₄ := fun b o e => k₄ b o (fun z => by rw [z, nx] at e; cases e) (X3 _ _ e)
  have hns4 : h₄.Ns s.heap.objs.size m := by
    obtain ⟨oL, es, ep, hL, r⟩ := hns3
    exact ⟨oL, es, ep, k₄ _ _ nL hL, r⟩
  show PySem.wpAt _ _ _ _ _ _ _
  refine ks_wpAt_execs_cons (ks_wpAt_Assign_Attr ?_)
  refine wpAt_of_wpAny (ldA (m := m) hns4 va (ldA (m := m) hns4 vself ?_ rfl ksf (by decide)) rfl ka kdb)
  refine set_plain X4 (ox := excO C t1) (od := none) ⟨hx4, rfl, rfl, trivial⟩ T.sa ?_
  refine exc_osa X4 hx4 hcl (show refsVE (.ref C :: bm) = true from hbm) rfl T.noN (fun h₅ tk₅ dx k₅ dn dne hx₅ hn₅ => ?_)
  show PySem.wpAt _ _ _ (execs [] _) _ _ _
  refine wpAt_of_wpAny (wpAny_execs_nil (hq h₅ tk₅ dx t1 ⟨fun b o hb e => k₅ b o hb (k₄ b o hb (k₃ b o (k₂ b o (k₁ b o e)))), hx₅, ?_, dne, hn₅⟩))
  have z1 : s.heap.objs.size < h₁.objs.size := hns.lt
  have z2 : s.heap.objs.size < h₄.objs.size := hns4.lt
  exact Nat.le_trans (Nat.le_of_lt z2) dn
end
end EX
end

section
set_option Elab.async false
set_option linter.all false
set_option maxRecDepth 100000
set_option maxHeartbeats 4000000
namespace EX
open PySem PySem.W PySem.Calls PyProof.Rows PySem.HandSPX
/-- an own error, made: at e, its dict at d -/
structure ErrMade (h h' : Heap) (e C d : Addr) (a : Str) (v : Value) : Prop where
  old : ∀ b o, h.get? b = some o → h'.get? b = some o
  enew : h.objs.size ≤ e
  ebj : ∃ oe us, h'.get? e = some oe ∧ oe.cls = .ref C ∧ oe.dict = some d ∧ oe.data = .fields us ∧ us[1]? = some .none ∧ us[2]? = some .none
  dnew : h.objs.size ≤ d
  apart : d ≠ e
  fld : h'.Ns1 d (fun y => if y = a then some v else none)
section
variable {prog : Program} {w : World} {A : Around} {E : Value → Shared → Prop} {R : Result → Shared → Prop} {s : Shared} {K : Frag} {mg : Str → Option Value} {base : Heap} {C fI : Addr} {a txt : Str}
theorem err_made (T : ErrTxt prog K C fI a txt) (ht : txt.length ≤ 1000) (na : NmOk a) (M : L2.Mod K mg base) (hsup : mg "super" = none) (kb : ∀ b o, base.get? b = some o → s.heap.get? b = some o) (hroom : A.depth + 1 < recursionLimit)
    {v : Value} (sm : Small v) (hq : ∀ h' tk e d, ErrMade s.heap h' e C d a v → R (.ok (.ret (.ref e))) { s with heap := h', toks := tk }) : codeAny (model prog w) A (.call (.ref C) ⟨[v], []⟩) R s := by
  obtain ⟨nm, q, N, bs, bm, sn, sub, ab, col, dd, k0, k1, k2, k3, k5, hC, hbm⟩ := T.cls
  have X : K.In s.heap := M.kin.keeps kb
  obtain ⟨h0, g, dr, tk, os⟩ := s
  have up : ∀ b o, h0.get? b = some o → ((h0.push (kdv_tup [v])).push (excO C h0.objs.size)).get? b = some o := fun b o e => Heap.get?_push_of_some _ (Heap.get?_push_of_some _ e)
  have at1 : ((h0.push (kdv_tup [v])).push (excO C h0.objs.size)).get? (h0.objs.size + 1) = some (excO C h0.objs.size) := by heap_get
  have fresh : K.lookup (h0.objs.size + 1) = none := by
    cases e : K.lookup (h0.objs.size + 1) with
    | none => rfl
    | some o =>
      have z := Heap.lt_size (show h0.get? (h0.objs.size + 1) = some o from X _ _ e)
      exact absurd (Nat.lt_of_succ_lt z) (Nat.lt_irrefl _)
  refine call_own F.excBase_ValueError (fun Y => refsVE_contains Y bm hbm) (X _ _ hC) (looks_findIn X T.iC) (fun self => bind_fn X self T.tC) (by rw [sizeLine_eq]; exact (by decide : 1 ≤ 16777216)) ?_
  refine err_init (s := ⟨(h0.push (kdv_tup [v])).push (excO C h0.objs.size), g, dr, tk, os⟩) T ht na M hsup (fun b o e => up b o (kb b o e)) hroom at1 fresh sm fun h' tk' dx t1 ie => ?_
  have sz : ((h0.push (kdv_tup [v])).push (excO C h0.objs.size)).objs.size = h0.objs.size + 1 + 1 := by rw [Heap.size_push, Heap.size_push]
  have dbig := ie.dbig
  have dbig' : h0.objs.size + 1 + 1 ≤ dx := by rw [← sz]; exact dbig
  exact ⟨rfl, hq h' tk' (h0.objs.size + 1) dx ⟨fun b o e => ie.keep b o (Nat.ne_of_lt (Nat.lt_succ_of_lt (Heap.lt_size e))) (up b o e), Nat.le_succ _, ⟨_, _, ie.obj, rfl, rfl, rfl, rfl, rfl⟩, Nat.le_trans (Nat.le_trans (Nat.le_succ _) (Nat.le_succ _)) dbig', ie.dne, ie.ns⟩⟩
end
end EX
namespace L2
open PySem PySem.Spec PyProof.Rows EX
theorem relO_one {a : Str} {v : V} {u : Value} (r : RelV v u) (f : Str) : RelO (List.lookup f [(a, v)]) (if f = a then some u else none) := by
  rw [lookup_put]
  by_cases c : f = a
  · rw [if_pos c, if_pos c]
    exact r
  · rw [if_neg c, if_neg c]
    exact True.intro
inductive SmallV : V → Prop
  | str (y : Str) : y.length ≤ 1000 → SmallV (.str y)
  | int (i : Int) : i.natAbs.log2 < 1000 → SmallV (.int i)
theorem SmallV.of {v : V} {u : Value} (h : SmallV v) (r : RelV v u) : Small u := by
  cases h with
  | str y h =>
    obtain ⟨t, rfl⟩ := r
    exact .str y t h
  | int i h =>
    obtain ⟨t, rfl⟩ := r
    exact .int i t h
section
variable {X : Cx} {C fI : Addr} {a txt x : Str}
/-- C(e), C an own error's class; its field a -/
def tMkErr (C : Addr) (a : Str) (ta : TA) : St → Hp → XK → Prop := fun σ H Q => ta σ H fun vs H1 => ∃ v, vs = [v] ∧ SmallV v ∧ ∀ d, H1 d = none → Q (.ref C) (some d) (upd H1 d (.xd [(a, v)]))
theorem pmk_err {e : Expr} {ta : TA} {p pos : Pos} {k : Nat} (T : ErrTxt X.prog X.K C fI a txt) (ht : txt.length ≤ 1000) (na : NmOk a) (hsup : X.mg "super" = none) (gC : X.mg x = some (.ref C)) (hr : Room k X.A) (ha : PA X [e] ta) (hg : Gl X x)
    (hdb : (x == ("__debug__" : Str)) = false := by decide) (he : starEach (e :: []) X.env = (false, eval e X.env) :: starEach [] X.env := by rfl) (hpl : (backTo pos (starEach [] X.env)).any (·.1) = false := by rfl) :
    L2N.PMk X (.Call (.Name x p) [e] [] pos) (tMkErr C a ta) := by
  intro pins s σ H Q I h
  refine wpAny_Call_Name_kw (ld_glob I hg gC ?_ hdb)
  refine PySem.W.callWith_K (h₀ := X.base) I.ok.mod.kin T.kC (thn (ha.run pos pins s σ H _ I h) fun us s1 ⟨vs, H1, I1, r1, v, ev, sm, q1⟩ => ⟨I1.kIn, ?_⟩) he hpl
  subst ev
  cases r1 with
  | @cons _ u _ ur rv rn =>
    cases rn
    show wpAny _ _ (call (.ref C) [u]) _ _ _
    obtain ⟨h0, g, dr, tk, os⟩ := s1
    refine wpAny_call (err_made T ht na I1.mod hsup I1.bk (by have := hr.dp; omega) (sm.of rv) fun h' tk' e d M => ?_)
    show L2N.MkP X pins σ Q (.ref e) ⟨h', g, dr, tk', os⟩
    obtain ⟨oe, fv, e1, e2, e3, e4, e5, e6⟩ := M.ebj
    obtain ⟨G, g1, g2⟩ := restrict h' fun b => decide (b ≠ e)
    have gk : ∀ b, b ≠ e → G.get? b = h'.get? b := fun b hb => g1 b (decide_eq_true hb)
    have ge : G.get? e = none := g2 e (by simp)
    have old : ∀ b o, h0.get? b = some o → G.get? b = some o := fun b o q => (gk b (Nat.ne_of_lt (Nat.lt_of_lt_of_le (Heap.lt_size q) M.enew))).trans (M.old b o q)
    have ok1 : ObjOk X.prog X.w (upd H1 d (.xd [(a, v)])) G d (.xd [(a, v)]) := ⟨_, M.fld.at (fun o q => (gk d M.apart).trans q), fun f => relO_one rv f⟩
    have J : Inv X pins σ (upd H1 d (.xd [(a, v)])) ⟨G, g, dr, tk', os⟩ := I1.laid (t' := tk') old M.dnew ok1
    refine ⟨e, oe, fv, ⟨G, g, dr, tk', os⟩, _, .ref C, some d, rfl, J, fun b o q => ?_, ge, e1, ⟨e2, e3, fun us hu => by rw [e4] at hu; cases hu; exact e6⟩, e4, e5, ?_, rfl, I1.bare, raises_own T.exC T.tyC, q1 d (I1.hok.fresh M.dnew)⟩
    · by_cases hb : b = e
      · have q' : G.get? b = some o := q
        rw [hb, ge] at q'
        cases q'
      · exact (gk b hb).symm.trans q
    · rw [upd_ne (Ne.symm M.apart)]
      exact I1.hok.fresh M.enew
/-- raise C(e) -/
def tRaiseErr (C : Addr) (a : Str) (W : WX) (ta : TA) : TS := fun _ σ H => tMkErr C a ta σ H fun cls d H' => W cls d σ H'
theorem ps_raiseErr {e : Expr} {ta : TA} {W : WX} {p pos pos2 : Pos} {k : Nat} (hc : X.calm = true) (tk : L2N.Takes X W) (T : ErrTxt X.prog X.K C fI a txt) (ht : txt.length ≤ 1000) (na : NmOk a) (hsup : X.mg "super" = none) (gC : X.mg x = some (.ref C)) (hr : Room k X.A) (ha : PA X [e] ta) (hg : Gl X x)
    (hdb : (x == ("__debug__" : Str)) = false := by decide) (he : starEach (e :: []) X.env = (false, eval e X.env) :: starEach [] X.env := by rfl) (hpl : (backTo pos (starEach [] X.env)).any (·.1) = false := by rfl) :
    PS X (.Raise (some (.Call (.Name x p) [e] [] pos)) none pos2) (tRaiseErr C a W ta) := L2N.ps_raise hc tk (pmk_err T ht na hsup gC hr ha hg hdb he hpl)
/-- the error that the suite holds, at e0 (its class cls, its dict d): its field -/
def tErrFld (C : Addr) (a : Str) (e0 : Addr) (cls : Value) (d : Option Addr) (te : TE) : TE := fun σ H Q => te σ H fun x H1 => x = .ref e0 ∧ cls = .ref C ∧ ∃ (dd : Addr) (v : V), d = some dd ∧ H1 dd = some (.xd [(a, v)]) ∧ Q v H1
theorem pe_errFld {e0 : Addr} {oe : Obj} {cls : Value} {d : Option Addr} {pn : List (Addr × Obj)} {e : Expr} {te : TE} {pos : Pos} (T : ErrTxt X.prog X.K C fI a txt) (hz : Zc cls d oe) (hf : ∃ vs, oe.data = .fields vs) (he : PE (X.suite e0 ((e0, oe) :: pn)) e te)
    (hb : attributeBase e a X.env (eval e X.env) = eval e X.env := by rfl) : PE (X.suite e0 ((e0, oe) :: pn)) (.Attribute e a pos) (tErrFld C a e0 cls d te) := by
  refine ⟨fun pins s σ H Q I h => attr_of hb (thn (he.run pins s σ H _ I h) fun u s1 hh => ?_)⟩
  obtain ⟨x, H1, I1, rx, ex, ec, dd, v, ed, ea, q⟩ := hh
  subst ex
  obtain rfl : u = Value.ref e0 := rx
  subst ec
  subst ed
  obtain ⟨ha, _⟩ := I1.pin (e0, oe) (List.mem_append_left _ List.mem_cons_self)
  obtain ⟨vs, hd⟩ := hf
  have ox : ObjOk X.prog X.w H1 s1.heap dd (.xd [(a, v)]) := I1.hok dd _ ea
  obtain ⟨mA, hns, hr⟩ := ox
  obtain ⟨od, ho, hl⟩ := lookIn_ns hns
  have l : List.lookup a [(a, v)] = some v := by rw [lookup_put, if_pos rfl]
  obtain ⟨u, hu, ru⟩ := RelO.some_of (v := v) (o := mA a) (by rw [← l]; exact hr a)
  have J : PySem.W.InstAt s1.heap e0 oe C (some od) := ⟨ha, hz.1, by unfold PySem.W.notCls; rw [hd] <;> rfl, by rw [hz.2]; exact ho⟩
  exact HandSPX.exc_get I1.kIn J T.ga T.gg T.exC (PySem.W.findObj_own T.hdC T.noN rfl (by rw [hl, hu])) (handed_of ru) ⟨v, H1, I1.tok _, ru, q⟩
end
end L2
end

section
set_option Elab.async false
set_option linter.all false
set_option maxRecDepth 100000
set_option maxHeartbeats 4000000
namespace DL
open PySem PySem.Spec PyProof.Rows L2
open Evl (Ex)
/-! ### things: their fields -/
def putNs (f : Str) : List Str → List Str
  | [] => [f]
  | n :: ns => if n == f then n :: ns else n :: putNs f ns
def putDs (f : Str) (d : D) : List Str → List D → List D
  | [], _ => [d]
  | _, [] => [d]
  | n :: ns, x :: l => if n == f then d :: l else x :: putDs f d ns l
theorem putF_ns (f : Str) (y : V) : ∀ fs : List (Str × V), (putF f y fs).map (·.1) = putNs f (fs.map (·.1))
  | [] => rfl
  | (g, x) :: r => by
    show (if g = f then (g, y) :: r else (g, x) :: putF f y r).map (·.1) = (if g == f then g :: r.map (·.1) else g :: putNs f (r.map (·.1)))
    by_cases c : g = f
    · rw [if_pos c, if_pos (beq_iff_eq.mpr c)]
      rfl
    · rw [if_neg c, if_neg (fun z => c (beq_iff_eq.mp z)), List.map_cons, putF_ns f y r]
theorem putF_ds {K : PySem.W.Frag} {S : Hp} {f : Str} {y : V} {d : D} (h : Rep K S y d) : ∀ {fs : List (Str × V)} {l : List D}, Reps K S (fs.map (·.2)) l → Reps K S ((putF f y fs).map (·.2)) (putDs f d (fs.map (·.1)) l)
  | [], _, r => by
    cases r
    exact .cons h .nil
  | (g, x) :: fs, _, r => by
    cases r with
    | cons r1 r2 =>
      rename_i d1 ds
      show Reps K S ((if g = f then (g, y) :: fs else (g, x) :: putF f y fs).map (·.2)) (if g == f then d :: ds else d1 :: putDs f d (fs.map (·.1)) ds)
      by_cases c : g = f
      · rw [if_pos c, if_pos (beq_iff_eq.mpr c)]
        exact .cons h r2
      · rw [if_neg c, if_neg (fun z => c (beq_iff_eq.mp z))]
        exact .cons r1 (putF_ds h r2)
/-- name.f, the name's own thing -/
def dFldF (C0 : Addr) (i : Nat) (f : Str) : DM := fun env Q => match env[i]? with
  | some (some (.fix _ (.ins C _ ns l))) => C = C0 ∧ ∃ d, lookF f ns l = some d ∧ Q env (.val d)
  | _ => False
/-- name.f = e -/
def dPutA (C0 : Addr) (i : Nat) (f : Str) (m : DM) : DSM := fun E env => dKeep m env fun env1 r => match r, env1[i]? with
  | .val d, some (some (.fix p (.ins C dx ns l))) => C = C0 ∧ ns.length < 1000 ∧ E.nx (env1.set i (some (.fix p (.ins C dx (putNs f ns) (putDs f d ns l)))))
  | _, _ => False
/-- name.f op= e, plain ints -/
def dAugA (C0 : Addr) (i : Nat) (f : Str) (o : Int → Int → Int) (m : DM) : DSM := fun E env => match env[i]? with
  | some (some (.fix _ (.ins C1 _ ns l))) => C1 = C0 ∧ ∃ x, lookF f ns l = some (.int x) ∧ m env fun env1 r => match r, env1[i]? with
    | .val (.int y), some (some (.fix p (.ins C dx ns l))) => C = C0 ∧ ns.length < 1000 ∧ E.nx (env1.set i (some (.fix p (.ins C dx (putNs f ns) (putDs f (.int (o x y)) ns l)))))
    | _, _ => False
  | _ => False
section
variable {X : Cx} {a b : Expr} {ma mb : DM} {ta tb : TE} {i : Nat} {x f : Str} {xp tp pos : Pos} {C0 : Addr}
theorem de_fldF (hc : Cls X.K C0) (hn : NoAttr X.K C0 f) (hv : PE X a (tVar i)) (hb : attributeBase a f X.env (eval a X.env) = eval a X.env := by rfl) : DE X (.Attribute a f pos) (dFldF C0 i f) (tFld X.K (tVar i) f) := by
  refine ⟨pe_fld hv hb, fun B S H env σ Q Qv s q k => ?_⟩
  unfold dFldF at q
  split at q
  · rename_i p C dx ns l c
    obtain ⟨rfl, d, q1, q2⟩ := q
    obtain ⟨h1, h2, h3, o, h4, fs, rfl, rfl, h5⟩ := s.fix i p _ c
    obtain ⟨w, w1, w2⟩ := h5.lookF q1
    exact ⟨_, h1, p, _, dx, fs, w, rfl, h4, hc, hn, w1, k w H S env (.val d) ⟨s, .refl, .refl _, w2⟩ q2⟩
  · exact q.elim
theorem ds_putA (hc : Cls X.K C0) (hn : NoAttr X.K C0 f) (hv : PE X b (tVar i)) (ha : DE X a ma ta) (hs : swapsWith a (some (.Attribute b f tp)) pos.line X.env = pure false := by rfl) :
    DS X (.Assign [.Attribute b f tp] a pos) (dPutA C0 i f ma) (sFld X.K (tVar i) ta f) := by
  obtain ⟨t1, t2⟩ := de_keep ha
  refine ⟨ps_fld hv t1 hs, fun B S H env σ E D s q e => ?_⟩
  refine t2 B S H env σ _ _ s q fun v H1 S1 env1 r z q1 => ?_
  split at q1
  · rename_i d p C' dx ns l c
    obtain ⟨rfl, q1⟩ := q1
    obtain ⟨h1, h2, h3, o, h4, fs, rfl, rfl, h5⟩ := z.sr.fix i p _ c
    rw [List.length_map] at q1
    refine ⟨_, h1, p, C', dx, fs, rfl, h4, hc, hn, q1.1, ?_⟩
    exact e.nx S1 _ _ σ (z.sr.putF (l' := .ins C' dx (putNs f (fs.map (·.1))) (putDs f d (fs.map (·.1)) l)) c ⟨_, rfl, putF_ns f v fs, putF_ds z.res h5⟩) q1.2
  · exact q1.elim
theorem ds_augA {op : Operator} {o : Int → Int → Int} {rd : V → V → Hp → VK → Prop} (hc : Cls X.K C0) (hn : NoAttr X.K C0 f) (hv : PE X b (tVar i)) (ha : DE X a ma ta) (hop : InOp X op rd) (hrd : ∀ x y H Q, Q (.int (o x y)) H → rd (.int x) (.int y) H Q) :
    DS X (.AugAssign (.Attribute b f tp) op a pos) (dAugA C0 i f o ma) (sFldAug X.K (tVar i) ta rd f) := by
  refine ⟨ps_fldaug hv ha.1 hop, fun B S H env σ E D s q e => ?_⟩
  unfold dAugA at q
  split at q
  · rename_i p0 C dx0 ns0 l0 c0
    obtain ⟨rfl, x, q1, q2⟩ := q
    obtain ⟨g1, g2, g3, o', g4, fs0, rfl, rfl, g6⟩ := s.fix i p0 _ c0
    obtain ⟨w, w1, w2⟩ := g6.lookF q1
    cases w2
    refine ⟨_, g1, p0, _, dx0, fs0, _, rfl, g4, hc, hn, w1, ?_⟩
    refine ha.2 B S H env σ _ _ s q2 fun v H1 S1 env1 r z q3 => ?_
    split at q3
    · rename_i y p C' dx ns l c
      obtain ⟨rfl, q3⟩ := q3
      obtain ⟨h1, h2, h3, o', h4, fs, rfl, rfl, h5⟩ := z.sr.fix i p _ c
      cases Slt.ref g1 h1
      have zr : Rep X.K S1 v (.int y) := z.res
      cases zr
      rw [List.length_map] at q3
      refine hrd x y H1 _ ⟨dx, fs, h4, q3.1, ?_⟩
      exact e.nx S1 _ _ σ (z.sr.putF (l' := .ins C' dx (putNs f (fs.map (·.1))) (putDs f (.int (o x y)) (fs.map (·.1)) l)) c ⟨_, rfl, putF_ns f _ fs, putF_ds (.int _) h5⟩) q3.2
    · exact q3.elim
  · exact q.elim
end
end DL
end

section
set_option Elab.async false
set_option linter.all false
set_option maxRecDepth 100000
set_option maxHeartbeats 4000000
namespace DL
open PySem PySem.Spec PyProof.Rows L2
open Evl (Ex)
/-! ### promises of defs that may raise -/
theorem _root_.L2.Fun.okN {P : Program} {w : World} {K : PySem.W.Frag} {mg : Str → Option Value} {base : Heap} {x qual : Str} {st : Stmt} {f : Addr} {fd : FuncData} {N ps : List Str} {k : Nat} {sp : Sp} (F : Fun K x qual st f fd) (Sc : FnScope N ps (defScope st)) (len : ∀ vs H Q E, sp vs H Q E → vs.length = ps.length)
    (h : ∀ (cdv : Value) (A : Around) (outer : List Env) (s : Shared) (H : Hp) (vs : List V) (Q : VK) (E : XK), Room k (A.deeper (envOfC qual (defScope st) s.heap.objs.size f cdv)) → sp vs H Q E →
      ∃ t, PSs (cxOf (L2N.CX P w) P w K mg base N qual (defScope st) f cdv A outer s H E) (defBody st) t ∧ t { nx := fun _ H' => Q .non H', rt := Q } (L2.start N vs) H) : FnOk P w K mg base (L2N.CX P w) (k + 1) f fd ps sp := by
  obtain ⟨oc, od, kV, doc, pm, an, cdv, ct, osl, rfl, lk, hcd⟩ := F.ex
  exact fn_of lk hcd Sc len fun A outer s H vs Q E hr hsp => h cdv A outer s H vs Q E hr hsp
abbrev FME := List R → (R → Prop) → (Xd → Prop) → Prop
abbrev FMM := List R → FxL → (R → FxL → Prop) → (Xd → Prop) → Prop
/-- what an error leaves behind -/
def Lft (K : PySem.W.Frag) (S H : Hp) (pa : Option Addr) (Qx : Xd → Prop) (E : XK) : Prop := ∀ (x : Xd) (d : Addr) (v : V) (H' S' : Hp), DRet K S H pa S' H' (.val .non) .non → H d = none → S' d = none → H' d = some (.xd [(x.a, v)]) → Rep K S' v x.v → Qx x → E (.ref x.C) (some d) H'
def spE (K : PySem.W.Frag) (n : Nat) (F : FME) : Sp := fun vs H Q E => ∃ (S : Hp) (pa : Option Addr) (rs : List R) (Qd : R → Prop) (Qx : Xd → Prop), Ex S H ∧ (∀ a, pa = some a → PoolAt S H a) ∧ ArgR K S pa vs rs ∧ vs.length = n ∧ F rs Qd Qx ∧
  (∀ v H' S' r, DRet K S H pa S' H' r v → Qd r → Q v H') ∧ Lft K S H pa Qx E
/-- the first argument is a thing that it may change -/
def spM (K : PySem.W.Frag) (n : Nat) (F : FMM) : Sp := fun vs H Q E => ∃ (S : Hp) (pa : Option Addr) (p : Addr) (vs1 : List V) (rs : List R) (l : FxL) (Qd : R → FxL → Prop) (Qx : Xd → Prop), vs = .ref p :: vs1 ∧ Ex S H ∧ (∀ a, pa = some a → PoolAt S H a) ∧ ArgR K S pa vs1 rs ∧ vs.length = n ∧
  (S p = none ∧ pa ≠ some p ∧ ∃ o, H p = some o ∧ FxAt K S l o) ∧ F rs l Qd Qx ∧
  (∀ v H' S' r l', DRet K S (lose H p) pa S' H' r v → (S' p = none ∧ ∃ o, H' p = some o ∧ FxAt K S' l' o) → Qd r l' → Q v H') ∧ Lft K S (lose H p) pa Qx E
theorem spE.imp {K : PySem.W.Frag} {n : Nat} {F F' : FME} (h : ∀ rs Q Qx, F' rs Q Qx → F rs Q Qx) : ∀ vs H Q E, spE K n F' vs H Q E → spE K n F vs H Q E :=
  fun vs H Q E ⟨S, pa, rs, Qd, Qx, h1, h2, h3, h4, h5, h6⟩ => ⟨S, pa, rs, Qd, Qx, h1, h2, h3, h4, h _ _ _ h5, h6⟩
theorem spM.imp {K : PySem.W.Frag} {n : Nat} {F F' : FMM} (h : ∀ rs l Q Qx, F' rs l Q Qx → F rs l Q Qx) : ∀ vs H Q E, spM K n F' vs H Q E → spM K n F vs H Q E :=
  fun vs H Q E ⟨S, pa, p, vs1, rs, l, Qd, Qx, h0, h1, h2, h3, h4, h5, h6, h7⟩ => ⟨S, pa, p, vs1, rs, l, Qd, Qx, h0, h1, h2, h3, h4, h5, h _ _ _ _ h6, h7⟩
/-- what a body makes of the arguments -/
def bodyE (n : Nat) (m : DSM) : FME := fun rs Qd Qx => m { nx := fun _ => Qd (.val .non), rt := fun _ r => Qd r, xc := Qx } (startD n rs)
def startM (n : Nat) (p : Addr) (l : FxL) (rs : List R) : En := (some (.fix p l) :: rs.map R.nv) ++ List.replicate (n - (rs.length + 1)) none
def bodyM (n : Nat) (m : DSM) : FMM := fun rs l Qd Qx => ∀ p : Addr, m { nx := fun env => ∃ l', Has env 0 (.fix p l') ∧ Qd (.val .non) l', rt := fun env r => ∃ l', Has env 0 (.fix p l') ∧ Qd r l', xc := Qx } (startM n p l rs)
section
variable {K : PySem.W.Frag} {S H S' H' : Hp} {pa : Option Addr} {B : Bs} {env : En} {σ : L2.St}
theorem SR.entryM {vs : List V} {rs : List R} {N : List Str} {p : Addr} {l : FxL} {o : HO} (h1 : Ex S H) (h2 : ∀ a, pa = some a → PoolAt S H a) (h3 : ArgR K S pa vs rs) (p1 : S p = none) (p2 : pa ≠ some p) (p3 : H p = some o) (p4 : FxAt K S l o) : SR K ⟨S, lose H p, pa⟩ S H (startM N.length p l rs) (L2.start N (.ref p :: vs)) := by
  have hl := h3.length
  have get : ∀ i n, Has (startM N.length p l rs) i n → (i = 0 ∧ n = .fix p l) ∨ ∃ j, i = j + 1 ∧ (rs.map R.nv)[j]? = some (some n) := fun i n h => by
    cases i with
    | zero =>
      have h' : some (some (Nv.fix p l)) = some (some n) := h
      cases h'
      exact .inl ⟨rfl, rfl⟩
    | succ j =>
      have h' : (rs.map R.nv ++ List.replicate (N.length - (rs.length + 1)) none)[j]? = some (some n) := h
      rcases Nat.lt_or_ge j (rs.map R.nv).length with c | c
      · rw [List.getElem?_append_left c] at h'
        exact .inr ⟨j, rfl, h'⟩
      · rw [List.getElem?_append_right c] at h'
        have := List.mem_of_getElem? h'
        rw [List.mem_replicate] at this
        cases this.2
  have slt : ∀ i v, (V.ref p :: vs)[i]? = some v → Slt (L2.start N (.ref p :: vs)) i v := fun i v h => by
    unfold L2.start
    have c : i < ((V.ref p :: vs).map some).length := by
      rw [List.length_map]
      exact (List.getElem?_eq_some_iff.mp h).1
    show ((V.ref p :: vs).map some ++ List.replicate (N.length - (V.ref p :: vs).length) none)[i]? = some (some v)
    rw [List.getElem?_append_left c, List.getElem?_map, h]
    rfl
  have slt1 : ∀ j v, vs[j]? = some v → Slt (L2.start N (.ref p :: vs)) (j + 1) v := fun j v h => slt (j + 1) v h
  refine ⟨Ex.refl _, fun _ _ _ h => h, fun a o h _ => (lose_some h).2, fun a h => ?_, ?_, h1, fun i d h => ?_, fun i m h => ?_, fun i j m m2 q h _ _ _ => ?_, fun i h => ?_, fun a h => ⟨h2 a h, ?_⟩, fun i q m h => ?_, fun i j q m m2 _ h _ => ?_, fun i j q m m2 h h' => ?_, fun a h => congrArg headO (lose_ne (H := H) (fun c => p2 (by rw [← c]; exact h))).symm⟩
  · by_cases c : a = p
    · subst c
      exact lose_same
    · exact (lose_ne c).trans h
  · unfold startM L2.start
    simp only [List.length_append, List.length_map, List.length_replicate, List.length_cons]
    omega
  · rcases get i _ h with ⟨_, h⟩ | ⟨j, rfl, g⟩
    · cases h
    · obtain ⟨v, q1, ⟨d', e, q2⟩ | ⟨e, _⟩⟩ := h3.get g
      · cases e
        exact ⟨v, slt1 j v q1, q2⟩
      · cases e
  · rcases get i _ h with ⟨_, h⟩ | ⟨j, rfl, g⟩
    · cases h
    · obtain ⟨v, q1, ⟨d', e, q2⟩ | ⟨e, _⟩⟩ := h3.get g
      · cases e
      · cases e
  · rcases get i _ h with ⟨_, h⟩ | ⟨j, rfl, g⟩
    · cases h
    · obtain ⟨v, q1, ⟨d', e, q2⟩ | ⟨e, _⟩⟩ := h3.get g
      · cases e
      · cases e
  · rcases get i _ h with ⟨_, h⟩ | ⟨j, rfl, g⟩
    · cases h
    · obtain ⟨v, q1, ⟨d', e, q2⟩ | ⟨e, a, q2, q3⟩⟩ := h3.get g
      · cases e
      · subst q3
        exact ⟨a, q2, slt1 j _ q1⟩
  · obtain ⟨_, l, cells, pos, big, seed, cnt, bud, k1, _⟩ := h2 a h
    exact ⟨_, (lose_ne (fun c => p2 (by rw [← c]; exact h))).trans k1⟩
  · rcases get i _ h with ⟨e, h⟩ | ⟨j, rfl, g⟩
    · cases h
      subst e
      exact ⟨slt 0 _ rfl, p1, lose_same, o, p3, p4⟩
    · obtain ⟨v, q1, ⟨d', e, q2⟩ | ⟨e, _⟩⟩ := h3.get g
      · cases e
      · cases e
  · rcases get j _ h with ⟨_, h⟩ | ⟨j', rfl, g⟩
    · cases h
    · obtain ⟨v, q1, ⟨d', e, q2⟩ | ⟨e, _⟩⟩ := h3.get g
      · cases e
      · cases e
  · rcases get i _ h with ⟨e, h⟩ | ⟨j1, rfl, g⟩
    · rcases get j _ h' with ⟨e', h'⟩ | ⟨j2, rfl, g⟩
      · rw [e, e']
      · obtain ⟨v, q1, ⟨d', e, q2⟩ | ⟨e, _⟩⟩ := h3.get g
        · cases e
        · cases e
    · obtain ⟨v, q1, ⟨d', e, q2⟩ | ⟨e, _⟩⟩ := h3.get g
      · cases e
      · cases e
/-- what stands behind a def's run -/
theorem SR.dret {S0 H0 : Hp} {r : R} {v : V} (s : SR K ⟨S0, H0, pa⟩ S' H' env σ) (h : RetR K ⟨S0, H0, pa⟩ S' H' r v) : DRet K S0 H0 pa S' H' r v :=
  ⟨s.ex0, s.ex, s.keep0, s.nw0, s.old0, fun a e => (s.pool a e).1, s.pin, h⟩
end
section
variable {P : Program} {w : World} {K : PySem.W.Frag} {mg : Str → Option Value} {base : Heap} {x qual : Str} {st : Stmt} {f : Addr} {fd : FuncData} {N ps : List Str} {k : Nat} {m : DSM}
theorem lft_xc {A : Around} {outer : List Env} {s : Shared} {H : Hp} {E : XK} {cdv : Value} {scope : Scope} {S H0 : Hp} {pa : Option Addr} {Qx : Xd → Prop} (h : Lft K S H0 pa Qx E) : ∀ σ, XcOk (cxOf (L2N.CX P w) P w K mg base N qual scope f cdv A outer s H E) ⟨S, H0, pa⟩ σ Qx :=
  fun σ S' H' env d x v sr h0 h1 hd r q => wk_of (W := fun cls d _ H => E cls d H) (L2N.takes_of rfl rfl rfl rfl) (h x d v H' S' (sr.dret (r := .val .non) (v := .non) .non) h0 h1 hd r q)
theorem fn_dE (F : Fun K x qual st f fd) (Sc : FnScope N ps (defScope st))
    (hbody : ∀ (cdv : Value) (A : Around) (outer : List Env) (s : Shared) (H : Hp) (E : XK), Room k (A.deeper (envOfC qual (defScope st) s.heap.objs.size f cdv)) → ∃ t, DSs (cxOf (L2N.CX P w) P w K mg base N qual (defScope st) f cdv A outer s H E) (defBody st) m t) :
    FnOk P w K mg base (L2N.CX P w) (k + 1) f fd ps (spE K ps.length (bodyE N.length m)) := by
  refine F.okN Sc (fun vs H Q E h => ?_) fun cdv A outer s H vs Q E hr h => ?_
  · obtain ⟨S, pa, rs, Qd, Qx, h1, h2, h3, h4, h5⟩ := h
    exact h4
  · obtain ⟨S, pa, rs, Qd, Qx, h1, h2, h3, h4, h5, h6, h7⟩ := h
    obtain ⟨t, t1, t2⟩ := hbody cdv A outer s H E hr
    refine ⟨t, t1, t2 ⟨S, H, pa⟩ S H _ _ _ _ (SR.entry h1 h2 h3) h5 ?_⟩
    exact ⟨fun S' H' env σ s q => h6 _ _ _ (.val .non) (s.dret .non) q, fun S' H' env σ r v s q z => h6 _ _ _ _ (s.dret q) z, fun _ _ _ _ _ z => z.elim, fun _ _ _ _ _ z => z.elim, lft_xc h7⟩
theorem fn_dM (F : Fun K x qual st f fd) (Sc : FnScope N ps (defScope st))
    (hbody : ∀ (cdv : Value) (A : Around) (outer : List Env) (s : Shared) (H : Hp) (E : XK), Room k (A.deeper (envOfC qual (defScope st) s.heap.objs.size f cdv)) → ∃ t, DSs (cxOf (L2N.CX P w) P w K mg base N qual (defScope st) f cdv A outer s H E) (defBody st) m t) :
    FnOk P w K mg base (L2N.CX P w) (k + 1) f fd ps (spM K ps.length (bodyM N.length m)) := by
  refine F.okN Sc (fun vs H Q E h => ?_) fun cdv A outer s H vs Q E hr h => ?_
  · obtain ⟨S, pa, p, vs1, rs, l, Qd, Qx, h0, h1, h2, h3, h4, h5⟩ := h
    exact h4
  · obtain ⟨S, pa, p, vs1, rs, l, Qd, Qx, rfl, h1, h2, h3, h4, ⟨p1, p2, o, p3, p4⟩, h5, h6, h7⟩ := h
    obtain ⟨t, t1, t2⟩ := hbody cdv A outer s H E hr
    refine ⟨t, t1, t2 ⟨S, lose H p, pa⟩ S H _ _ _ _ (SR.entryM h1 h2 h3 p1 p2 p3 p4) (h5 p) ?_⟩
    have fin : ∀ {S' H' : Hp} {env : En} {σ : L2.St} {r : R} {v : V}, SR K ⟨S, lose H p, pa⟩ S' H' env σ → RetR K ⟨S, lose H p, pa⟩ S' H' r v → (∃ l', Has env 0 (.fix p l') ∧ Qd r l') → Q v H' := fun s r ⟨l', f, q⟩ => by
      obtain ⟨_, k2, _, o, k4, k5⟩ := s.fix _ _ _ f
      exact h6 _ _ _ _ l' (s.dret r) ⟨k2, o, k4, k5⟩ q
    exact ⟨fun S' H' env σ s q => fin s (r := .val .non) .non q, fun S' H' env σ r v s q z => fin s q z, fun _ _ _ _ _ z => z.elim, fun _ _ _ _ _ z => z.elim, lft_xc h7⟩
end
/-! ### calls -/
section
variable {K : PySem.W.Frag} {S H S' H' : Hp} {B : Bs} {env : En} {σ : L2.St}
/-- a thing is lost from sight -/
theorem SR.lost {p : Addr} {i : Nat} {l : FxL} {r : R} {v : V} (s : SR K B S H env σ) (h : Has env i (.fix p l)) (d : DRet K S (lose H p) B.pa S' H' r v) : SR K B S' H' (env.set i none) σ := by
  obtain ⟨h1, h2, h3, o, h4, h5⟩ := s.fix i p l h
  have s1 : SR K B S H (env.set i none) σ := by
    have q := s.drop (i := i) (n := some (.ref p))
    have e : σ.set i (some (.ref p)) = σ := by
      refine List.ext_getElem? fun j => ?_
      by_cases c : i = j
      · subst c
        rw [List.getElem?_set_self (List.getElem?_eq_some_iff.mp h1).1]
        exact h1.symm
      · rw [List.getElem?_set_ne c]
    rw [e] at q
    exact q
  refine s1.given h3 (fun w => ?_) d
  rcases w with w | ⟨j, m, w1, w2⟩ | ⟨j, m, w1⟩
  · obtain ⟨_, o, z⟩ := s.pool p w
    rw [h3] at z
    cases z
  · by_cases c : j = i
    · subst c
      exact nomatch set_self w1
    · exact s.dfx i j p l m h (set_other w1 c) w2
  · by_cases c : j = i
    · subst c
      exact nomatch set_self w1
    · exact c (s.dff j i p m l (set_other w1 c) h)
theorem XcOk.lft {X : Cx} {Qx : Xd → Prop} (s : SR X.K B S H env σ) (xk : XcOk X B σ Qx) : Lft X.K S H B.pa Qx (WE (wk X) σ) := fun x d v H' S' dr h0 h1 hd r q => xk S' H' env d x v (s.ret dr) (s.hp0 h0) h1 hd r q
theorem XcOk.lftM {X : Cx} {Qx : Xd → Prop} {p : Addr} {i : Nat} {l : FxL} (s : SR X.K B S H env σ) (h : Has env i (.fix p l)) (xk : XcOk X B σ Qx) : Lft X.K S (lose H p) B.pa Qx (WE (wk X) σ) := fun x d v H' S' dr h0 h1 hd r q => xk S' H' _ d x v (s.lost h dr) (by
  by_cases c : d = p
  · rw [c]
    exact (s.fix i p l h).2.2.1
  · exact s.hp0 ((lose_ne c).symm.trans h0)) h1 hd r q
end
def dCallE (F : FME) (n : DAM) : PM := fun env Q Qx => n env fun env' rs => argsOk rs = true ∧ F rs (fun r => match r with
  | .val d => Q env' d
  | _ => False) Qx
/-- f(w, e, ..), w the i-th name's thing -/
def dCallM (i : Nat) (F : FMM) (n : DAM) : PM := fun env Q Qx => match env[i]? with
  | some (some (.fix _ _)) => n env fun env' rs => argsOk rs = true ∧ match env'[i]? with
    | some (some (.fix p l)) => F rs l (fun r l' => match r with
      | .val d => Q (env'.set i (some (.fix p l'))) d
      | _ => False) Qx
    | _ => False
  | _ => False
/-- w.m(), which changes nothing and raises nothing -/
def dAsk (i : Nat) (F : FMM) : DM := fun env Q => match env[i]? with
  | some (some (.fix _ l)) => F [] l (fun r l' => l' = l ∧ match r with
    | .val d => Q env (.val d)
    | _ => False) (fun _ => False)
  | _ => False
section
variable {X : Cx} {k : Nat} {f C : Addr} {fd : FuncData} {ps : List Str} {FE : FME} {FM' : FMM} {x m : Str} {p pos apos p1 p2 : Pos} {e o : Expr} {es : List Expr} {n : DAM} {tn : TA} {np i : Nat}
theorem de_callE (hF : FnOk X.prog X.w X.K X.mg X.base (L2N.CX X.prog X.w) k f fd ps (spE X.K np FE)) (hr : Room k X.A) (hg : Gl X x) (hm : X.mg x = some (.ref f)) (hk : PySem.W.keepIn X.K (.ref f) = true) (hb : Binds X.K fd ps [])
    (ha : DA X (e :: es) n tn) (hlen : (e :: es).length = np) (hdb : (x == ("__debug__" : Str)) = false := by decide) (he : starEach (e :: es) X.env = (false, eval e X.env) :: starEach es X.env := by rfl) (hpl : (backTo pos (starEach es X.env)).any (·.1) = false := by rfl) :
    DP X (.Call (.Name x p) (e :: es) [] pos) (dCallE FE n) (tCallS (spE X.K np FE) (WE (wk X)) tn) := by
  refine ⟨pe_callS hF hr hg hm hk hb (fun σ => L2N.passAt takes_wk σ) ha.1 hdb he hpl, fun B S H env σ Q Qx Qv s q xk k => ha.2 B S H env σ _ _ s q fun vs H1 S1 env1 rs z l len q1 => ?_⟩
  refine ⟨S1, B.pa, rs, _, Qx, z.sr.ex, fun a e => (z.sr.pool a e).1, l.args q1.1, len.trans hlen, q1.2, fun v H' S' r d q => ?_, xk.lft z.sr⟩
  cases r with
  | val d0 => exact k v d0 H' S' env1 (z.sr.ret d) d.ret q
  | own l => exact q.elim
  | brw i l => exact q.elim
  | pool => exact q.elim
/-- what is behind the arguments of a call with a thing -/
theorem spM_of {B : Bs} {S H : Hp} {env : En} {σ : L2.St} {vs : List V} {rs : List R} {Q : En → D → Prop} {Qx : Xd → Prop} {Qv : VK} {q0 : Addr} (s : SR X.K B S H env σ) (h0 : Slt σ i (.ref q0)) (l : LkA X.K B S H vs rs) (len : vs.length + 1 = np) (h : argsOk rs = true ∧ match env[i]? with
    | some (some (.fix p l)) => FM' rs l (fun r l' => match r with
      | .val d => Q (env.set i (some (.fix p l'))) d
      | _ => False) Qx
    | _ => False) (xk : XcOk X B σ Qx) (k : ∀ v d H' S' env', SR X.K B S' H' env' σ → Rep X.K S' v d → Q env' d → Qv v H') : spM X.K np FM' (.ref q0 :: vs) H Qv (WE (wk X) σ) := by
  obtain ⟨ha, h⟩ := h
  split at h
  · rename_i p l0 c
    obtain ⟨h1, h2, h3, o, h4, h5⟩ := s.fix i p _ c
    cases Slt.ref h0 h1
    have hpa : B.pa ≠ some q0 := fun e => by
      obtain ⟨_, o, w⟩ := s.pool q0 e
      rw [h3] at w
      cases w
    refine ⟨S, B.pa, q0, vs, rs, l0, _, Qx, rfl, s.ex, fun a e => (s.pool a e).1, l.args ha, by rw [List.length_cons]; exact len, ⟨h2, hpa, o, h4, h5⟩, h, fun v H' S' r l' d ⟨c1, o', c2, c3⟩ q => ?_, xk.lftM s c⟩
    cases r with
    | val d0 => exact k v d0 H' S' _ (s.handed c d c1 c2 c3) d.ret q
    | own l2 => exact q.elim
    | pool => exact q.elim
    | brw i l2 => exact q.elim
  · exact h.elim
theorem dp_callM0 (hF : FnOk X.prog X.w X.K X.mg X.base (L2N.CX X.prog X.w) k f fd ps (spM X.K np FM')) (hr : Room k X.A) (hg : Gl X x) (hm : X.mg x = some (.ref f)) (hk : PySem.W.keepIn X.K (.ref f) = true) (hb : Binds X.K fd ps [])
    (hv : PE X o (tVar i)) (ha : DA X es n tn) (hlen : es.length + 1 = np) (hs : starEach (o :: es) X.env = (false, eval o X.env) :: starEach es X.env := by rfl) (hdb : (x == ("__debug__" : Str)) = false := by decide) (hpl : (backTo pos (starEach es X.env)).any (·.1) = false := by rfl) :
    DP X (.Call (.Name x p) (o :: es) [] pos) (dCallM i FM' n) (tCallS (spM X.K np FM') (WE (wk X)) (tCons (tVar i) tn)) := by
  refine ⟨pe_callS hF hr hg hm hk hb (fun σ => L2N.passAt takes_wk σ) (pa_cons hv ha.1 hs) hdb hs hpl, fun B S H env σ Q Qx Qv s q xk k => ?_⟩
  unfold dCallM at q
  split at q
  · rename_i q0 l0 c
    obtain ⟨h1, _⟩ := s.fix i q0 _ c
    refine ⟨_, h1, ha.2 B S H env σ _ _ s q fun vs H1 S1 env1 rs z l len q1 => ?_⟩
    exact spM_of z.sr h1 l (by omega) q1 xk k
  · exact q.elim
end
end DL
end

section
set_option Elab.async false
set_option linter.all false
set_option maxRecDepth 100000
set_option maxHeartbeats 4000000
namespace L2
open PySem PySem.Spec PyProof.Rows
section
variable {X : Cx} {CX : CXT} {k : Nat} {f C : Addr} {fd : FuncData} {ps : List Str} {sp : Sp} {E : St → XK} {x m : Str} {p pos apos : Pos} {e o : Expr} {es : List Expr} {ta : TE} {t : TA}
def tMethX (C : Addr) (m : Str) (sp : Sp) (E : St → XK) (ta : TE) (t : TA) : TE := fun σ H Q => ta σ H fun x H1 => ∃ a dx fs, x = .ref a ∧ H1 a = some (.ins C dx fs) ∧ fs.lookup m = none ∧ t σ H1 fun vs H2 => sp (x :: vs) H2 Q (E σ)
theorem pe_methX {pl : Sem Bool} (ho : PE X o ta) (c : Cls X.K C) (hm : Meth X.K C m f) (F : FnOk X.prog X.w X.K X.mg X.base CX k f fd ps sp) (hr : Room k X.A) (hb : Binds X.K fd ps []) (hx : ∀ σ, PassesAt CX X σ (E σ)) (ha : PA X (e :: es) t)
    (hst : starEach (e :: es) X.env = (false, eval e X.env) :: starEach es X.env := by rfl) (hpl : (backTo pos (starEach es X.env)).any (·.1) = false := by rfl)
    (ht : eval (.Call (.Attribute o m apos) (e :: es) [] pos) X.env = (eval o X.env >>= fun ov => standAt apos.atName >>= fun _ => holding [ov] (getMethod ov m pl) >>= fun y => callWith pos y.1 y.2 (backTo pos (starEach (e :: es) X.env)) (backToKw pos (keywordEach [] X.env))) := by rfl) :
    PE X (.Call (.Attribute o m apos) (e :: es) [] pos) (tMethX C m sp E ta t) := by
  refine ⟨fun pins s σ H Q I h => ?_⟩
  refine PySem.W.methodCall_KW (pl := pl) (thn (ho.run pins s σ H _ I h) fun u s1 ⟨x, H1, I1, rx, a, dx, fs, ex, ea, l, q⟩ => ?_) ht
  subst ex
  obtain rfl : u = Value.ref a := rx
  refine getmeth_ok I1 ea c hm l ?_
  refine PySem.W.callWith_K (first := [.ref a]) (h₀ := X.base) I.ok.mod.kin hm.kp (thn (ha.run pos pins s1 σ H1 _ I1 q) fun us s2 ⟨vs, H2, I2, r, q2⟩ => ⟨I2.kIn, ?_⟩) hst hpl
  exact run_fnS (us := .ref a :: us) (vs := .ref a :: vs) F hr hb (hx σ) I2 (.cons rfl r) q2
theorem pe_methX0 {pl : Sem Bool} (ho : PE X o ta) (c : Cls X.K C) (hm : Meth X.K C m f) (F : FnOk X.prog X.w X.K X.mg X.base CX k f fd ps sp) (hr : Room k X.A) (hb : Binds X.K fd ps []) (hx : ∀ σ, PassesAt CX X σ (E σ))
    (ht : eval (.Call (.Attribute o m apos) [] [] pos) X.env = (eval o X.env >>= fun ov => standAt apos.atName >>= fun _ => holding [ov] (getMethod ov m pl) >>= fun y => callWith pos y.1 y.2 (backTo pos (starEach [] X.env)) (backToKw pos (keywordEach [] X.env))) := by rfl) :
    PE X (.Call (.Attribute o m apos) [] [] pos) (tMethX C m sp E ta tNil) := by
  refine ⟨fun pins s σ H Q I h => ?_⟩
  refine PySem.W.methodCall_KW (pl := pl) (thn (ho.run pins s σ H _ I h) fun u s1 ⟨x, H1, I1, rx, a, dx, fs, ex, ea, l, q⟩ => ?_) ht
  subst ex
  obtain rfl : u = Value.ref a := rx
  refine getmeth_ok I1 ea c hm l ?_
  exact PySem.W.callWith_K0 (first := [.ref a]) I1.kIn hm.kp (run_fnS (us := [.ref a]) (vs := [.ref a]) F hr hb (hx σ) I1 (.cons rfl .nil) q)
/-- C(e, ..) whose __init__ may raise -/
def tMakeX (C : Addr) (sp : Sp) (E : St → XK) (t : TA) : TE := fun σ H Q => t σ H fun vs H1 => ∀ x dx, H1 x = none → H1 dx = none → dx ≠ x →
  sp (.ref x :: vs) (upd (upd H1 dx (.own x)) x (.ins C dx [])) (fun v H2 => v = .non ∧ Q (.ref x) H2) (E σ)
theorem pe_makeX (M : Mk X.K C f) (F : FnOk X.prog X.w X.K X.mg X.base CX k f fd ps sp) (hr : Room (k + 1) X.A) (hg : Gl X x) (hm : X.mg x = some (.ref C)) (hb : Binds X.K fd ps []) (hx : ∀ σ, PassesAt CX X σ (E σ))
    (ha : PA X (e :: es) t) (hdb : (x == ("__debug__" : Str)) = false := by decide) (he : starEach (e :: es) X.env = (false, eval e X.env) :: starEach es X.env := by rfl) (hpl : (backTo pos (starEach es X.env)).any (·.1) = false := by rfl) :
    PE X (.Call (.Name x p) (e :: es) [] pos) (tMakeX C sp E t) := by
  refine ⟨fun pins s σ H Q I h => ?_⟩
  refine wpAny_Call_Name_kw (ld_glob I hg hm ?_ hdb)
  refine PySem.W.callWith_K (h₀ := X.base) I.ok.mod.kin M.kp (thn (ha.run pos pins s σ H _ I h) fun us s1 ⟨vs, H1, I1, r, q⟩ => ⟨I1.kIn, ?_⟩) he hpl
  have nx : H1 (s1.heap.objs.size + 1) = none := I1.hok.fresh (Nat.le_succ _)
  have nd : H1 s1.heap.objs.size = none := I1.hok.fresh (Nat.le_refl _)
  have hq := q _ _ nx nd (Nat.ne_of_lt (Nat.lt_succ_self _))
  have I2 := Inv.made (C := C) I1
  have r2 : Vals (V.ref (s1.heap.objs.size + 1) :: vs) (Value.ref (s1.heap.objs.size + 1) :: us) := .cons rfl r
  have hl : (Value.ref (s1.heap.objs.size + 1) :: us).length = ps.length := by
    have w := r2.length
    rw [F.len _ _ _ _ hq] at w
    exact w.symm
  have b := hb _ (Value.ref (s1.heap.objs.size + 1) :: us) I2.kIn (by rw [List.append_nil]; exact hl)
  rw [List.append_nil] at b
  show wpAny _ _ (call (.ref C) us) _ _ _
  refine wpAny_call (make_map (f := f) I1.kIn M.makes M.init (beq_iff_eq.mp M.fn) (codeAny_mono (F.run _ X.stack _ _ ⟨Value.ref (s1.heap.objs.size + 1) :: us, []⟩ _ _ _ (E σ) (hr.make C us []) (I2.env0.make C us []) b r2 hq) fun r s' hq' => ?_))
  cases r with
  | error e => exact hx σ pins _ _ e s' I2 hq'
  | ok fl =>
    cases fl with
    | ret u =>
      obtain ⟨v, H', I3, rv, ev, q3⟩ := I2.after hq'
      subst ev
      exact ⟨rv, ⟨V.ref (s1.heap.objs.size + 1), H', I3, rfl, q3⟩⟩
    | next => exact False.elim hq'
    | brk => exact False.elim hq'
    | cont => exact False.elim hq'
end
end L2
namespace DL
open PySem PySem.Spec PyProof.Rows L2
open Evl (Ex)
def noF (m : Str) (ns : List Str) : Bool := ns.all fun n => !(m == n)
theorem noF_lookup {m : Str} : ∀ {fs : List (Str × V)}, noF m (fs.map (·.1)) = true → fs.lookup m = none
  | [], _ => rfl
  | (n, v) :: fs, h => by
    unfold noF at h
    rw [List.map_cons, List.all_cons, Bool.and_eq_true] at h
    rw [List.lookup_cons]
    cases q : m == n with
    | true =>
      have h1 := h.1
      rw [q] at h1
      cases h1
    | false => exact noF_lookup (fs := fs) h.2
/-- w.m(e, ..) -/
def dMethM (C0 : Addr) (i : Nat) (m : Str) (F : FMM) (n : DAM) : PM := fun env Q Qx => match env[i]? with
  | some (some (.fix _ (.ins C _ ns _))) => C = C0 ∧ noF m ns = true ∧ n env fun env' rs => argsOk rs = true ∧ match env'[i]? with
    | some (some (.fix p l)) => F rs l (fun r l' => match r with
      | .val d => Q (env'.set i (some (.fix p l'))) d
      | _ => False) Qx
    | _ => False
  | _ => False
/-- w.m(), nothing is changed -/
def dAskM (C0 : Addr) (i : Nat) (m : Str) (F : FMM) : DM := fun env Q => match env[i]? with
  | some (some (.fix _ (.ins C dx ns l))) => C = C0 ∧ noF m ns = true ∧ F [] (.ins C dx ns l) (fun r l' => l' = .ins C dx ns l ∧ match r with
    | .val d => Q env (.val d)
    | _ => False) (fun _ => False)
  | _ => False
theorem xc_never {X : Cx} {B : Bs} {σ : L2.St} : XcOk X B σ fun _ => False := fun _ _ _ _ _ _ _ _ _ _ _ z => z.elim
section
variable {X : Cx} {k : Nat} {f C : Addr} {fd : FuncData} {ps : List Str} {F : FMM} {x m a txt : Str} {p pos apos p1 p2 xp : Pos} {e o : Expr} {es : List Expr} {n : DAM} {tn : TA} {np i : Nat}
theorem dp_meth {pl : Sem Bool} (c : Cls X.K C) (hm : Meth X.K C m f) (hF : FnOk X.prog X.w X.K X.mg X.base (L2N.CX X.prog X.w) k f fd ps (spM X.K np F)) (hr : Room k X.A) (hb : Binds X.K fd ps []) (hv : PE X o (tVar i)) (ha : DA X (e :: es) n tn) (hlen : (e :: es).length + 1 = np)
    (hst : starEach (e :: es) X.env = (false, eval e X.env) :: starEach es X.env := by rfl) (hpl : (backTo pos (starEach es X.env)).any (·.1) = false := by rfl)
    (ht : eval (.Call (.Attribute o m apos) (e :: es) [] pos) X.env = (eval o X.env >>= fun ov => standAt apos.atName >>= fun _ => holding [ov] (getMethod ov m pl) >>= fun y => callWith pos y.1 y.2 (backTo pos (starEach (e :: es) X.env)) (backToKw pos (keywordEach [] X.env))) := by rfl) :
    DP X (.Call (.Attribute o m apos) (e :: es) [] pos) (dMethM C i m F n) (tMethX C m (spM X.K np F) (WE (wk X)) (tVar i) tn) := by
  refine ⟨pe_methX hv c hm hF hr hb (fun σ => L2N.passAt takes_wk σ) ha.1 hst hpl ht, fun B S H env σ Q Qx Qv s q xk k => ?_⟩
  unfold dMethM at q
  split at q
  · rename_i q0 C' dx ns l0 c0
    obtain ⟨rfl, nf, q⟩ := q
    obtain ⟨h1, _, _, o', h4, fs, rfl, rfl, _⟩ := s.fix i q0 _ c0
    refine ⟨_, h1, q0, dx, fs, rfl, h4, noF_lookup nf, ha.2 B S H env σ _ _ s q fun vs H1 S1 env1 rs z l len q1 => ?_⟩
    exact spM_of z.sr h1 l (by omega) q1 xk k
  · exact q.elim
theorem dp_meth0 {pl : Sem Bool} (c : Cls X.K C) (hm : Meth X.K C m f) (hF : FnOk X.prog X.w X.K X.mg X.base (L2N.CX X.prog X.w) k f fd ps (spM X.K 1 F)) (hr : Room k X.A) (hb : Binds X.K fd ps []) (hv : PE X o (tVar i))
    (ht : eval (.Call (.Attribute o m apos) [] [] pos) X.env = (eval o X.env >>= fun ov => standAt apos.atName >>= fun _ => holding [ov] (getMethod ov m pl) >>= fun y => callWith pos y.1 y.2 (backTo pos (starEach [] X.env)) (backToKw pos (keywordEach [] X.env))) := by rfl) :
    DP X (.Call (.Attribute o m apos) [] [] pos) (dMethM C i m F dNil) (tMethX C m (spM X.K 1 F) (WE (wk X)) (tVar i) tNil) := by
  refine ⟨pe_methX0 hv c hm hF hr hb (fun σ => L2N.passAt takes_wk σ) ht, fun B S H env σ Q Qx Qv s q xk k => ?_⟩
  unfold dMethM at q
  split at q
  · rename_i q0 C' dx ns l0 c0
    obtain ⟨rfl, nf, q⟩ := q
    obtain ⟨h1, _, _, o', h4, fs, rfl, rfl, _⟩ := s.fix i q0 _ c0
    refine ⟨_, h1, q0, dx, fs, rfl, h4, noF_lookup nf, ?_⟩
    exact spM_of s h1 .nil rfl q xk k
  · exact q.elim
theorem de_ask {pl : Sem Bool} (c : Cls X.K C) (hm : Meth X.K C m f) (hF : FnOk X.prog X.w X.K X.mg X.base (L2N.CX X.prog X.w) k f fd ps (spM X.K 1 F)) (hr : Room k X.A) (hb : Binds X.K fd ps []) (hv : PE X o (tVar i))
    (ht : eval (.Call (.Attribute o m apos) [] [] pos) X.env = (eval o X.env >>= fun ov => standAt apos.atName >>= fun _ => holding [ov] (getMethod ov m pl) >>= fun y => callWith pos y.1 y.2 (backTo pos (starEach [] X.env)) (backToKw pos (keywordEach [] X.env))) := by rfl) :
    DE X (.Call (.Attribute o m apos) [] [] pos) (dAskM C i m F) (tMethX C m (spM X.K 1 F) (WE (wk X)) (tVar i) tNil) := by
  refine ⟨pe_methX0 hv c hm hF hr hb (fun σ => L2N.passAt takes_wk σ) ht, fun B S H env σ Q Qv s q k => ?_⟩
  unfold dAskM at q
  split at q
  · rename_i q0 C' dx ns l0 c0
    obtain ⟨rfl, nf, q⟩ := q
    obtain ⟨h1, h2, h3, o', h4, fs, rfl, rfl, h5⟩ := s.fix i q0 _ c0
    refine ⟨_, h1, q0, dx, fs, rfl, h4, noF_lookup nf, ?_⟩
    have hpa : B.pa ≠ some q0 := fun e => by
      obtain ⟨_, o, w⟩ := s.pool q0 e
      rw [h3] at w
      cases w
    refine ⟨S, B.pa, q0, [], [], .ins C' dx (fs.map (·.1)) l0, _, fun _ => False, rfl, s.ex, fun a e => (s.pool a e).1, .nil, rfl, ⟨h2, hpa, _, h4, fs, rfl, rfl, h5⟩, q, fun v H' S' r l' d ⟨c1, o', c2, c3⟩ q => ?_, xc_never.lftM s c0⟩
    obtain ⟨rfl, q⟩ := q
    have s' := s.handed c0 d c1 c2 c3
    have e0 : env.set i (some (.fix q0 (.ins C' dx (fs.map (·.1)) l0))) = env := by
      refine List.ext_getElem? fun j => ?_
      by_cases z : i = j
      · subst z
        rw [List.getElem?_set_self (List.getElem?_eq_some_iff.mp c0).1]
        exact c0.symm
      · rw [List.getElem?_set_ne z]
    rw [e0] at s'
    have go : Go (Ow B env σ) S H S' H' := by
      refine ⟨d.ex, fun a o h nz => ?_, fun a o h nz e => ?_, fun a h => ?_⟩
      · have ne : a ≠ q0 := fun z => nz (.inr (.inr ⟨i, _, z ▸ c0⟩))
        exact d.keep a o ((lose_ne ne).trans h) fun e => nz (.inl e)
      · have ne : a ≠ q0 := fun z => nz (.inr (.inr ⟨i, _, z ▸ c0⟩))
        exact d.nw a o ((lose_ne ne).trans h) e
      · by_cases ne : a = q0
        · subst ne
          rw [c2] at h
          cases h
        · exact (lose_ne ne).symm.trans (d.old a h)
    cases r with
    | val d0 => exact k v H' S' env (.val d0) ⟨s', go, .refl _, d.ret⟩ q
    | own l2 => exact q.elim
    | pool => exact q.elim
    | brw i l2 => exact q.elim
  · exact q.elim
/-! raise -/
inductive SmallD : D → Prop
  | str (y : Str) : y.length ≤ 1000 → SmallD (.str y)
  | int (i : Int) : i.natAbs.log2 < 1000 → SmallD (.int i)
def dRaise (C : Addr) (a : Str) (m : DM) : DSM := fun E env => m env fun _ r => match r with
  | .val d => SmallD d ∧ E.xc ⟨C, a, d⟩
  | _ => False
theorem ds_raise {fI : Addr} {ma : DM} {ta : TE} (hc : X.calm = true) (T : EX.ErrTxt X.prog X.K C fI a txt) (ht : txt.length ≤ 1000) (na : EX.NmOk a) (hsup : X.mg "super" = none) (gC : X.mg x = some (.ref C)) (hr : Room k X.A) (ha : DE X e ma ta) (hg : Gl X x)
    (hs : starEach (e :: []) X.env = (false, eval e X.env) :: starEach [] X.env := by rfl) (hdb : (x == ("__debug__" : Str)) = false := by decide) (hpl : (backTo pos (starEach [] X.env)).any (·.1) = false := by rfl) :
    DS X (.Raise (some (.Call (.Name x p) [e] [] pos)) none p2) (dRaise C a ma) (tRaiseErr C a (wk X) (tCons ta tNil)) := by
  refine ⟨ps_raiseErr hc takes_wk T ht na hsup gC hr (pa_cons ha.1 pa_nil hs) hg hdb hs hpl, fun B S H env σ E D s q ek => ?_⟩
  refine ha.2 B S H env σ _ _ s q fun v H1 S1 env1 r z q1 => ?_
  cases r with
  | val d =>
    have zr : Rep X.K S1 v d := z.res
    refine ⟨v, rfl, ?_, fun dd hd => ?_⟩
    · cases q1.1 with
      | str y h =>
        cases zr
        exact .str y h
      | int i h =>
        cases zr
        exact .int i h
    · have n := Nw.hid z.sr.ex (o := .xd [(a, v)]) hd
      exact ek.xc σ S1 _ env1 dd ⟨C, a, d⟩ v (z.sr.nw n) (z.sr.hp0 hd) (z.sr.sp0 hd) upd_same (zr.mono n.ex) q1.2
  | own l => exact q1.elim
  | brw i l => exact q1.elim
  | pool => exact q1.elim
/-- e, for what it does -/
def dDropP (m : PM) : DSM := fun E env => m env (fun env' _ => E.nx env') E.xc
theorem ds_exprP {m : PM} {ta : TE} (ha : DP X e m ta) (hs : swapsWith e none pos.line X.env = pure false := by rfl) : DS X (.Expr e pos) (dDropP m) (tDrop ta) :=
  ⟨ps_expr ha.1 hs, fun B S H env σ E D s q ek => ha.2 B S H env σ _ _ _ s q (ek.xc σ) fun v d H' S' env' s' _ q' => ek.nx S' H' env' σ s' q'⟩
/-! a tuple whose last part may raise -/
abbrev PAM := En → (En → List D → Prop) → (Xd → Prop) → Prop
def DAP (X : Cx) (es : List Expr) (m : PAM) (t : TA) : Prop := PA X es t ∧ ∀ (B : Bs) (S H : Hp) (env : En) (σ : L2.St) (Q : En → List D → Prop) (Qx : Xd → Prop) (Qv : List V → Hp → Prop), SR X.K B S H env σ → m env Q Qx → XcOk X B σ Qx →
  (∀ vs ds H' S' env', SR X.K B S' H' env' σ → Reps X.K S' vs ds → Q env' ds → Qv vs H') → t σ H Qv
def dEndP (m : PM) : PAM := fun env Q Qx => m env (fun env' d => Q env' [d]) Qx
def dConsP (m : DM) (n : PAM) : PAM := fun env Q Qx => dKeep m env fun env1 r => match r with
  | .val d => n env1 (fun env2 ds => Q env2 (d :: ds)) Qx
  | _ => False
def dTupP (n : PAM) : PM := fun env Q Qx => n env (fun env' ds => ds.length ≤ sizeLine ∧ Q env' (.tup ds)) Qx
theorem dap_end {m : PM} {ta : TE} (ha : DP X e m ta) (hs : starEach (e :: []) X.env = (false, eval e X.env) :: starEach [] X.env := by rfl) : DAP X [e] (dEndP m) (tCons ta tNil) :=
  ⟨pa_cons ha.1 pa_nil hs, fun B S H env σ Q Qx Qv s q xk k => ha.2 B S H env σ _ Qx _ s q xk fun v d H' S' env' s' r q' => k [v] [d] H' S' env' s' (.cons r .nil) q'⟩
theorem dap_cons {ma : DM} {ta : TE} {n : PAM} (ha : DE X e ma ta) (hb : DAP X es n tn) (hs : starEach (e :: es) X.env = (false, eval e X.env) :: starEach es X.env := by rfl) : DAP X (e :: es) (dConsP ma n) (tCons ta tn) := by
  obtain ⟨t1, t2⟩ := de_keep ha
  refine ⟨pa_cons t1 hb.1 hs, fun B S H env σ Q Qx Qv s q xk k => t2 B S H env σ _ _ s q fun v H1 S1 env1 r z q1 => ?_⟩
  cases r with
  | val d =>
    have zr : Rep X.K S1 v d := z.res
    refine hb.2 ⟨S1, B.H0, B.pa⟩ S1 H1 env1 σ _ Qx _ z.sr.base q1 (fun S2 H2 env2 d2 x2 v2 s2 => xk S2 H2 env2 d2 x2 v2 (z.sr.unbase s2)) fun vs ds H' S' env' s' rs q' => ?_
    exact k (v :: vs) (d :: ds) H' S' env' (z.sr.unbase s') (.cons (zr.mono s'.ex0) rs) q'
  | own l => exact q1.elim
  | brw i l => exact q1.elim
  | pool => exact q1.elim
theorem dp_tup {x1} {n : PAM} (h : DAP X es n tn) : DP X (.Tuple es x1 pos) (dTupP n) (tTup tn) := by
  refine ⟨pe_tup h.1, fun B S H env σ Q Qx Qv s q xk k => h.2 B S H env σ _ Qx _ s q xk fun vs ds H' S' env' s' r q' => ⟨by rw [r.length]; exact q'.1, fun p hp => ?_⟩⟩
  have n := Nw.add s'.ex (o := .tup vs) hp
  exact k _ (.tup ds) _ _ env' (s'.nw n) (.tup (SqT.of upd_same) (r.mono n.ex)) q'.2
end
end DL
end

section
set_option Elab.async false
set_option linter.all false
set_option maxRecDepth 100000
set_option maxHeartbeats 4000000
namespace DL
open PySem PySem.Spec PyProof.Rows L2
open Evl (Ex)
/-! ### things made -/
section
variable {K : PySem.W.Frag} {B : Bs} {S H S' H' : Hp} {env : En} {σ : L2.St}
theorem SR.storeF {i : Nat} {p : Addr} {l : FxL} {o : HO} (s : SR K B S H env σ) (h1 : S p = none) (h2 : B.H0 p = none) (h3 : ¬ Ow B env σ p) (h4 : H p = some o) (h5 : FxAt K S l o) : SR K B S H (env.set i (some (.fix p l))) (σ.set i (some (.ref p))) := by
  have il : ∀ {j : Nat} {n : Nv}, Has (env.set i (some (.fix p l))) j n → j < σ.length := fun {j n} h => by
    have q := (List.getElem?_eq_some_iff.mp h).1
    rw [List.length_set] at q
    exact s.len ▸ q
  have other : ∀ {j : Nat} {n : Nv}, Has (env.set i (some (.fix p l))) j n → n ≠ .fix p l → j ≠ i ∧ Has env j n := fun {j n} h ne => by
    have c : j ≠ i := fun z => by
      subst z
      exact ne (Option.some.inj (set_self h)).symm
    exact ⟨c, set_other h c⟩
  refine ⟨s.ex0, s.nw0, s.keep0, s.old0, by rw [List.length_set, List.length_set]; exact s.len, s.ex, fun j d h => ?_, fun j m h => ?_, fun j k m n q e1 e2 e3 e4 => ?_, fun j h => ?_, s.pool, fun j q m h => ?_, fun j k q m n e1 e2 e3 => ?_, fun j k q m n e1 e2 => ?_, s.pin⟩
  · obtain ⟨c, h⟩ := other h (fun z => by cases z)
    obtain ⟨v, k1, k2⟩ := s.val j d h
    exact ⟨v, (sset_other c).mpr k1, k2⟩
  · obtain ⟨c, h⟩ := other h (fun z => by cases z)
    obtain ⟨q, vs, k1, k2⟩ := s.own j m h
    exact ⟨q, vs, (sset_other c).mpr k1, k2⟩
  · obtain ⟨c1, e1⟩ := other e1 (fun z => by cases z)
    obtain ⟨c2, e2⟩ := other e2 (fun z => by cases z)
    exact s.dis j k m n q e1 e2 ((sset_other c1).mp e3) ((sset_other c2).mp e4)
  · obtain ⟨c, h⟩ := other h (fun z => by cases z)
    obtain ⟨a, k1, k2⟩ := s.pl j h
    exact ⟨a, k1, (sset_other c).mpr k2⟩
  · by_cases c : j = i
    · subst c
      have q2 := il h
      cases set_self h
      exact ⟨sset_self q2, h1, h2, o, h4, h5⟩
    · obtain ⟨k1, k2⟩ := s.fix j q m (set_other h c)
      exact ⟨(sset_other c).mpr k1, k2⟩
  · obtain ⟨c2, g2⟩ := other e2 (fun z => by cases z)
    have g3 := (sset_other c2).mp e3
    by_cases c : j = i
    · subst c
      cases set_self e1
      exact h3 (.inr (.inl ⟨k, n, g2, g3⟩))
    · exact s.dfx j k q m n (set_other e1 c) g2 g3
  · by_cases c : j = i
    · subst c
      cases set_self e1
      by_cases c2 : k = j
      · exact c2.symm
      · exact (h3 (.inr (.inr ⟨k, n, set_other e2 c2⟩))).elim
    · by_cases c2 : k = i
      · subst c2
        cases set_self e2
        exact (h3 (.inr (.inr ⟨j, m, set_other e1 c⟩))).elim
      · exact s.dff j k q m n (set_other e1 c) (set_other e2 c2)
theorem lose_new {x dx C : Addr} {H : Hp} (hx : H x = none) (ne : dx ≠ x) : lose (upd (upd H dx (.own x)) x (.ins C dx [])) x = upd H dx (.own x) := by
  funext a
  by_cases c : a = x
  · subst c
    rw [lose_same, upd_ne (Ne.symm ne), hx]
  · rw [lose_ne c, upd_ne c]
end
/-- behind the arguments: what C(..) makes -/
def MadeF (C : Addr) (F : FMM) (rs : List R) (Q : FxL → Prop) (Qx : Xd → Prop) : Prop := argsOk rs = true ∧ ∀ dx, F rs (.ins C dx [] []) (fun r l' => match r with
  | .val .non => Q l'
  | _ => False) Qx
theorem made_of {X : Cx} {C : Addr} {F : FMM} {np : Nat} {B : Bs} {S H : Hp} {env : En} {σ : L2.St} {vs : List V} {rs : List R} {Q : FxL → Prop} {Qx : Xd → Prop} {Qv : VK} (s : SR X.K B S H env σ) (l : LkA X.K B S H vs rs) (len : vs.length + 1 = np) (h : MadeF C F rs Q Qx) {E : XK} (xk : ∀ x1 d v H' S', SR X.K B S' H' env σ → B.H0 d = none → S' d = none → H' d = some (.xd [(x1.a, v)]) → Rep X.K S' v x1.v → Qx x1 → E (.ref x1.C) (some d) H')
    (k : ∀ x H' S' l' o, SR X.K B S' H' env σ → Go (fun a => B.pa = some a) S H S' H' → H x = none → S' x = none → B.H0 x = none → ¬ Ow B env σ x → H' x = some o → FxAt X.K S' l' o → Q l' → Qv (.ref x) H') :
    ∀ x dx, H x = none → H dx = none → dx ≠ x → spM X.K np F (.ref x :: vs) (upd (upd H dx (.own x)) x (.ins C dx [])) (fun v H2 => v = .non ∧ Qv (.ref x) H2) E := by
  intro x dx hx hd ne
  have n2 := Nw.hid s.ex (o := .own x) hd
  have s2 := s.nw n2
  have hx2 : upd H dx (.own x) x = none := by rw [upd_ne (Ne.symm ne)]; exact hx
  have s3 := s2.nw (Nw.hid s2.ex (o := .ins C dx []) hx2)
  have hpa : B.pa ≠ some x := fun e => by
    obtain ⟨_, o, w⟩ := s.pool x e
    rw [s.hp0 hx] at w
    cases w
  refine ⟨S, B.pa, x, vs, rs, .ins C dx [] [], _, Qx, rfl, s3.ex, fun a e => (s3.pool a e).1, l.args h.1, by rw [List.length_cons]; exact len, ⟨s.sp0 hx, hpa, _, upd_same, [], rfl, rfl, .nil⟩, h.2 dx, ?_, ?_⟩
  · intro v H' S' r l' d c q
    rw [lose_new hx ne] at d
    obtain ⟨c1, o, c2, c3⟩ := c
    have s' := s2.ret d
    split at q
    · have dr := d.ret
      have ev : v = .non := by
        have w : Rep X.K S' v .non := dr
        cases w
        rfl
      refine ⟨ev, k x H' S' l' o s' ⟨d.ex, fun a u w nz => ?_, fun a u w nz e => ?_, fun a w => ?_⟩ hx c1 (s.hp0 hx) (s.now hx) c2 c3 q⟩
      · exact d.keep a u (by rw [upd_ne (fun z => by rw [z, hd] at w; cases w)]; exact w) nz
      · exact d.nw a u (by rw [upd_ne (fun z => by rw [z, hd] at w; cases w)]; exact w) e
      · have w2 := d.old a w
        by_cases c : a = dx
        · subst c
          exact hd
        · rw [upd_ne c] at w2
          exact w2
    · exact q.elim
  · intro x1 d v H' S' dr h0 h1 hdd r q
    rw [lose_new hx ne] at dr h0
    exact xk x1 d v H' S' (s2.ret dr) (s2.hp0 h0) h1 hdd r q
theorem XcOk.mk' {X : Cx} {B : Bs} {env : En} {σ : L2.St} {Qx : Xd → Prop} (xk : XcOk X B σ Qx) : ∀ x1 d v H' S', SR X.K B S' H' env σ → B.H0 d = none → S' d = none → H' d = some (.xd [(x1.a, v)]) → Rep X.K S' v x1.v → Qx x1 → WE (wk X) σ (.ref x1.C) (some d) H' :=
  fun x1 d v H' S' s h0 h1 hd r q => xk S' H' env d x1 v s h0 h1 hd r q
/-- name = C(e, ..): the name alone holds it -/
def dSetM (C : Addr) (i : Nat) (F : FMM) (n : DAM) : DSM := fun E env => n env fun env1 rs => MadeF C F rs (fun l' => ∀ p, E.nx (env1.set i (some (.fix p l')))) E.xc
/-- C(e, ..), from now on unchanged -/
def dMake (C : Addr) (F : FMM) (n : DAM) : DM := fun env Q => n env fun env1 rs => MadeF C F rs (fun l' => match l' with
  | .ins C' _ ns l => C' = C ∧ Q env1 (.val (.ins C ns l))
  | _ => False) fun _ => False
/-- .. which may raise -/
def dMakeP (C : Addr) (F : FMM) (n : DAM) : PM := fun env Q Qx => n env fun env1 rs => MadeF C F rs (fun l' => match l' with
  | .ins C' _ ns l => C' = C ∧ Q env1 (.ins C ns l)
  | _ => False) Qx
section
variable {X : Cx} {k : Nat} {f C : Addr} {fd : FuncData} {ps : List Str} {F : FMM} {x y : Str} {p pos pos' cpos : Pos} {e : Expr} {es : List Expr} {n : DAM} {tn : TA} {np i : Nat}
theorem ds_setM (M : Mk X.K C f) (hF : FnOk X.prog X.w X.K X.mg X.base (L2N.CX X.prog X.w) k f fd ps (spM X.K np F)) (hr : Room (k + 1) X.A) (hg : Gl X x) (hm : X.mg x = some (.ref C)) (hb : Binds X.K fd ps []) (ha : DA X (e :: es) n tn) (hlen : (e :: es).length + 1 = np)
    (hN : X.N.Nodup) (hi : X.N[i]? = some y) (hy : Loc X.env.scope y) (hdb : (x == ("__debug__" : Str)) = false := by decide) (he : starEach (e :: es) X.env = (false, eval e X.env) :: starEach es X.env := by rfl) (hpl : (backTo cpos (starEach es X.env)).any (·.1) = false := by rfl)
    (hs : swapsWith (.Call (.Name x p) (e :: es) [] cpos) (some (.Name y pos')) pos.line X.env = pure false := by rfl) (hf : X.fn y = true ∨ X.env.scope.names.lookup y = some .local := by first | exact .inl rfl | exact .inr rfl | assumption) :
    DS X (.Assign [.Name y pos'] (.Call (.Name x p) (e :: es) [] cpos) pos) (dSetM C i F n) (tAsg (tMakeX C (spM X.K np F) (WE (wk X)) tn) (gName i)) := by
  refine ⟨ps_set hN hi hy (pe_makeX M hF hr hg hm hb (fun σ => L2N.passAt takes_wk σ) ha.1 hdb he hpl) hs hf, fun B S H env σ E D s q ek => ?_⟩
  refine ha.2 B S H env σ _ _ s q fun vs H1 S1 env1 rs z l len q1 => ?_
  refine made_of (np := np) (Qv := fun v H' => D.nx (σ.set i (some v)) H') z.sr l (by omega) q1 (XcOk.mk' (ek.xc σ)) fun x H' S' l' o s' go hx c1 c0 c4 c2 c3 q2 => ?_
  exact ek.nx S' H' _ _ (s'.storeF c1 c0 c4 c2 c3) (q2 x)
theorem frz_new {B : Bs} {S H S' H' : Hp} {env : En} {σ : L2.St} {a : Addr} {C' dx : Addr} {ns : List Str} {l : List D} {o : HO} (s' : SR X.K B S' H' env σ) (go : Go (fun a => B.pa = some a) S H S' H') (hx : H a = none) (c1 : S' a = none) (c0 : B.H0 a = none) (c4 : ¬ Ow B env σ a) (c2 : H' a = some o) (c3 : FxAt X.K S' (.ins C' dx ns l) o) :
    ∃ S'', SR X.K B S'' H' env σ ∧ Go (fun a => B.pa = some a) S H S'' H' ∧ Rep X.K S'' (.ref a) (.ins C' ns l) := by
  obtain ⟨fs, rfl, rfl, r⟩ := c3
  have e1 : Ex S' (upd S' a (.ins C' dx fs)) := Ex.new c1
  refine ⟨_, s'.add c1 c0 c4 c2, ⟨go.ex.trans e1, go.keep, fun b u w nz z => ?_, go.old⟩, .ins upd_same rfl rfl (r.mono e1)⟩
  rw [upd_ne (fun c => by rw [c, hx] at w; cases w)]
  exact go.nw b u w nz z
theorem de_make (M : Mk X.K C f) (hF : FnOk X.prog X.w X.K X.mg X.base (L2N.CX X.prog X.w) k f fd ps (spM X.K np F)) (hr : Room (k + 1) X.A) (hg : Gl X x) (hm : X.mg x = some (.ref C)) (hb : Binds X.K fd ps []) (ha : DA X (e :: es) n tn) (hlen : (e :: es).length + 1 = np)
    (hdb : (x == ("__debug__" : Str)) = false := by decide) (he : starEach (e :: es) X.env = (false, eval e X.env) :: starEach es X.env := by rfl) (hpl : (backTo pos (starEach es X.env)).any (·.1) = false := by rfl) :
    DE X (.Call (.Name x p) (e :: es) [] pos) (dMake C F n) (tMakeX C (spM X.K np F) (WE (wk X)) tn) := by
  refine ⟨pe_makeX M hF hr hg hm hb (fun σ => L2N.passAt takes_wk σ) ha.1 hdb he hpl, fun B S H env σ Q Qv s q k => ?_⟩
  refine ha.2 B S H env σ _ _ s q fun vs H1 S1 env1 rs z l len q1 => ?_
  refine made_of (np := np) z.sr l (by omega) q1 (XcOk.mk' xc_never) fun x H' S' l' o s' go hx c1 c0 c4 c2 c3 q2 => ?_
  split at q2
  · rename_i C' dx ns l
    obtain ⟨rfl, q2⟩ := q2
    obtain ⟨S2, s2, g2, r2⟩ := frz_new s' go hx c1 c0 c4 c2 c3
    exact k _ H' S2 env1 (.val (.ins C' ns l)) ⟨s2, z.go.trans g2 fun a o w nz e => nz (.inl e), z.fz, r2⟩ q2
  · exact q2.elim
theorem dp_make (M : Mk X.K C f) (hF : FnOk X.prog X.w X.K X.mg X.base (L2N.CX X.prog X.w) k f fd ps (spM X.K np F)) (hr : Room (k + 1) X.A) (hg : Gl X x) (hm : X.mg x = some (.ref C)) (hb : Binds X.K fd ps []) (ha : DA X (e :: es) n tn) (hlen : (e :: es).length + 1 = np)
    (hdb : (x == ("__debug__" : Str)) = false := by decide) (he : starEach (e :: es) X.env = (false, eval e X.env) :: starEach es X.env := by rfl) (hpl : (backTo pos (starEach es X.env)).any (·.1) = false := by rfl) :
    DP X (.Call (.Name x p) (e :: es) [] pos) (dMakeP C F n) (tMakeX C (spM X.K np F) (WE (wk X)) tn) := by
  refine ⟨pe_makeX M hF hr hg hm hb (fun σ => L2N.passAt takes_wk σ) ha.1 hdb he hpl, fun B S H env σ Q Qx Qv s q xk k => ?_⟩
  refine ha.2 B S H env σ _ _ s q fun vs H1 S1 env1 rs z l len q1 => ?_
  refine made_of (np := np) z.sr l (by omega) q1 (XcOk.mk' xk) fun x H' S' l' o s' go hx c1 c0 c4 c2 c3 q2 => ?_
  split at q2
  · rename_i C' dx ns l
    obtain ⟨rfl, q2⟩ := q2
    obtain ⟨S2, s2, g2, r2⟩ := frz_new s' go hx c1 c0 c4 c2 c3
    exact k _ _ H' S2 env1 s2 r2 q2
  · exact q2.elim
end
end DL
end

section
set_option Elab.async false
set_option linter.all false
set_option maxRecDepth 100000
set_option maxHeartbeats 4000000
namespace DL
open PySem PySem.Spec PyProof.Rows L2
open Evl (Ex)
/-- a method of the class at C -/
structure MeAt (K : PySem.W.Frag) (C : Addr) (name qual : Str) (st : Stmt) (f : Addr) (fd : FuncData) (ps : List Str) : Prop where
  fn : Fun K name qual st f fd
  m : Meth K C name f
  b : Binds K fd ps []
theorem aug_add : ∀ x y H Q, Q (.int (x + y)) H → rAdd (.int x) (.int y) H Q := fun x y H Q q => ⟨x, y, rfl, rfl, q⟩
theorem _root_.L2.FnOk.up {P : Program} {w : World} {K : PySem.W.Frag} {mg : Str → Option Value} {base : Heap} {CX : CXT} {k j : Nat} {f : Addr} {fd : FuncData} {ps : List Str} {sp : Sp} (h : FnOk P w K mg base CX k f fd ps sp) (hj : k ≤ j) : FnOk P w K mg base CX j f fd ps sp :=
  ⟨h.len, fun A outer s H args us vs Q E hr => h.run A outer s H args us vs Q E (hr.mono hj)⟩
end DL
end

section
set_option Elab.async false
set_option linter.all false
set_option maxRecDepth 100000
set_option maxHeartbeats 4000000
namespace DL
open PySem PySem.Spec PyProof.Rows L2
open Evl (Ex)
/-! ### defs whose last two parameters are lists that they change -/
section
variable {K : PySem.W.Frag} {B : Bs} {S H S' H' : Hp} {env : En} {σ : L2.St} {pa : Option Addr}
/-- a thing is taken out of the ground, into a name's hand -/
theorem SR.regive {S0 H0 : Hp} {i : Nat} {p : Addr} {l : FxL} {o : HO} (s : SR K ⟨S0, H0, pa⟩ S H env σ) (hi : Has env i (.val .any)) (hs : Slt σ i (.ref p)) (h1 : S p = none) (h2 : pa ≠ some p) (hno : ∀ j m, Has env j (.own m) → ¬ Slt σ j (.ref p)) (hnf : ∀ j m, ¬ Has env j (.fix p m)) (h4 : H p = some o) (h5 : FxAt K S l o) :
    SR K ⟨S0, lose H0 p, pa⟩ S H (env.set i (some (.fix p l))) σ := by
  have other : ∀ {j : Nat} {n : Nv}, Has (env.set i (some (.fix p l))) j n → n ≠ .fix p l → j ≠ i ∧ Has env j n := fun {j n} h ne => by
    have c : j ≠ i := fun z => by
      subst z
      exact ne (Option.some.inj (set_self h)).symm
    exact ⟨c, set_other h c⟩
  have lo : ∀ a, H0 a = none → lose H0 p a = none := fun a h => by
    by_cases c : a = p
    · subst c
      exact lose_same
    · rw [lose_ne c]
      exact h
  refine ⟨s.ex0, fun a o h e => s.nw0 a o (lose_some h).2 e, fun a o h c => s.keep0 a o (lose_some h).2 c, fun a h => lo a (s.old0 a h), by rw [List.length_set]; exact s.len, s.ex, fun j d h => ?_, fun j m h => ?_, fun j k m n q e1 e2 e3 e4 => ?_, fun j h => ?_, fun a e => ?_, fun j q m h => ?_, fun j k q m n e1 e2 e3 => ?_, fun j k q m n e1 e2 => ?_, fun a e => ?_⟩
  · exact s.val j d (other h (fun z => by cases z)).2
  · obtain ⟨q, vs, k1, k2, k3, k4⟩ := s.own j m (other h (fun z => by cases z)).2
    exact ⟨q, vs, k1, k2, lo q k3, k4⟩
  · exact s.dis j k m n q (other e1 (fun z => by cases z)).2 (other e2 (fun z => by cases z)).2 e3 e4
  · exact s.pl j (other h (fun z => by cases z)).2
  · obtain ⟨k1, u, k2⟩ := s.pool a e
    refine ⟨k1, u, ?_⟩
    have e' : pa = some a := e
    show lose H0 p a = some u
    rw [lose_ne (fun c => h2 (by rw [← c]; exact e'))]
    exact k2
  · by_cases c : j = i
    · subst c
      cases set_self h
      exact ⟨hs, h1, lose_same, o, h4, h5⟩
    · obtain ⟨k1, k2, k3, k4⟩ := s.fix j q m (set_other h c)
      exact ⟨k1, k2, lo q k3, k4⟩
  · obtain ⟨c2, g2⟩ := other e2 (fun z => by cases z)
    by_cases c : j = i
    · subst c
      cases set_self e1
      exact hno k n g2 e3
    · exact s.dfx j k q m n (set_other e1 c) g2 e3
  · by_cases c : j = i
    · subst c
      cases set_self e1
      by_cases c2 : k = j
      · exact c2.symm
      · exact (hnf k n (set_other e2 c2)).elim
    · by_cases c2 : k = i
      · subst c2
        cases set_self e2
        exact (hnf j m (set_other e1 c)).elim
      · exact s.dff j k q m n (set_other e1 c) (set_other e2 c2)
  · have e' : pa = some a := e
    show headO (H a) = headO (lose H0 p a)
    rw [lose_ne (fun c => h2 (by rw [← c]; exact e'))]
    exact s.pin a e
/-- a place is forgotten -/
theorem SR.forget {p : Addr} (s : SR K B S H env σ) (h0 : S p = none) (h1 : B.H0 p = none) (h2 : ¬ Ow B env σ p) : SR K B S (lose H p) env σ := by
  have up : ∀ a o, B.H0 a = some o → a ≠ p := fun a o h c => by
    rw [c, h1] at h
    cases h
  have npa : ∀ a, B.pa = some a → a ≠ p := fun a e c => h2 (.inl (by rw [← c]; exact e))
  refine ⟨s.ex0, s.nw0, fun a o h c => by rw [lose_ne (up a o h)]; exact s.keep0 a o h c, fun a h => ?_, s.len, fun a o h => ?_, s.val, fun j m h => ?_, s.dis, s.pl, fun a e => ?_, fun j q m h => ?_, s.dfx, s.dff, fun a e => by rw [lose_ne (npa a e)]; exact s.pin a e⟩
  · by_cases c : a = p
    · subst c
      exact h1
    · exact s.old0 a ((lose_ne c).symm.trans h)
  · rw [lose_ne (fun c => by rw [c, h0] at h; cases h)]
    exact s.ex a o h
  · obtain ⟨q, vs, k1, k2, k3, k4, k5⟩ := s.own j m h
    exact ⟨q, vs, k1, k2, k3, (lose_ne (fun c => h2 (.inr (.inl ⟨j, m, h, by rw [c] at k1; exact k1⟩)))).trans k4, k5⟩
  · obtain ⟨⟨y, l, cells, pos, big, seed, cnt, bud, k1, k2⟩, o⟩ := s.pool a e
    exact ⟨⟨y, l, cells, pos, big, seed, cnt, bud, (lose_ne (npa a e)).trans k1, k2⟩, o⟩
  · obtain ⟨k1, k2, k3, o, k4, k5⟩ := s.fix j q m h
    exact ⟨k1, k2, k3, o, (lose_ne (fun c => h2 (.inr (.inr ⟨j, m, by rw [c] at h; exact h⟩)))).trans k4, k5⟩
theorem set_slot {i : Nat} {v : V} (h : Slt σ i v) : σ.set i (some v) = σ := by
  refine List.ext_getElem? fun j => ?_
  by_cases c : i = j
  · subst c
    rw [List.getElem?_set_self (List.getElem?_eq_some_iff.mp h).1]
    exact h.symm
  · rw [List.getElem?_set_ne c]
/-- a name's thing is let go -/
theorem SR.letgo {i : Nat} {p : Addr} {l : FxL} (s : SR K B S H env σ) (h : Has env i (.fix p l)) : SR K B S H (env.set i none) σ ∧ ¬ Ow B (env.set i none) σ p := by
  obtain ⟨h1, h2, h3, o, h4, h5⟩ := s.fix i p l h
  have s1 := s.drop (i := i) (n := some (.ref p))
  rw [set_slot h1] at s1
  refine ⟨s1, fun w => ?_⟩
  rcases w with w | ⟨j, m, w1, w2⟩ | ⟨j, m, w1⟩
  · obtain ⟨_, o, z⟩ := s.pool p w
    rw [h3] at z
    cases z
  · by_cases c : j = i
    · subst c
      exact nomatch set_self w1
    · exact s.dfx i j p l m h (set_other w1 c) w2
  · by_cases c : j = i
    · subst c
      exact nomatch set_self w1
    · exact c (s.dff j i p m l (set_other w1 c) h)
theorem SR.refix {i : Nat} {p : Addr} {l : FxL} {o : HO} (s : SR K B S H env σ) (hs : Slt σ i (.ref p)) (h1 : S p = none) (h2 : B.H0 p = none) (h3 : ¬ Ow B env σ p) (h4 : H p = some o) (h5 : FxAt K S l o) : SR K B S H (env.set i (some (.fix p l))) σ := by
  have q := s.storeF (i := i) h1 h2 h3 h4 h5
  rw [set_slot hs] at q
  exact q
/-- two things handed over, and back -/
theorem SR.handed2 {i j : Nat} {p q : Addr} {l l' m m' : FxL} {o u : HO} {r : R} {v : V} (ij : i ≠ j) (s : SR K B S H env σ) (hp : Has env i (.fix p l)) (hq : Has env j (.fix q m)) (d : DRet K S (lose (lose H p) q) B.pa S' H' r v) (p1 : S' p = none) (p2 : H' p = some o) (p3 : FxAt K S' l' o)
    (q1 : S' q = none) (q2 : H' q = some u) (q3 : FxAt K S' m' u) : SR K B S' H' ((env.set i (some (.fix p l'))).set j (some (.fix q m'))) σ := by
  have pq : p ≠ q := fun z => ij (s.dff i j p l m hp (by rw [z]; exact hq))
  obtain ⟨a1, a2, a3, oa, a4, a5⟩ := s.fix i p l hp
  obtain ⟨b1, b2, b3, ob, b4, b5⟩ := s.fix j q m hq
  obtain ⟨s1, n1⟩ := s.letgo hp
  have hq1 : Has (env.set i none) j (.fix q m) := (List.getElem?_set_ne ij).trans hq
  obtain ⟨s2, n2⟩ := s1.letgo hq1
  have n1' : ¬ Ow B ((env.set i none).set j none) σ p := fun w => n1 (by
    rcases w with w | ⟨k, m, w1, w2⟩ | ⟨k, m, w1⟩
    · exact .inl w
    · by_cases c : k = j
      · subst c
        exact nomatch set_self w1
      · exact .inr (.inl ⟨k, m, set_other w1 c, w2⟩)
    · by_cases c : k = j
      · subst c
        exact nomatch set_self w1
      · exact .inr (.inr ⟨k, m, set_other w1 c⟩))
  have s3 := s2.forget a2 a3 n1'
  have s4 := s3.given b3 n2 d
  have s5 := s4.refix (i := i) (l := l') a1 p1 a3 n1' p2 p3
  have n3 : ¬ Ow B (((env.set i none).set j none).set i (some (.fix p l'))) σ q := fun w => by
    rcases w with w | ⟨k, m, w1, w2⟩ | ⟨k, m, w1⟩
    · exact n2 (.inl w)
    · by_cases c : k = i
      · subst c
        cases set_self w1
      · exact n2 (.inr (.inl ⟨k, m, set_other w1 c, w2⟩))
    · by_cases c : k = i
      · subst c
        cases set_self w1
        exact pq rfl
      · exact n2 (.inr (.inr ⟨k, m, set_other w1 c⟩))
  have s6 := s5.refix (i := j) (l := m') b1 q1 b3 n3 q2 q3
  have e : (((env.set i none).set j none).set i (some (.fix p l'))).set j (some (.fix q m')) = (env.set i (some (.fix p l'))).set j (some (.fix q m')) := by
    rw [List.set_comm _ _ (Ne.symm ij), List.set_set, List.set_set]
  rw [e] at s6
  exact s6
end
end DL
end

section
set_option Elab.async false
set_option linter.all false
set_option maxRecDepth 100000
set_option maxHeartbeats 4000000
namespace DL
open PySem PySem.Spec PyProof.Rows L2
open Evl (Ex)
abbrev FMJ := List R → List D → List D → (R → List D → List D → Prop) → Prop
abbrev anyR : R := .val .any
def startJ (n : Nat) (rs : List R) (p : Addr) (l : List D) (q : Addr) (m : List D) : En := ((startD n (rs ++ [anyR, anyR])).set rs.length (some (.fix p (.lst l)))).set (rs.length + 1) (some (.fix q (.lst m)))
def bodyJ (n : Nat) (b : DSM) : FMJ := fun rs l m Qd => ∀ p q : Addr, b { nx := fun env => ∃ l' m', Has env rs.length (.fix p (.lst l')) ∧ Has env (rs.length + 1) (.fix q (.lst m')) ∧ Qd (.val .non) l' m', rt := fun env r => ∃ l' m', Has env rs.length (.fix p (.lst l')) ∧ Has env (rs.length + 1) (.fix q (.lst m')) ∧ Qd r l' m' } (startJ n rs p l q m)
def LstAt (K : PySem.W.Frag) (S H : Hp) (p : Addr) (l : List D) : Prop := S p = none ∧ ∃ ws, H p = some (.lst ws) ∧ Reps K S ws l
def spJ (K : PySem.W.Frag) (n : Nat) (F : FMJ) : Sp := fun vs H Q _ => ∃ (S : Hp) (pa : Option Addr) (vs0 : List V) (p q : Addr) (rs : List R) (l m : List D) (Qd : R → List D → List D → Prop), vs = vs0 ++ [.ref p, .ref q] ∧ Ex S H ∧ (∀ a, pa = some a → PoolAt S H a) ∧ ArgR K S pa vs0 rs ∧ vs.length = n ∧ p ≠ q ∧
  (pa ≠ some p ∧ LstAt K S H p l) ∧ (pa ≠ some q ∧ LstAt K S H q m) ∧ F rs l m Qd ∧
  ∀ v H' S' r l' m', DRet K S (lose (lose H p) q) pa S' H' r v → LstAt K S' H' p l' → LstAt K S' H' q m' → Qd r l' m' → Q v H'
theorem spJ.imp {K : PySem.W.Frag} {n : Nat} {F F' : FMJ} (h : ∀ rs l m Q, F' rs l m Q → F rs l m Q) : ∀ vs H Q E, spJ K n F' vs H Q E → spJ K n F vs H Q E :=
  fun vs H Q E ⟨S, pa, vs0, p, q, rs, l, m, Qd, h0, h1, h2, h3, h4, h5, h6, h7, h8, h9⟩ => ⟨S, pa, vs0, p, q, rs, l, m, Qd, h0, h1, h2, h3, h4, h5, h6, h7, h _ _ _ _ h8, h9⟩
section
variable {K : PySem.W.Frag} {S H : Hp} {pa : Option Addr}
theorem ArgR.app2 {v : V} {d : D} (r : Rep K S v d) : ∀ {vs : List V} {rs : List R}, ArgR K S pa vs rs → ArgR K S pa (vs ++ [v]) (rs ++ [.val d])
  | _, _, .nil => .val r .nil
  | _, _, .val h t => .val h (ArgR.app2 r t)
  | _, _, .pool h t => .pool h (ArgR.app2 r t)
theorem SR.entryJ {vs : List V} {rs : List R} {N : List Str} {p q : Addr} {l m : List D} (h1 : Ex S H) (h2 : ∀ a, pa = some a → PoolAt S H a) (h3 : ArgR K S pa vs rs) (hn : rs.length + 1 < N.length) (pq : p ≠ q) (hp : pa ≠ some p) (hpl : LstAt K S H p l) (hq : pa ≠ some q) (hql : LstAt K S H q m) :
    SR K ⟨S, lose (lose H p) q, pa⟩ S H (startJ N.length rs p l q m) (L2.start N (vs ++ [.ref p, .ref q])) := by
  have hl := h3.length
  have a1 := (h3.app2 (.any (.ref p))).app2 (.any (.ref q))
  rw [List.append_assoc, List.append_assoc] at a1
  have s0 := SR.entry (N := N) h1 h2 a1
  obtain ⟨p1, ws, p2, p3⟩ := hpl
  obtain ⟨q1, us, q2, q3⟩ := hql
  have len0 : (startD N.length (rs ++ [anyR, anyR])) = rs.map R.nv ++ (some (.val .any) :: some (.val .any) :: List.replicate (N.length - (rs.length + 2)) none) := by
    unfold startD
    rw [List.map_append, List.length_append, List.append_assoc]
    rfl
  have own0 : ∀ j m, ¬ Has (startD N.length (rs ++ [anyR, anyR])) j (.own m) := fun j m h => by
    have h' : (rs.map R.nv ++ (some (.val .any) :: some (.val .any) :: List.replicate (N.length - (rs.length + 2)) none))[j]? = some (some (.own m)) := by rw [← len0]; exact h
    rcases List.mem_append.mp (List.mem_of_getElem? h') with w | w
    · obtain ⟨r, hr, er⟩ := List.mem_map.mp w
      have : ∀ {vs : List V} {rs : List R}, ArgR K S pa vs rs → ∀ r ∈ rs, R.nv r ≠ some (.own m) := fun {vs rs} a => by
        induction a with
        | nil => intro r hr; cases hr
        | val _ _ ih =>
          intro r hr
          rcases List.mem_cons.mp hr with rfl | hr
          · intro z; cases z
          · exact ih r hr
        | pool _ _ ih =>
          intro r hr
          rcases List.mem_cons.mp hr with rfl | hr
          · intro z; cases z
          · exact ih r hr
      exact this h3 r hr er
    · rcases List.mem_cons.mp w with w | w
      · cases w
      · rcases List.mem_cons.mp w with w | w
        · cases w
        · rw [List.mem_replicate] at w
          cases w.2
  have fix0 : ∀ j x m, ¬ Has (startD N.length (rs ++ [anyR, anyR])) j (.fix x m) := fun j x m h => by
    have h' : (rs.map R.nv ++ (some (.val .any) :: some (.val .any) :: List.replicate (N.length - (rs.length + 2)) none))[j]? = some (some (.fix x m)) := by rw [← len0]; exact h
    rcases List.mem_append.mp (List.mem_of_getElem? h') with w | w
    · obtain ⟨r, hr, er⟩ := List.mem_map.mp w
      cases r with
      | val d => cases er
      | own l => cases er
      | brw i l => cases er
      | pool => cases er
    · rcases List.mem_cons.mp w with w | w
      · cases w
      · rcases List.mem_cons.mp w with w | w
        · cases w
        · rw [List.mem_replicate] at w
          cases w.2
  have at0 : Has (startD N.length (rs ++ [anyR, anyR])) rs.length (.val .any) := by
    rw [len0]
    show (rs.map R.nv ++ _)[rs.length]? = _
    rw [List.getElem?_append_right (by rw [List.length_map]; exact Nat.le_refl _), List.length_map, Nat.sub_self]
    rfl
  have at1 : Has (startD N.length (rs ++ [anyR, anyR])) (rs.length + 1) (.val .any) := by
    rw [len0]
    show (rs.map R.nv ++ _)[rs.length + 1]? = _
    rw [List.getElem?_append_right (by rw [List.length_map]; exact Nat.le_succ _), List.length_map, Nat.add_sub_cancel_left]
    rfl
  have slt : ∀ k v, (vs ++ [V.ref p, V.ref q])[k]? = some v → Slt (L2.start N (vs ++ [.ref p, .ref q])) k v := fun k v h => by
    unfold L2.start
    have c : k < ((vs ++ [V.ref p, V.ref q]).map some).length := by
      rw [List.length_map]
      exact (List.getElem?_eq_some_iff.mp h).1
    show ((vs ++ [V.ref p, V.ref q]).map some ++ List.replicate (N.length - (vs ++ [V.ref p, V.ref q]).length) none)[k]? = some (some v)
    rw [List.getElem?_append_left c, List.getElem?_map, h]
    rfl
  have sp : Slt (L2.start N (vs ++ [.ref p, .ref q])) rs.length (.ref p) := slt _ _ (by
    rw [List.getElem?_append_right (by omega), hl, Nat.sub_self]
    rfl)
  have sq : Slt (L2.start N (vs ++ [.ref p, .ref q])) (rs.length + 1) (.ref q) := slt _ _ (by
    rw [List.getElem?_append_right (by omega), hl, Nat.add_sub_cancel_left]
    rfl)
  have s1 := SR.regive (l := .lst l) s0 at0 sp p1 hp (fun j m h => absurd h (own0 j m)) (fun j m => fix0 j p m) p2 ⟨ws, rfl, p3⟩
  refine SR.regive (l := .lst m) s1 ((List.getElem?_set_ne (Nat.ne_of_lt (Nat.lt_succ_self _))).trans at1) sq q1 hq (fun j m h => ?_) (fun j m h => ?_) q2 ⟨us, rfl, q3⟩
  · by_cases c : j = rs.length
    · subst c
      exact nomatch set_self h
    · exact absurd (set_other h c) (own0 j m)
  · by_cases c : j = rs.length
    · subst c
      have e := set_self h
      injection e with e
      injection e with e
      exact pq e
    · exact fix0 j q m (set_other h c)
theorem fn_dJ {P : Program} {w : World} {mg : Str → Option Value} {base : Heap} {x qual : Str} {st : Stmt} {f : Addr} {fd : FuncData} {N ps : List Str} {k : Nat} {b : DSM} (F : Fun K x qual st f fd) (Sc : FnScope N ps (defScope st))
    (hbody : ∀ (cdv : Value) (A : Around) (outer : List Env) (s : Shared) (H : Hp) (E : XK), Room k (A.deeper (envOfC qual (defScope st) s.heap.objs.size f cdv)) → ∃ t, DSs (cxOf CX0 P w K mg base N qual (defScope st) f cdv A outer s H E).nox (defBody st) b t) :
    FnOk P w K mg base CX0 (k + 1) f fd ps (spJ K ps.length (bodyJ N.length b)) := by
  have hpl : ps.length ≤ N.length := by
    have := congrArg List.length Sc.pre
    rw [List.length_take] at this
    omega
  refine F.ok Sc (fun vs H Q E h => ?_) fun cdv A outer s H vs Q E hr h => ?_
  · obtain ⟨S, pa, vs0, p, q, rs, l, m, Qd, h0, h1, h2, h3, h4, h5⟩ := h
    exact h4
  · obtain ⟨S, pa, vs0, p, q, rs, l, m, Qd, rfl, h1, h2, h3, h4, h5, ⟨p1, p2⟩, ⟨q1, q2⟩, h6, h7⟩ := h
    obtain ⟨t, t1, t2⟩ := hbody cdv A outer s H E hr
    have hn : rs.length + 1 < N.length := by
      rw [List.length_append, h3.length] at h4
      have : ([V.ref p, V.ref q] : List V).length = 2 := rfl
      omega
    refine ⟨t, t1, t2 ⟨S, lose (lose H p) q, pa⟩ S H _ _ _ _ (SR.entryJ h1 h2 h3 hn h5 p1 p2 q1 q2) (h6 p q) ?_⟩
    have fin : ∀ {S' H' : Hp} {env : En} {σ : L2.St} {r : R} {v : V}, SR K ⟨S, lose (lose H p) q, pa⟩ S' H' env σ → RetR K ⟨S, lose (lose H p) q, pa⟩ S' H' r v → (∃ l' m', Has env rs.length (.fix p (.lst l')) ∧ Has env (rs.length + 1) (.fix q (.lst m')) ∧ Qd r l' m') → Q v H' := fun s r ⟨l', m', f, g, z⟩ => by
      obtain ⟨_, k2, _, o, k4, ws, rfl, k5⟩ := s.fix _ _ _ f
      obtain ⟨_, g2, _, o, g4, us, rfl, g5⟩ := s.fix _ _ _ g
      exact h7 _ _ _ _ l' m' (s.dret r) ⟨k2, ws, k4, k5⟩ ⟨g2, us, g4, g5⟩ z
    exact ⟨fun S' H' env σ s q => fin s (r := .val .non) .non q, fun S' H' env σ r v s q z => fin s q z, fun _ _ _ _ _ z => z.elim, fun _ _ _ _ _ z => z.elim, fun _ _ _ _ _ _ _ _ _ _ _ _ z => z.elim⟩
end
end DL
end

section
set_option Elab.async false
set_option linter.all false
set_option maxRecDepth 100000
set_option maxHeartbeats 4000000
namespace DL
open PySem PySem.Spec PyProof.Rows L2
open Evl (Ex)
/-! ### such defs called: with the own two lists, with two new ones -/
abbrev DJM := En → (En → List R → Addr → List D → Addr → List D → Prop) → Prop
def DFJ (X : Cx) (i j : Nat) (es : List Expr) (m : DJM) (t : TA) : Prop := PA X es t ∧ ∀ (B : Bs) (S H : Hp) (env : En) (σ : L2.St) (Q : En → List R → Addr → List D → Addr → List D → Prop) (Qv : List V → Hp → Prop), SR X.K B S H env σ → m env Q →
  (∀ vs p q H' S' env' rs l m, TPo X.K B S H env σ S' H' env' → LkA X.K B S' H' vs rs → Has env' i (.fix p (.lst l)) → Has env' j (.fix q (.lst m)) → vs.length + 2 = es.length → Q env' rs p l q m → Qv (vs ++ [.ref p, .ref q]) H') → t σ H Qv
def dEndJ (i j : Nat) : DJM := fun env Q => match env[i]?, env[j]? with
  | some (some (.fix p (.lst l))), some (some (.fix q (.lst m))) => Q env [] p l q m
  | _, _ => False
def dConsJ (m : DM) (n : DJM) : DJM := fun env Q => m env fun env1 r => n env1 fun env2 rs p l q m => Q env2 (r :: rs) p l q m
def dCallJ (i j : Nat) (F : FMJ) (n : DJM) : PM := fun env Q _ => n env fun env' rs p l q m => argsOk rs = true ∧ F rs l m fun r l' m' => match r with
  | .val d => Q ((env'.set i (some (.fix p (.lst l')))).set j (some (.fix q (.lst m')))) d
  | _ => False
abbrev DL2M := En → (En → List R → List D → List D → Prop) → Prop
def DLA2 (X : Cx) (es : List Expr) (m : DL2M) (t : TA) : Prop := PA X es t ∧ ∀ (B : Bs) (S H : Hp) (env : En) (σ : L2.St) (Q : En → List R → List D → List D → Prop) (Qv : List V → Hp → Prop), SR X.K B S H env σ → m env Q →
  (∀ vs p q H' S' env' rs l m, TPo X.K B S H env σ S' H' env' → LkA X.K B S' H' vs rs → Gift X.K B H S' H' env' σ p l → Gift X.K B H S' H' env' σ q m → p ≠ q → vs.length + 2 = es.length → Q env' rs l m → Qv (vs ++ [.ref p, .ref q]) H') → t σ H Qv
def dEnd2 (m n : DM) : DL2M := fun env Q => m env fun env1 r1 => n env1 fun env2 r2 => match r1, r2 with
  | .own l, .own m => Q env2 [] l m
  | _, _ => False
def dCons2 (m : DM) (n : DL2M) : DL2M := fun env Q => m env fun env1 r => n env1 fun env2 rs l m => Q env2 (r :: rs) l m
def dCall2 (F : FMJ) (n : DL2M) : DM := fun env Q => n env fun env' rs l m => argsOk rs = true ∧ F rs l m fun r _ _ => match r with
  | .val d => Q env' (.val d)
  | _ => False
/-- name op e, e a call that may change things -/
def dOpV (i : Nat) (o : M2) (n : PM) : PM := fun env Q Qx => match env[i]? with
  | some (some (.own _)) => n env (fun env' d => match env'[i]? with
    | some (some (.own l)) => o (.lst l) d fun r => match r with
      | .val x => Q env' x
      | .own x => Q env' (.lst x)
      | _ => False
    | _ => False) Qx
  | some (some (.val _)) => n env (fun env' d => match env'[i]? with
    | some (some (.val y)) => o y d fun r => match r with
      | .val x => Q env' x
      | .own x => Q env' (.lst x)
      | _ => False
    | _ => False) Qx
  | _ => False
section
variable {X : Cx} {a b : Expr} {ma mb : DM} {ta tb : TE} {k : Nat} {f : Addr} {fd : FuncData} {ps : List Str} {F : FMJ} {x : Str} {p pos : Pos} {e : Expr} {es : List Expr} {n : DJM} {n2 : DL2M} {tn : TA} {np i j : Nat}
theorem dfj_end (hv : PE X a (tVar i)) (hw : PE X b (tVar j)) (hs : starEach (a :: [b]) X.env = (false, eval a X.env) :: starEach [b] X.env := by rfl) (hs2 : starEach (b :: []) X.env = (false, eval b X.env) :: starEach [] X.env := by rfl) : DFJ X i j [a, b] (dEndJ i j) (tCons (tVar i) (tCons (tVar j) tNil)) := by
  refine ⟨pa_cons hv (pa_cons hw pa_nil hs2) hs, fun B S H env σ Q Qv s q k => ?_⟩
  unfold dEndJ at q
  split at q
  · rename_i p l q' m c1 c2
    obtain ⟨h1, _⟩ := s.fix i p _ c1
    obtain ⟨h2, _⟩ := s.fix j q' _ c2
    exact ⟨_, h1, _, h2, k [] p q' H S env [] l m (.refl s) .nil c1 c2 rfl q⟩
  · exact q.elim
theorem dfj_cons (ha : DE X a ma ta) (hb : DFJ X i j es n tn) (hs : starEach (a :: es) X.env = (false, eval a X.env) :: starEach es X.env := by rfl) : DFJ X i j (a :: es) (dConsJ ma n) (tCons ta tn) := by
  refine ⟨pa_cons ha.1 hb.1 hs, fun B S H env σ Q Qv s q k => ?_⟩
  refine ha.2 B S H env σ _ _ s q fun x H1 S1 env1 r1 e1 q1 => ?_
  refine hb.2 B S1 H1 env1 σ _ _ e1.sr q1 fun vs p q' H2 S2 env2 rs l m e2 l2 g g' len2 q2 => ?_
  refine k (x :: vs) p q' H2 S2 env2 (r1 :: rs) l m (e1.t.trans e2) (.cons (RepB.go e1 rfl e2) (fun d e => ?_) (fun e => ?_) l2) g g' (by rw [List.length_cons, List.length_cons]; omega) q2
  · subst e
    have := e1.res
    exact Rep.mono e2.go.ex this
  · subst e
    exact e1.res
theorem dp_callJ (ij : i ≠ j) (hF : FnOk X.prog X.w X.K X.mg X.base CX0 k f fd ps (spJ X.K np F)) (hr : Room k X.A) (hg : Gl X x) (hm : X.mg x = some (.ref f)) (hk : PySem.W.keepIn X.K (.ref f) = true) (hb : Binds X.K fd ps [])
    (ha : DFJ X i j (e :: es) n tn) (hlen : (e :: es).length = np) (hdb : (x == ("__debug__" : Str)) = false := by decide) (he : starEach (e :: es) X.env = (false, eval e X.env) :: starEach es X.env := by rfl) (hpl : (backTo pos (starEach es X.env)).any (·.1) = false := by rfl) :
    DP X (.Call (.Name x p) (e :: es) [] pos) (dCallJ i j F n) (tCall (spJ X.K np F) [] E0 tn) := by
  refine ⟨pe_call hF hr hg hm hk hb .nil pass0 ha.1 hdb he hpl, fun B S H env σ Q Qx Qv s q xk k => ha.2 B S H env σ _ _ s q fun vs p q' H1 S1 env1 rs l m z lk g g' len q1 => ?_⟩
  show spJ X.K np F ((vs ++ [.ref p, .ref q']) ++ []) H1 Qv E0
  rw [List.append_nil]
  obtain ⟨h1, h2, h3, o, h4, ws, rfl, h5⟩ := z.sr.fix i p _ g
  obtain ⟨g1, g2, g3, o, g4, us, rfl, g5⟩ := z.sr.fix j q' _ g'
  have hpa : B.pa ≠ some p := fun e => by
    obtain ⟨_, o, w⟩ := z.sr.pool p e
    rw [h3] at w
    cases w
  have hqa : B.pa ≠ some q' := fun e => by
    obtain ⟨_, o, w⟩ := z.sr.pool q' e
    rw [g3] at w
    cases w
  have pq : p ≠ q' := fun w => ij (z.sr.dff i j p _ _ g (by rw [w]; exact g'))
  refine ⟨S1, B.pa, vs, p, q', rs, l, m, _, rfl, z.sr.ex, fun a e => (z.sr.pool a e).1, lk.args q1.1, by rw [List.length_append]; exact len.trans hlen, pq, ⟨hpa, h2, ws, h4, h5⟩, ⟨hqa, g2, us, g4, g5⟩, q1.2, fun v H' S' r l' m' d ⟨c1, vs1, c2, c3⟩ ⟨d1, vs2, d2, d3⟩ qr => ?_⟩
  cases r with
  | val d0 => exact k v d0 H' S' _ (z.sr.handed2 (l' := .lst l') (m' := .lst m') ij g g' d c1 c2 ⟨_, rfl, c3⟩ d1 d2 ⟨_, rfl, d3⟩) d.ret qr
  | own l2 => exact qr.elim
  | pool => exact qr.elim
  | brw i l2 => exact qr.elim
theorem dla2_end (ha : DE X a ma ta) (hb : DE X b mb tb) (hs : starEach (a :: [b]) X.env = (false, eval a X.env) :: starEach [b] X.env := by rfl) (hs2 : starEach (b :: []) X.env = (false, eval b X.env) :: starEach [] X.env := by rfl) : DLA2 X [a, b] (dEnd2 ma mb) (tCons ta (tCons tb tNil)) := by
  refine ⟨pa_cons ha.1 (pa_cons hb.1 pa_nil hs2) hs, fun B S H env σ Q Qv s q k => ?_⟩
  refine ha.2 B S H env σ _ _ s q fun v H1 S1 env1 r1 e1 q1 => ?_
  refine hb.2 B S1 H1 env1 σ _ _ e1.sr q1 fun u H2 S2 env2 r2 e2 q2 => ?_
  split at q2
  · rename_i l m
    obtain ⟨p, ws, rfl, z1, z2, z3, z4, z5, z6⟩ := e1.res
    obtain ⟨q', us, rfl, y1, y2, y3, y4, y5, y6⟩ := e2.res
    have ne : p ≠ q' := fun c => by
      rw [← c, z5] at y3
      cases y3
    exact k [] p q' H2 S2 env2 [] l m (e1.t.trans e2.t) .nil ⟨e2.go.nw p _ z5 z4 z1, z2, fun w => z4 (Ow.frz e2.fz w), z3, ws, e2.go.keep p _ z5 z4, z6.mono e2.go.ex⟩ ⟨y1, y2, y4, e1.go.old q' y3, us, y5, y6⟩ ne rfl q2
  · exact q2.elim
theorem dla2_cons (ha : DE X a ma ta) (hb : DLA2 X es n2 tn) (hs : starEach (a :: es) X.env = (false, eval a X.env) :: starEach es X.env := by rfl) : DLA2 X (a :: es) (dCons2 ma n2) (tCons ta tn) := by
  refine ⟨pa_cons ha.1 hb.1 hs, fun B S H env σ Q Qv s q k => ?_⟩
  refine ha.2 B S H env σ _ _ s q fun x H1 S1 env1 r1 e1 q1 => ?_
  refine hb.2 B S1 H1 env1 σ _ _ e1.sr q1 fun vs p q' H2 S2 env2 rs l m e2 l2 g g' ne len2 q2 => ?_
  refine k (x :: vs) p q' H2 S2 env2 (r1 :: rs) l m (e1.t.trans e2) (.cons (RepB.go e1 rfl e2) (fun d e => ?_) (fun e => ?_) l2) ⟨g.s, g.b, g.o, e1.go.old p g.n, g.at_⟩ ⟨g'.s, g'.b, g'.o, e1.go.old q' g'.n, g'.at_⟩ ne (by rw [List.length_cons, List.length_cons]; omega) q2
  · subst e
    have := e1.res
    exact Rep.mono e2.go.ex this
  · subst e
    exact e1.res
theorem de_call2 (hF : FnOk X.prog X.w X.K X.mg X.base CX0 k f fd ps (spJ X.K np F)) (hr : Room k X.A) (hg : Gl X x) (hm : X.mg x = some (.ref f)) (hk : PySem.W.keepIn X.K (.ref f) = true) (hb : Binds X.K fd ps [])
    (ha : DLA2 X (e :: es) n2 tn) (hlen : (e :: es).length = np) (hdb : (x == ("__debug__" : Str)) = false := by decide) (he : starEach (e :: es) X.env = (false, eval e X.env) :: starEach es X.env := by rfl) (hpl : (backTo pos (starEach es X.env)).any (·.1) = false := by rfl) :
    DE X (.Call (.Name x p) (e :: es) [] pos) (dCall2 F n2) (tCall (spJ X.K np F) [] E0 tn) := by
  refine ⟨pe_call hF hr hg hm hk hb .nil pass0 ha.1 hdb he hpl, fun B S H env σ Q Qv s q k => ha.2 B S H env σ _ _ s q fun vs p q' H1 S1 env1 rs l m z lk g g' ne len q1 => ?_⟩
  show spJ X.K np F ((vs ++ [.ref p, .ref q']) ++ []) H1 Qv E0
  rw [List.append_nil]
  refine ⟨S1, B.pa, vs, p, q', rs, l, m, _, rfl, z.sr.ex, fun a e => (z.sr.pool a e).1, lk.args q1.1, by rw [List.length_append]; exact len.trans hlen, ne, ⟨fun e => g.o (.inl e), g.s, g.at_⟩, ⟨fun e => g'.o (.inl e), g'.s, g'.at_⟩, q1.2, fun v H' S' r l' m' d _ _ qr => ?_⟩
  have s' := (z.sr.forget g.s g.b g.o).given g'.b g'.o d
  have go : Go (Ow B env σ) S H S' H' := by
    refine ⟨z.go.ex.trans d.ex, fun a o h nz => ?_, fun a o h nz e => ?_, fun a h => ?_⟩
    · have n1 : a ≠ p := fun c => by rw [c, g.n] at h; cases h
      have n2 : a ≠ q' := fun c => by rw [c, g'.n] at h; cases h
      exact d.keep a o ((lose_ne n2).trans ((lose_ne n1).trans (z.go.keep a o h nz))) fun e => nz (.inl e)
    · have n1 : a ≠ p := fun c => by rw [c, g.n] at h; cases h
      have n2 : a ≠ q' := fun c => by rw [c, g'.n] at h; cases h
      exact d.nw a o ((lose_ne n2).trans ((lose_ne n1).trans (z.go.keep a o h nz))) (z.go.nw a o h nz e)
    · by_cases n1 : a = p
      · subst n1
        exact g.n
      · by_cases n2 : a = q'
        · subst n2
          exact g'.n
        · exact z.go.old a ((lose_ne n1).symm.trans ((lose_ne n2).symm.trans (d.old a h)))
  cases r with
  | val d0 => exact k v H' S' env1 (.val d0) ⟨s', go, z.fz, d.ret⟩ qr
  | own l2 => exact qr.elim
  | pool => exact qr.elim
  | brw i l2 => exact qr.elim
/-- what a rule by values has given, kept -/
theorem SR.nwr {K : PySem.W.Frag} {B : Bs} {S H S' H' : Hp} {env : En} {σ : L2.St} {r : R} {v : V} (s : SR K B S H env σ) (n : NwR K S H S' H' r v) : ∃ S'' d, SR K B S'' H' env σ ∧ Rep K S'' v d ∧ ((∃ x, r = .val x ∧ d = x) ∨ ∃ l, r = .own l ∧ d = .lst l) := by
  cases r with
  | val x => exact ⟨S', x, s.nw n.1, n.2, .inl ⟨x, rfl, rfl⟩⟩
  | own l =>
    obtain ⟨n1, p, vs, rfl, h1, h2, h3, h4⟩ := n
    have e1 : Ex S' (upd S' p (.lst vs)) := Ex.new h2
    have nO : ¬ Ow B env σ p := s.now h1
    exact ⟨_, .lst l, (s.nw n1).add h2 (s.hp0 h1) nO h3, .lst upd_same (h4.mono e1), .inr ⟨l, rfl, rfl⟩⟩
  | brw i l => exact n.elim
  | pool => exact n.elim
theorem dp_opV {op : Operator} {r : R2} {o : M2} {m : PM} (ho : OpR X (binaryOp op) r) (hd : OpD X.K r o) (hv : PE X a (tVar i)) (hb : DP X b m tb) : DP X (.BinOp a op b pos) (dOpV i o m) (tOp r (tVar i) tb) := by
  refine ⟨pe_op ho hv hb.1, fun B S H env σ Q Qx Qv s q xk k => ?_⟩
  have fin : ∀ {S2 H2 : Hp} {env2 : En} {x y : V} {dx dy : D}, SR X.K B S2 H2 env2 σ → RepB X.K S2 H2 x dx → Rep X.K S2 y dy → (o dx dy fun r => match r with
      | .val x => Q env2 x
      | .own x => Q env2 (.lst x)
      | _ => False) → r x y H2 Qv := fun {S2 H2 env2 x y dx dy} s2 r1 r2 q2 => by
    refine hd S2 H2 x y dx dy _ Qv s2.ex r1 (.inl r2) q2 fun v H3 S3 z n q3 => ?_
    obtain ⟨S4, d, s4, r4, hz⟩ := s2.nwr n
    rcases hz with ⟨x, rfl, rfl⟩ | ⟨l, rfl, rfl⟩
    · exact k v _ H3 S4 env2 s4 r4 q3
    · exact k v _ H3 S4 env2 s4 r4 q3
  unfold dOpV at q
  split at q
  · rename_i l0 c0
    obtain ⟨p, vs, hp, _⟩ := s.own i _ c0
    refine ⟨_, hp, hb.2 B S H env σ _ Qx _ s q xk fun u d H2 S2 env2 s2 r2 q2 => ?_⟩
    split at q2
    · rename_i l c
      obtain ⟨p', ws, y1, y2, y3, y4, y5⟩ := s2.own i l c
      cases Slt.ref hp y1
      exact fin s2 (.inr ⟨p, ws, l, rfl, rfl, y4, y5⟩) r2 q2
    · exact q2.elim
  · rename_i x0 c0
    obtain ⟨v, hp, _⟩ := s.val i _ c0
    refine ⟨_, hp, hb.2 B S H env σ _ Qx _ s q xk fun u d H2 S2 env2 s2 r2 q2 => ?_⟩
    split at q2
    · rename_i y c
      obtain ⟨w, y1, y2⟩ := s2.val i y c
      cases Slt.inj hp y1
      exact fin s2 (.inl y2) r2 q2
    · exact q2.elim
  · exact q.elim
end
end DL
end

section
set_option Elab.async false
set_option linter.all false
set_option maxRecDepth 100000
set_option maxHeartbeats 4000000
/-! isinstance of an own error that the suite holds, its field set. -/
namespace EX
open PySem PySem.W PySem.Spec PySem.Calls PyProof.Rows
section
variable {prog : Program} {w : World} {A : Around} {E : Value → Shared → Prop} {s : Shared} {K : Frag} {x D : Addr} {ox : Obj} {od : Option Obj}
theorem descr_any {C : Addr} {nm : Str} {at_ gt : Value} (h1 : (clsIn K C).isSome = true) (h2 : findIn K (.ref C) nm = some (some at_)) (h3 : specialIn K at_ "__get__" = some (some gt)) (h4 : takesIn K at_ = some true) : findObj K C od nm = some (.bind gt at_) := by
  obtain ⟨c, h1⟩ := Option.isSome_iff_exists.mp h1
  unfold findObj
  rw [h1, Option.bind_some, h2, Option.bind_some]
  simp [h3, h4]
theorem cls_read {Q : Option Value → Shared → Prop} (T : L2.ExcC K D) (X : K.In s.heap) (I : InstAt s.heap x ox D od) (h : Q (some (.ref D)) { s with toks := s.toks + 1 }) : wpAny (model prog w) A (getAttr? (.ref x) "__class__") Q E s := by
  have hf : findObj K D od "__class__" = some (.bind (.builtin "getset_descriptor.__get__") (.builtin "object.__class__")) := descr_any (by obtain ⟨c, q, _⟩ := any_some T.hd; rw [q]; rfl) T.ha T.hn T.ht
  obtain ⟨hp, g, d, t, os⟩ := s
  have la := I.type (M := model prog w)
  have lb := looks_findIn (M := model prog w) X T.hg
  have lc := looks_findIn (M := model prog w) X T.hk
  have ld := looks_find (M := model prog w) X I hf
  have sb : Looks (model prog w) hp (isInstance (.ref x) (.type "BaseException")) true := la.andThen (looks_subIn X T.hs)
  have e1 : (Value.builtin "BaseException.__getattribute__" == Value.builtin "object.__getattribute__") = false := by decide +kernel
  have e2 : (onTheHeap (Value.ref D) && Value.builtin "BaseException.__getattribute__" == Value.builtin "object.__getattribute__") = false := by rw [e1]; rfl
  unfold getAttr? getAttrBy? getAttrBy; refine wpAny_bind (wpAny_mkText (wpAny_bind (wpAny_attempt (wpAny_holding (wpAny_bind (la.at (wpAny_bind (lb.at ?_))))))))
  show wpAny _ _ (if (onTheHeap (Value.ref D) && Value.builtin "BaseException.__getattribute__" == Value.builtin "object.__getattribute__") = true then _ else _) _ _ _
  rw [e2, if_neg Bool.false_ne_true]; unfold getAttrByItsOwn hookBefore
  refine wpAny_bind ?_
  rw [if_pos (show onTheHeap (Value.ref D) = true from rfl)]; refine lc.at ?_
  refine wpAny_bind (wpAny_attempt (wpAny_holding ?_)); unfold callGetattribute
  rw [show (false && onTheHeap (Value.builtin "BaseException.__getattribute__")) = false from rfl, if_neg Bool.false_ne_true]
  unfold boundAndCalled
  rw [PySem.F.excAttr_ValueError.ga.bind (.ref x)]; refine wpAny_bind (wpAny_pure ?_)
  show wpAny _ _ (call (.builtin "BaseException.__getattribute__") [.ref x, .str "__class__" t]) _ _ _
  refine wpAny_call (codeAny_call_builtin PySem.F.excAttr_ValueError.ga.plain PySem.F.entry_bexc_ga ?_)
  refine @check_slot (model prog w) _ _ ⟨hp, g, d, t + 1, os⟩ "BaseException.__getattribute__" "BaseException" "__getattribute__" (.ref x) [.str "__class__" t] [] _ (by decide +kernel) (by decide +kernel) sb (PySem.F.args_bexc_ga (.ref x) (.str "__class__" t)) ?_
  unfold Builtin.«object.__getattribute__»
  refine wpAny_bind (wpAny_of_eq (a := ((Value.ref x : Value), [Value.str "__class__" t])) (by first | rfl | (simp only [slotArgs]; rfl)) ?_)
  refine wpAny_bind (wpAny_pure (wpAny_bind (la.at (wpAny_bind (ld.at ?_)))))
  show wpAny _ _ (holding [Value.builtin "object.__class__"] (call (.builtin "getset_descriptor.__get__") [.builtin "object.__class__", .ref x, .ref D]) >>= ret) _ _ _
  refine wpAny_bind (wpAny_holding (wpAny_call (class_get (s := ⟨hp, g, d, t + 1, os⟩) (ox := ox) (od := od) X I T.hm ?_)))
  refine wpAny_pure ?_
  show wpAny _ _ (handedOut (.ref D)) _ _ _
  rw [handedOut_of (v := .ref D) rfl]
  first
    | exact wpAny_pure (wpAny_pure h)
    | exact wpAny_pure h
    | exact wpAny_pure (wpAny_bind (wpAny_pure (wpAny_pure h)))
theorem kit_err (T : L2.ExcC K D) : KitX K (.ref x) (.ref D) (fun h => InstAt h x ox D od) where
  ty := fun _ _ _ I => I.type
  it := fun _ _ X _ => by
    obtain ⟨c, hc, _⟩ := any_some T.hd
    unfold clsIn at hc
    split at hc
    · rename_i c' d' cd' sl' ho
      intro A' Q' E' s' k q
      unfold isType loadHead
      exact wpAny_bind (wpAny_loadPart (k _ _ (X _ _ ho)) (wpAny_pure q))
    · cases hc
  ne := fun h tp dd its n sl X htp => by
    obtain ⟨c, hc, _⟩ := any_some T.hd
    refine Bool.eq_false_iff.mpr fun q => ?_
    obtain rfl : D = tp := Value.ref.inj (beq_iff_eq.mp q)
    unfold clsIn at hc
    split at hc
    · rename_i c' d' cd' sl' ho
      cases (X _ _ ho).symm.trans htp
    · cases hc
  ca := fun X I k => cls_read T X I k
end
end EX
namespace L2
open PySem PySem.Spec PyProof.Rows
/-- isinstance(e, c), isinstance(e, (c, ..)), e the own error that the suite holds -/
def rIsErr (K : PySem.W.Frag) (D a : Addr) : List V → Hp → VK → Prop := fun xs H Q => ∃ (c : V) (cv : Value) (b : Bool), xs = [.ref a, c] ∧ ClsV c cv ∧ PySem.W.kitOne K (.ref D) cv = some b ∧ Q (.bl b) H
def rIsErrT (K : PySem.W.Frag) (D a : Addr) : List V → Hp → VK → Prop := fun xs H Q => ∃ (tp : Addr) (cs : List V) (us : List Value) (b : Bool), xs = [.ref a, .ref tp] ∧ H tp = some (.tup cs) ∧ Paired ClsV cs us ∧ PySem.W.kitAny K (.ref D) us = some b ∧ Q (.bl b) H
section
variable {X : Cx} {a D dd : Addr} {oe : Obj} {pn : List (Addr × Obj)}
theorem inst_err {pins : List (Addr × Obj)} {σ : L2.St} {H : Hp} {s : Shared} {fs : List (Str × V)} (hz : Zc (.ref D) (some dd) oe) (hf : ∃ vs, oe.data = .fields vs) (I : Inv (X.suite a ((a, oe) :: pn)) pins σ H s) (hd : H dd = some (.xd fs)) : ∃ od, PySem.W.InstAt s.heap a oe D od := by
  obtain ⟨hget, _⟩ := I.pin (a, oe) (List.mem_append.mpr (.inl List.mem_cons_self))
  obtain ⟨vs, hv⟩ := hf
  have ox : ObjOk X.prog X.w H s.heap dd (.xd fs) := I.hok dd _ hd
  obtain ⟨mA, hns, hr⟩ := ox
  obtain ⟨od, ho, hl⟩ := lookIn_ns hns
  exact ⟨some od, hget, hz.1, by unfold PySem.W.notCls; rw [hv] <;> rfl, by rw [hz.2]; exact ho⟩
theorem call_isErr (C : ExcC X.K D) (hz : Zc (.ref D) (some dd) oe) (hf : ∃ vs, oe.data = .fields vs) : CallR (X.suite a ((a, oe) :: pn)) (.builtin "isinstance") (fun xs H Q => (∃ fs, H dd = some (.xd fs)) ∧ rIsErr X.K D a xs H Q) := by
  intro pins s σ H xs us Q I r h
  obtain ⟨⟨fs, hd⟩, c, cv, b, rfl, hcv, e, q⟩ := h
  cases r with
  | cons rx rr =>
    cases rr with
    | cons rt rr =>
      cases rr
      cases rx
      have ec := hcv.eq rt
      subst ec
      obtain ⟨od, J⟩ := inst_err hz hf I hd
      exact PySem.W.kia_one (EX.kit_err C) I.kIn J e (fun z => nomatch z) fun tk => ⟨.bl b, H, I.kept (t' := tk) fun _ _ z => z, rfl, q⟩
theorem call_isErrT (C : ExcC X.K D) (hz : Zc (.ref D) (some dd) oe) (hf : ∃ vs, oe.data = .fields vs) : CallR (X.suite a ((a, oe) :: pn)) (.builtin "isinstance") (fun xs H Q => (∃ fs, H dd = some (.xd fs)) ∧ rIsErrT X.K D a xs H Q) := by
  intro pins s σ H xs us Q I r h
  obtain ⟨⟨fs, hd⟩, tp, cs, ws, b, rfl, ht, hcv, e, q⟩ := h
  cases r with
  | cons rx rr =>
    cases rr with
    | cons rt rr =>
      cases rr
      cases rx
      cases rt
      obtain ⟨od, J⟩ := inst_err hz hf I hd
      have ot : ObjOk X.prog X.w H s.heap tp (.tup cs) := I.hok tp _ ht
      obtain ⟨_, its, rv, u, g1, g2, n, g3⟩ := ot
      have e3 := ClsV.all hcv rv
      subst e3
      obtain ⟨uc, ud, dt, sl⟩ := u
      simp only at g2 g3
      subst g2 g3
      exact PySem.W.kia_tup (EX.kit_err C) I.kIn J g1 e (fun z => nomatch z) fun tk => ⟨.bl b, H, I.tok tk, rfl, q⟩
end
end L2
end

section
set_option Elab.async false
set_option linter.all false
set_option maxRecDepth 100000
set_option maxHeartbeats 4000000
namespace L2H
theorem RoomH.units {k : Nat} {A : PySem.Around} (r : RoomH k A) : A.units + 64 < PySem.cLine := by have := r.un; omega
theorem RoomH.units1 {k : Nat} {A : PySem.Around} (r : RoomH k A) : A.units + 65 < PySem.cLine := by have := r.un; omega
end L2H
namespace DL
open PySem PySem.Spec PyProof.Rows L2
open Evl (Ex)
/-! ### in an except suite -/
section
variable {P : Program} {w : World} {K : PySem.W.Frag} {mg : Str → Option Value} {base : Heap} {x qual : Str} {st : Stmt} {f : Addr} {fd : FuncData} {N ps : List Str} {k : Nat} {m : DSM}
theorem fn_dH (F : Fun K x qual st f fd) (Sc : FnScope N ps (defScope st))
    (hbody : ∀ (cdv : Value) (A : Around) (outer : List Env) (s : Shared) (H : Hp) (E : XK) (p : Addr × Obj), L2H.Hot1 A p → L2H.RoomH k (A.deeper (envOfC qual (defScope st) s.heap.objs.size f cdv)) → ∃ t, DSs (L2H.cxH CX0 P w K mg base N qual (defScope st) f cdv A outer s H E p) (defBody st) m t) :
    L2H.FnH P w K mg base CX0 (k + 1) f fd ps (spF K ps.length (bodyF N.length m)) := by
  obtain ⟨oc, od, kV, doc, pm, an, cdv, ct, osl, rfl, lk, hcd⟩ := F.ex
  refine L2H.fn_ofH lk hcd Sc (fun vs H Q E h => ?_) fun A outer s H vs Q E p hot hr h => ?_
  · obtain ⟨S, pa, rs, Qd, h1, h2, h3, h4, h5⟩ := h
    exact h4
  · obtain ⟨S, pa, rs, Qd, h1, h2, h3, h4, h5, h6⟩ := h
    obtain ⟨t, t1, t2⟩ := hbody cdv A outer s H E p hot hr
    refine ⟨t, t1, t2 ⟨S, H, pa⟩ S H _ _ _ _ (SR.entry h1 h2 h3) h5 ?_⟩
    exact ⟨fun S' H' env σ s q => h6 _ _ _ (.val .non) (s.dret .non) q, fun S' H' env σ r v s q z => h6 _ _ _ _ (s.dret q) z, fun _ _ _ _ _ z => z.elim, fun _ _ _ _ _ z => z.elim, fun _ _ _ _ _ _ _ _ _ _ _ _ z => z.elim⟩
theorem _root_.L2H.FnH.imp {CX : CXT} {sp sp' : Sp} (h : L2H.FnH P w K mg base CX k f fd ps sp') (i : ∀ vs H Q E, sp vs H Q E → sp' vs H Q E) : L2H.FnH P w K mg base CX k f fd ps sp :=
  ⟨fun vs H Q E z => h.len vs H Q E (i _ _ _ _ z), fun A outer s H args us vs Q E p hr hot hp he hb hv z => h.run A outer s H args us vs Q E p hr hot hp he hb hv (i _ _ _ _ z)⟩
end
section
variable {X : Cx} {k : Nat} {f : Addr} {fd : FuncData} {ps : List Str} {F : FM} {x : Str} {p pos : Pos} {e : Expr} {es : List Expr} {n : DAM} {tn : TA} {np : Nat}
theorem de_callH {K : PySem.W.Frag} (hF : L2H.FnH X.prog X.w X.K X.mg X.base CX0 k f fd ps (spF K np F)) (hr : L2H.RoomH k X.A) (hc : L2H.HotC X) (hg : Gl X x) (hm : X.mg x = some (.ref f)) (hk : PySem.W.keepIn X.K (.ref f) = true) (hb : Binds X.K fd ps [])
    (ha : DA X (e :: es) n tn) (hlen : (e :: es).length = np) (hK : K = X.K := by rfl) (hdb : (x == ("__debug__" : Str)) = false := by decide) (he : starEach (e :: es) X.env = (false, eval e X.env) :: starEach es X.env := by rfl) (hpl : (backTo pos (starEach es X.env)).any (·.1) = false := by rfl) :
    DE X (.Call (.Name x p) (e :: es) [] pos) (dCall F n) (tCallS (spF K np F) (fun _ => E0) tn) := by
  subst hK
  exact ⟨L2H.pe_callH hF hr hc hg hm hk hb (fun _ _ _ _ _ _ _ h => h.elim) ha.1 hdb he hpl, fun B S H env σ Q Qv s q k => ha.2 B S H env σ _ _ s q fun vs H1 S1 env1 rs z l len q1 => spF_call z.sr l q1.1 (len.trans hlen) q1.2 fun v H' S' env' r a b => k v H' S' env' r (z.e a) b⟩
end
theorem dt_truK {X : Cx} {a : Expr} {ma : DM} {ta : TE} (K : PySem.W.Frag) (ha : DE X a ma ta) (hK : K = X.K := by rfl) (he : ∀ whole, isTrue a X.env whole = (do let v ← whole; standAt a.pos; holding [v] (truthy v)) := by intro _; rfl) : DT X a (dTru ma) (tTruth K ta) := by
  subst hK
  exact dt_tru ha he
/-- e.a, e the error that the suite holds -/
def dErrF (e0 : Addr) (cls : Value) (d : Option Addr) (C : Addr) (a : Str) (j : Nat) : DM := fun env Q => match env[j]? with
  | some (some (.val (.err e1 dd C' a' v))) => (e1 = e0 ∧ cls = .ref C ∧ d = some dd ∧ a' = a) ∧ Q env (.val v)
  | _ => False
/-- isinstance(e, ..), its answer b -/
def dIsErr (e0 : Addr) (cls : Value) (d : Option Addr) (C : Addr) (b : Bool) (j : Nat) : DM := fun env Q => match env[j]? with
  | some (some (.val (.err e1 dd C' a' v))) => (e1 = e0 ∧ cls = .ref C ∧ d = some dd) ∧ Q env (.val (.bl b))
  | _ => False
def rErr1 (K : PySem.W.Frag) (cls : Value) (d : Option Addr) (a : Addr) : List V → Hp → VK → Prop := fun xs H Q => ∃ D dd fs, cls = .ref D ∧ d = some dd ∧ H dd = some (.xd fs) ∧ ExcC K D ∧ rIsErr K D a xs H Q
def rErrT (K : PySem.W.Frag) (cls : Value) (d : Option Addr) (a : Addr) : List V → Hp → VK → Prop := fun xs H Q => ∃ D dd fs, cls = .ref D ∧ d = some dd ∧ H dd = some (.xd fs) ∧ ExcC K D ∧ rIsErrT K D a xs H Q
section
variable {X : Cx} {e0 C : Addr} {oe : Obj} {cls : Value} {d : Option Addr} {pn : List (Addr × Obj)} {e c : Expr} {es : List Expr} {pos p p2 : Pos} {a txt : Str} {j : Nat} {fI : Addr}
theorem call_err1 (hz : L2N.Zn cls d oe) (hf : ∃ vs, oe.data = .fields vs) : CallR (X.suite e0 ((e0, oe) :: pn)) (.builtin "isinstance") (rErr1 X.K cls d e0) := fun pins s σ H xs us Q I r ⟨D, dd, fs, h1, h2, h3, h4, h5⟩ => by
  subst h1 h2
  exact call_isErr h4 hz.zc hf pins s σ H xs us Q I r ⟨⟨fs, h3⟩, h5⟩
theorem call_errT (hz : L2N.Zn cls d oe) (hf : ∃ vs, oe.data = .fields vs) : CallR (X.suite e0 ((e0, oe) :: pn)) (.builtin "isinstance") (rErrT X.K cls d e0) := fun pins s σ H xs us Q I r ⟨D, dd, fs, h1, h2, h3, h4, h5⟩ => by
  subst h1 h2
  exact call_isErrT h4 hz.zc hf pins s σ H xs us Q I r ⟨⟨fs, h3⟩, h5⟩
/-- what is known in the suite -/
structure SuFacts (X : Cx) (e0 : Addr) (cls : Value) (d : Option Addr) : Prop where
  call1 : CallR X (.builtin "isinstance") (rErr1 X.K cls d e0)
  callT : CallR X (.builtin "isinstance") (rErrT X.K cls d e0)
  fld : ∀ {C fI : Addr} {a txt : Str} {e : Expr} {te : TE} {pos : Pos}, EX.ErrTxt X.prog X.K C fI a txt → PE X e te → attributeBase e a X.env (eval e X.env) = eval e X.env → PE X (.Attribute e a pos) (tErrFld C a e0 cls d te)
  hot : L2H.HotC X
theorem suFacts (hz : L2N.Zn cls d oe) (hf : ∃ vs, oe.data = .fields vs) : SuFacts (X.suite e0 ((e0, oe) :: pn)) e0 cls d where
  call1 := call_err1 hz hf
  callT := call_errT hz hf
  fld := fun T he hb => pe_errFld T hz.zc hf he hb
  hot := by
    obtain ⟨vs, hv⟩ := hf
    exact ⟨(e0, oe), ⟨rfl, vs, hv, hz.2.2 vs hv⟩, List.mem_cons_self⟩
theorem de_errFld (T : EX.ErrTxt X.prog X.K C fI a txt) (sf : SuFacts X e0 cls d) (hv : PE X e (tVar j)) (hb : attributeBase e a X.env (eval e X.env) = eval e X.env := by rfl) :
    DE X (.Attribute e a pos) (dErrF e0 cls d C a j) (tErrFld C a e0 cls d (tVar j)) := by
  refine ⟨sf.fld T hv hb, fun B S H env σ Q Qv s q k => ?_⟩
  unfold dErrF at q
  split at q
  · rename_i e1 dd C' a' v c
    obtain ⟨⟨rfl, hcl, hd, rfl⟩, q⟩ := q
    obtain ⟨u, h1, h2⟩ := s.val j _ c
    cases h2 with
    | err h3 h4 => exact ⟨_, h1, rfl, hcl, dd, _, hd, s.ex _ _ h3, k _ H S env (.val v) ⟨s, .refl, .refl _, h4⟩ q⟩
  · exact q.elim
theorem de_isErr {K : PySem.W.Frag} {v : V} {cv : Value} {b : Bool} (T : ExcC K C) (hk : PySem.W.kitOne K (.ref C) cv = some b) (sf : SuFacts X e0 cls d) (hg : Gl X "isinstance") (hm : X.mg "isinstance" = none) (hv : PE X e (tVar j)) (hc : PE X c (tC v)) (cl : ClsV v cv)
    (hK : K = X.K := by rfl) (he : starEach (e :: [c]) X.env = (false, eval e X.env) :: starEach [c] X.env := by rfl) (he2 : starEach (c :: []) X.env = (false, eval c X.env) :: starEach [] X.env := by rfl) (hpl : (backTo pos (starEach [c] X.env)).any (·.1) = false := by rfl) :
    DE X (.Call (.Name "isinstance" p) (e :: [c]) [] pos) (dIsErr e0 cls d C b j) (tCB (rErr1 K cls d e0) (tCons (tVar j) (tCons (tC v) tNil))) := by
  subst hK
  refine ⟨pe_callB sf.call1 hg hm (by decide +kernel) (pa_cons hv (pa_cons hc pa_nil he2) he) (by decide) (by decide) he hpl, fun B S H env σ Q Qv s q k => ?_⟩
  unfold dIsErr at q
  split at q
  · rename_i e1 dd C' a' v' c
    obtain ⟨⟨rfl, hcl, hd⟩, q⟩ := q
    obtain ⟨u, h1, h2⟩ := s.val j _ c
    cases h2 with
    | err h3 h4 => exact ⟨_, h1, C, dd, _, hcl, hd, s.ex _ _ h3, T, v, cv, b, rfl, cl, hk, k _ H S env (.val (.bl b)) ⟨s, .refl, .refl _, Rep.bl b⟩ q⟩
  · exact q.elim
def tCs : List V → TA
  | [] => tNil
  | v :: vs => tCons (tC v) (tCs vs)
theorem tCs_run : ∀ (vs : List V) (σ : L2.St) (H : Hp) (Q : List V → Hp → Prop), Q vs H → tCs vs σ H Q
  | [], σ, H, Q, h => h
  | v :: vs, σ, H, Q, h => tCs_run vs σ H (fun ws H' => Q (v :: ws) H') h
theorem de_isErrT {K : PySem.W.Frag} {vs : List V} {us : List Value} {b : Bool} {x1} {pt : Pos} (T : ExcC K C) (hk : PySem.W.kitAny K (.ref C) us = some b) (sf : SuFacts X e0 cls d) (hg : Gl X "isinstance") (hm : X.mg "isinstance" = none) (hv : PE X e (tVar j)) (hl : vs.length ≤ 100)
    (hc : PA X es (tCs vs)) (cl : Paired ClsV vs us) (hK : K = X.K := by rfl) (he : starEach (e :: [.Tuple es x1 pt]) X.env = (false, eval e X.env) :: starEach [.Tuple es x1 pt] X.env := by rfl) (he2 : starEach (.Tuple es x1 pt :: []) X.env = (false, eval (.Tuple es x1 pt) X.env) :: starEach [] X.env := by rfl) (hpl : (backTo pos (starEach [.Tuple es x1 pt] X.env)).any (·.1) = false := by rfl) :
    DE X (.Call (.Name "isinstance" p) (e :: [.Tuple es x1 pt]) [] pos) (dIsErr e0 cls d C b j) (tCB (rErrT K cls d e0) (tCons (tVar j) (tCons (tTup (tCs vs)) tNil))) := by
  subst hK
  refine ⟨pe_callB sf.callT hg hm (by decide +kernel) (pa_cons hv (pa_cons (pe_tup hc) pa_nil he2) he) (by decide) (by decide) he hpl, fun B S H env σ Q Qv s q k => ?_⟩
  unfold dIsErr at q
  split at q
  · rename_i e1 dd C' a' v' c
    obtain ⟨⟨rfl, hcl, hd⟩, q⟩ := q
    obtain ⟨u, h1, h2⟩ := s.val j _ c
    cases h2 with
    | err h3 h4 =>
      refine ⟨_, h1, tCs_run vs σ H _ ⟨by rw [sizeLine_eq]; omega, fun tp htp => ?_⟩⟩
      have n := Nw.hid s.ex (o := .tup vs) htp
      exact ⟨C, dd, _, hcl, hd, n.sh _ _ h3, T, tp, vs, us, b, rfl, upd_same, cl, hk, k _ _ S env (.val (.bl b)) ⟨s.nw n, n.go, .refl _, Rep.bl b⟩ q⟩
  · exact q.elim
theorem roomM {k : Nat} {A : Around} {v : Option Value} (hr : Room k A) : L2H.RoomH k (A.mark v) := ⟨hr.dp, hr.un⟩
end
end DL
end

section
set_option Elab.async false
set_option linter.all false
set_option maxRecDepth 100000
set_option maxHeartbeats 4000000
namespace DL
open PySem PySem.Spec PyProof.Rows L2
open Evl (Ex)
/-! ### try: name = f(..) / except X as e: suite -/
def suEn (j : Nat) (E : DEn) : DEn := { nx := fun env => E.nx (env.set j none), rt := E.rt, bk := fun env => E.bk (env.set j none), ct := fun env => E.ct (env.set j none) }
/-- what is caught -/
def Caught (K : PySem.W.Frag) (c : Value) (j : Nat) (su : Addr → Value → Option Addr → DSM) (E : DEn) (env : En) (x : Xd) : Prop :=
  PySem.W.exmOne K (.ref x.C) c = some true ∧ ∀ e0 dd, su e0 (.ref x.C) (some dd) (suEn j E) (env.set j (some (.val (.err e0 dd x.C x.a x.v))))
def dTryE (K : PySem.W.Frag) (c : Value) (i j : Nat) (F : FME) (n : DAM) (su : Addr → Value → Option Addr → DSM) : DSM := fun E env => n env fun env1 rs => argsOk rs = true ∧ F rs (fun r => match r with
  | .val d => E.nx (env1.set i (some (.val d)))
  | _ => False) (Caught K c j su E env1)
/-- the same of C(..) -/
def dTryM (K : PySem.W.Frag) (c : Value) (C : Addr) (i j : Nat) (F : FMM) (n : DAM) (su : Addr → Value → Option Addr → DSM) : DSM := fun E env => n env fun env1 rs => MadeF C F rs (fun l' => match l' with
  | .ins C' _ ns l => C' = C ∧ E.nx (env1.set i (some (.val (.ins C ns l))))
  | _ => False) (Caught K c j su E env1)
section
variable {X : Cx} {k : Nat} {f C : Addr} {fd : FuncData} {ps : List Str} {FE : FME} {FM' : FMM} {x y nm fx : Str} {p np pos pos' cpos apos py : Pos} {e : Expr} {es : List Expr} {n : DAM} {tn : TA} {npar i j : Nat} {c : Value} {b0 : Stmt} {suite : List Stmt} {su : Addr → Value → Option Addr → DSM} {ts : Addr → Value → Option Addr → TS}
/-- the catch, by the data -/
theorem caught_ok (hsu : ∀ (a : Addr) (oe : Obj) (cls : Value) (d : Option Addr) (pn : List (Addr × Obj)), SuFacts (X.suite a ((a, oe) :: pn)) a cls d → DSs (X.suite a ((a, oe) :: pn)) (b0 :: suite) (su a cls d) (ts a cls d))
    {B : Bs} {S' H' : Hp} {env : En} {σ : L2.St} {E : DEn} {D : Ends} {z : Xd} {d : Addr} {v : V} (s : SR X.K B S' H' env σ) (ek : EndOk X B E D) (h0 : B.H0 d = none) (h1 : S' d = none) (hd : H' d = some (.xd [(z.a, v)])) (hr : Rep X.K S' v z.v) (q : Caught X.K c j su E env z) :
    wAs X.K c j ts (fun _ _ _ _ => False) D (.ref z.C) (some d) σ H' := by
  refine ⟨true, q.1, fun _ a ha => ?_, fun w => nomatch w⟩
  have nO : ¬ Ow B env σ d := fun w => by
    rcases w with w | ⟨i, l, w1, w2⟩ | ⟨i, l, w1⟩
    · obtain ⟨_, o, z⟩ := s.pool d w
      rw [h0] at z
      cases z
    · obtain ⟨p, vs, k1, k2, k3, k4, _⟩ := s.own i l w1
      cases Slt.ref w2 k1
      rw [hd] at k4
      cases k4
    · obtain ⟨_, _, _, o, k4, k5⟩ := s.fix i d l w1
      rw [hd] at k4
      cases k4
      cases l with
      | lst l =>
        obtain ⟨vs, e, _⟩ := k5
        cases e
      | ins C dx ns l =>
        obtain ⟨fs, e, _⟩ := k5
        cases e
  have e1 : Ex S' (upd S' d (.xd [(z.a, v)])) := Ex.new h1
  have s2 := s.add h1 h0 nO hd
  have s3 := s2.storeD (i := j) (v := .ref a) (d := .err a d z.C z.a z.v) (.err upd_same (hr.mono e1))
  refine (hsu a { cls := .ref z.C, dict := some d, data := .fields #[.none, .none, .none] } (.ref z.C) (some d) [] (suFacts ⟨rfl, rfl, fun vs hv => by cases hv; rfl⟩ ⟨_, rfl⟩)).2 B _ H' _ _ (suEn j E) _ s3 (q.2 a d) ?_
  exact ⟨fun S H env σ s q => ek.nx S H _ _ s.drop q, fun S H env σ r v s q w => ek.rt S H env σ r v s q w, fun S H env σ s q => ek.bk S H _ _ s.drop q, fun S H env σ s q => ek.ct S H _ _ s.drop q, fun _ _ _ _ _ _ _ _ _ _ _ _ w => w.elim⟩
theorem ds_tryE (hs : X.stack = X.env :: X.outer) (hfr : X.env.frame = some X.env.locals) (hN : X.N.Nodup) (hj : X.N[j]? = some nm) (hln : X.env.kindOf nm = some .local) (hc : Names X x c) (hF : FnOk X.prog X.w X.K X.mg X.base (L2N.CX X.prog X.w) k f fd ps (spE X.K npar FE)) (hr : Room k X.A) (hg : Gl X fx) (hm : X.mg fx = some (.ref f)) (hk : PySem.W.keepIn X.K (.ref f) = true) (hb : Binds X.K fd ps [])
    (ha : ∀ pn xe, DA (X.tr pn xe) (e :: es) n tn) (hlen : (e :: es).length = npar) (hi : X.N[i]? = some y) (hy : Loc X.env.scope y)
    (hsu : ∀ (a : Addr) (oe : Obj) (cls : Value) (d : Option Addr) (pn : List (Addr × Obj)), SuFacts (X.suite a ((a, oe) :: pn)) a cls d → DSs (X.suite a ((a, oe) :: pn)) (b0 :: suite) (su a cls d) (ts a cls d))
    (hdb : (fx == ("__debug__" : Str)) = false := by decide) (he : starEach (e :: es) X.env = (false, eval e X.env) :: starEach es X.env := by rfl) (hpl : (backTo cpos (starEach es X.env)).any (·.1) = false := by rfl)
    (hsw : swapsWith (.Call (.Name fx p) (e :: es) [] cpos) (some (.Name y py)) apos.line X.env = pure false := by rfl) (hf : X.fn y = true ∨ X.env.scope.names.lookup y = some .local := by first | exact .inl rfl | exact .inr rfl | assumption) :
    DS X (.Try [.Assign [.Name y py] (.Call (.Name fx p) (e :: es) [] cpos) apos] [.ExceptHandler (some (.Name x np)) (some nm) (b0 :: suite) pos'] [] [] pos) (dTryE X.K c i j FE n su)
      (fun D σ H => tAsg (tCallS (spE X.K npar FE) (WE (wAs X.K c j ts (fun _ _ _ _ => False) D)) tn) (gName i) D σ H) := by
  refine ⟨L2N.ps_try_as (i := j) (tb := fun W => tAsg (tCallS (spE X.K npar FE) (WE W) tn) (gName i)) (Wout := fun _ _ _ _ => False) hs hfr hN hj hln hc (fun u s' ⟨_, _, _, _, _, _, _, _, _, _, _, _, _, _, _, _, w⟩ => w.elim)
    (fun W pn xe tk _ => pss_one (ps_set (X := X.tr pn xe) hN hi hy (pe_callS (X := X.tr pn xe) hF hr hg hm hk hb (fun σ => L2N.passAt tk σ) (ha pn xe).1 hdb he hpl) hsw hf)) (fun a oe cls d pn hz hv => (hsu a oe cls d pn (suFacts hz hv)).1), fun B S H env σ E D s q ek => ?_⟩
  refine (ha [] X.xe).2 B S H env σ _ _ s q fun vs H1 S1 env1 rs z l len q1 => ?_
  have zs : SR X.K B S1 H1 env1 σ := z.sr
  refine ⟨S1, B.pa, rs, _, _, zs.ex, fun a e => (zs.pool a e).1, l.args q1.1, len.trans hlen, q1.2, fun v H' S' r d w => ?_, fun z2 d v H' S' dr h0 h1 hd r w => ?_⟩
  · cases r with
    | val d0 => exact ek.nx S' H' _ _ ((zs.ret d).storeD d.ret) w
    | own l => exact w.elim
    | brw i l => exact w.elim
    | pool => exact w.elim
  · exact caught_ok hsu (zs.ret dr) ek (zs.hp0 h0) h1 hd r w
theorem ds_tryM (hs : X.stack = X.env :: X.outer) (hfr : X.env.frame = some X.env.locals) (hN : X.N.Nodup) (hj : X.N[j]? = some nm) (hln : X.env.kindOf nm = some .local) (hc : Names X x c) (M : Mk X.K C f) (hF : FnOk X.prog X.w X.K X.mg X.base (L2N.CX X.prog X.w) k f fd ps (spM X.K npar FM')) (hr : Room (k + 1) X.A) (hg : Gl X fx) (hm : X.mg fx = some (.ref C)) (hb : Binds X.K fd ps [])
    (ha : ∀ pn xe, DA (X.tr pn xe) (e :: es) n tn) (hlen : (e :: es).length + 1 = npar) (hi : X.N[i]? = some y) (hy : Loc X.env.scope y)
    (hsu : ∀ (a : Addr) (oe : Obj) (cls : Value) (d : Option Addr) (pn : List (Addr × Obj)), SuFacts (X.suite a ((a, oe) :: pn)) a cls d → DSs (X.suite a ((a, oe) :: pn)) (b0 :: suite) (su a cls d) (ts a cls d))
    (hdb : (fx == ("__debug__" : Str)) = false := by decide) (he : starEach (e :: es) X.env = (false, eval e X.env) :: starEach es X.env := by rfl) (hpl : (backTo cpos (starEach es X.env)).any (·.1) = false := by rfl)
    (hsw : swapsWith (.Call (.Name fx p) (e :: es) [] cpos) (some (.Name y py)) apos.line X.env = pure false := by rfl) (hf : X.fn y = true ∨ X.env.scope.names.lookup y = some .local := by first | exact .inl rfl | exact .inr rfl | assumption) :
    DS X (.Try [.Assign [.Name y py] (.Call (.Name fx p) (e :: es) [] cpos) apos] [.ExceptHandler (some (.Name x np)) (some nm) (b0 :: suite) pos'] [] [] pos) (dTryM X.K c C i j FM' n su)
      (fun D σ H => tAsg (tMakeX C (spM X.K npar FM') (WE (wAs X.K c j ts (fun _ _ _ _ => False) D)) tn) (gName i) D σ H) := by
  refine ⟨L2N.ps_try_as (i := j) (tb := fun W => tAsg (tMakeX C (spM X.K npar FM') (WE W) tn) (gName i)) (Wout := fun _ _ _ _ => False) hs hfr hN hj hln hc (fun u s' ⟨_, _, _, _, _, _, _, _, _, _, _, _, _, _, _, _, w⟩ => w.elim)
    (fun W pn xe tk _ => pss_one (ps_set (X := X.tr pn xe) hN hi hy (pe_makeX (X := X.tr pn xe) M hF hr hg hm hb (fun σ => L2N.passAt tk σ) (ha pn xe).1 hdb he hpl) hsw hf)) (fun a oe cls d pn hz hv => (hsu a oe cls d pn (suFacts hz hv)).1), fun B S H env σ E D s q ek => ?_⟩
  refine (ha [] X.xe).2 B S H env σ _ _ s q fun vs H1 S1 env1 rs z l len q1 => ?_
  have zs : SR X.K B S1 H1 env1 σ := z.sr
  refine made_of (np := npar) (Qv := fun v H' => D.nx (σ.set i (some v)) H') zs l (by omega) q1 (fun z2 d v H' S' s' h0 h1 hd r w => caught_ok hsu s' ek h0 h1 hd r w) fun x0 H' S' l' o s' go hx c1 c0 c4 c2 c3 w => ?_
  split at w
  · rename_i C' dx ns l
    obtain ⟨rfl, w⟩ := w
    obtain ⟨S2, s2, g2, r2⟩ := frz_new s' go hx c1 c0 c4 c2 c3
    exact ek.nx S2 H' _ _ (s2.storeD r2) w
  · exact w.elim
end
end DL
end

section
set_option Elab.async false
set_option linter.all false
set_option maxRecDepth 100000
set_option maxHeartbeats 4000000
namespace DL
open PySem PySem.Spec PyProof.Rows L2
open Evl (Ex)
/-! ### for c in a text -/
def charsD (x : Str) : List D := x.cps.toList.map fun c => .str ⟨#[c]⟩
def dOverS (m : DM) : DIM := fun env Q => m env fun env' r => match r with
  | .val (.str x) => Q env' (charsD x)
  | _ => False
section
variable {X : Cx} {tg a : Expr} {ma : DM} {ta : TE}
theorem ItD.str {K : PySem.W.Frag} {S : Hp} (x : Str) : ItD K (Its x) S (charsD x) := by
  have hl : (charsD x).length = x.cps.size := by
    unfold charsD
    rw [List.length_map, Array.length_toList]
  refine ⟨fun i h S' H' _ _ => (by show i < x.cps.size; rw [← hl]; exact h), fun i d hd S' H' y H'' e1 e2 q => ?_, fun S' H' _ _ => (by show x.cps.size ≤ (charsD x).length; rw [hl]; exact Nat.le_refl _)⟩
  obtain ⟨rfl, c, hc, rfl⟩ := q
  have hd2 : (x.cps.toList.map fun c => D.str ⟨#[c]⟩)[i]? = some d := hd
  rw [List.getElem?_map, Array.getElem?_toList, hc] at hd2
  cases hd2
  exact ⟨S', .refl e2, .str _⟩
theorem di_overS (ha : DE X a ma ta) : DI X tg a (dOverS ma) (iStr ta) := by
  obtain ⟨h1, h2⟩ := ha
  refine ⟨pi_str h1, fun B S H env σ Q R s q k => h2 B S H env σ _ _ s q fun v H' S' env' r z q' => ?_⟩
  split at q'
  · rename_i x
    have zr : Rep X.K S' v (.str x) := z.res
    cases zr
    exact ⟨x, rfl, k _ H' S' env' _ z.t (.str x) q'⟩
  · exact q'.elim
/-! ### str of a number or None -/
def mStrN : MA := fun ds Q => match ds with
  | [.int i] => i.natAbs.log2 < 1920 ∧ Q (.val (.str (toString i)))
  | [.non] => Q (.val (.str "None"))
  | _ => False
def rStrN : List V → Hp → VK → Prop := fun xs H Q => (∃ i : Int, xs = [.int i] ∧ i.natAbs.log2 < 1920 ∧ Q (.str (toString i)) H) ∨ (xs = [.non] ∧ Q (.str "None") H)
theorem call_non_str : CallR X (.type "str") (fun xs H Q => xs = [.non] ∧ Q (.str "None") H) := by
  intro pins s σ H xs us Q I r h
  obtain ⟨e, q⟩ := h
  subst e
  obtain ⟨u, hu, t⟩ := vals1 r
  subst hu
  cases t
  exact PySem.P.str_of_none ⟨.str _, H, I.tok _, ⟨_, rfl⟩, q⟩
theorem call_strN : CallR X (.type "str") rStrN := CallR.or call_str_int call_non_str
theorem cd_strN {K : PySem.W.Frag} : CallD K rStrN mStrN := by
  intro S H vs ds Q Qv e r m k
  unfold mStrN at m
  split at m
  · rename_i i
    obtain ⟨v, rfl, h⟩ := r.one
    exact .inl ⟨i, by rw [h.int], m.1, k _ _ _ _ (nwr_val e (.str _)) m.2⟩
  · obtain ⟨v, rfl, h⟩ := r.one
    exact .inr ⟨by rw [h.non], k _ _ _ _ (nwr_val e (.str _)) m⟩
  · exact m.elim
end
end DL
end

section
set_option Elab.async false
set_option linter.all false
set_option maxRecDepth 100000
set_option maxHeartbeats 4000000
namespace DL
open PySem PySem.Spec PyProof.Rows L2
open Evl (Ex)
/-! ### a comprehension whose element changes a thing, and may raise -/
def dLcPL (vs : List Nat) (g : DGM) (m : PM) (Q : En → List D → Prop) (Qx : Xd → Prop) : List D → En → List D → Prop
  | [], env, acc => Q env acc
  | d :: r, env, acc => g d env fun env2 => m env2 (fun env3 x => acc.length < sizeLine ∧ dLcPL vs g m Q Qx r (wipeD env3 vs) (acc ++ [x])) Qx
def dLcP (mi : DIM) (vs : List Nat) (g : DGM) (m : PM) : PM := fun env Q Qx => mi env fun env1 ds => plainAt env1 vs = true ∧ dLcPL vs g m (fun env2 acc => Q (backD env1 env2 vs) (.lst acc)) Qx ds (wipeD env1 vs) []
section
variable {K : PySem.W.Frag} {B : Bs} {S H : Hp} {env : En} {σ : L2.St} {p : Addr} {o : HO}
/-- an object that is nobody's is part of what stands still -/
def Bs.with (B : Bs) (S : Hp) (p : Addr) (o : HO) : Bs := ⟨S, fun a => if a = p then some o else B.H0 a, B.pa⟩
theorem with_ne {a : Addr} (h : a ≠ p) : (B.with S p o).H0 a = B.H0 a := if_neg h
theorem with_eq : (B.with S p o).H0 p = some o := if_pos rfl
theorem with_none {a : Addr} (h : (B.with S p o).H0 a = none) : a ≠ p ∧ B.H0 a = none := by
  have c : a ≠ p := fun z => by
    rw [z, with_eq] at h
    cases h
  exact ⟨c, (with_ne c).symm.trans h⟩
theorem SR.with (s : SR K B S H env σ) (h1 : H p = some o) (h2 : B.H0 p = none) (h3 : ¬ Ow B env σ p) : SR K (B.with S p o) S H env σ := by
  have ne : ∀ a, B.pa = some a → a ≠ p := fun a e z => h3 (.inl (z ▸ e))
  refine ⟨Ex.refl _, fun _ _ _ e => e, fun a u e c => ?_, fun a e => ?_, s.len, s.ex, s.val, fun i l e => ?_, s.dis, s.pl, fun a e => ?_, fun i q l e => ?_, s.dfx, s.dff, fun a e => ?_⟩
  · by_cases z : a = p
    · rw [z, with_eq] at e
      cases e
      exact z ▸ h1
    · exact s.keep0 a u ((with_ne z).symm.trans e) c
  · have z : a ≠ p := fun z => by
      rw [z, h1] at e
      cases e
    exact (with_ne z).trans (s.old0 a e)
  · obtain ⟨q, vs, q1, q2, q3, q4⟩ := s.own i l e
    exact ⟨q, vs, q1, q2, (with_ne fun z : q = p => h3 (.inr (.inl ⟨i, l, e, by rw [← z]; exact q1⟩))).trans q3, q4⟩
  · obtain ⟨q, u, w⟩ := s.pool a e
    exact ⟨q, u, (with_ne (ne a e)).trans w⟩
  · obtain ⟨k1, k2, k3, k4⟩ := s.fix i q l e
    exact ⟨k1, k2, (with_ne fun z : q = p => h3 (.inr (.inr ⟨i, l, by rw [← z]; exact e⟩))).trans k3, k4⟩
  · rw [with_ne (ne a e)]
    exact s.pin a e
/-- .. and forgotten again -/
theorem SR.unwith {S' H' : Hp} {env' : En} {σ' : L2.St} (s : SR K B S H env σ) (h2 : B.H0 p = none) (s' : SR K (B.with S p o) S' H' env' σ') : SR K B S' H' env' σ' := by
  have np : ∀ a u, B.H0 a = some u → a ≠ p := fun a u e z => by
    rw [z, h2] at e
    cases e
  refine ⟨s.ex0.trans s'.ex0, fun a u e z => s'.nw0 a u ((with_ne (np a u e)).trans e) (s.nw0 a u e z), fun a u e c => s'.keep0 a u ((with_ne (np a u e)).trans e) c, fun a e => (with_none (s'.old0 a e)).2, s'.len, s'.ex, s'.val, fun i l e => ?_, s'.dis, s'.pl, fun a e => ?_, fun i q l e => ?_, s'.dfx, s'.dff, fun a e => ?_⟩
  · obtain ⟨q, vs, q1, q2, q3, q4⟩ := s'.own i l e
    exact ⟨q, vs, q1, q2, (with_none q3).2, q4⟩
  · obtain ⟨q, u, w⟩ := s.pool a e
    exact ⟨(s'.pool a e).1, u, w⟩
  · obtain ⟨k1, k2, k3, k4⟩ := s'.fix i q l e
    exact ⟨k1, k2, (with_none k3).2, k4⟩
  · obtain ⟨q, u, w⟩ := s.pool a e
    rw [← with_ne (B := B) (S := S) (o := o) (np a u w)]
    exact s'.pin a e
theorem SR.outw {S' H' : Hp} {env' : En} {σ' : L2.St} (s' : SR K (B.with S p o) S' H' env' σ') (hp : B.pa ≠ some p) (hS : S p = none) : H' p = some o ∧ S' p = none ∧ ¬ Ow B env' σ' p := by
  refine ⟨s'.keep0 p o with_eq hp, s'.nw0 p o with_eq hS, ?_⟩
  rintro (z | ⟨i, l, z1, z2⟩ | ⟨i, l, z1⟩)
  · exact hp z
  · obtain ⟨q, vs, q1, q2, q3, q4⟩ := s'.own i l z1
    cases Slt.ref q1 z2
    exact (with_none q3).1 rfl
  · exact (with_none (s'.fix i p l z1).2.2.1).1 rfl
end
section
variable {X : Cx} {elt tg iter : Expr} {scope : Scope} {pos : Pos} {mi : DIM} {wi : TI} {g : DGM} {tg1 : TG} {m : PM} {te : L2.St → BC → TE}
/-- the state within a block -/
structure LcP (K : PySem.W.Frag) (B : Bs) (S1 : Hp) (n : Nat) (σ : L2.St) (vs : List Nat) (D : Addr) (S H : Hp) (env : En) (acc : List DL.D) : Prop where
  sr : SR K ⟨S1, B.H0, B.pa⟩ S H env (wipe σ vs)
  len : env.length = n
  dn : S D = none
  no : ¬ Ow ⟨S1, B.H0, B.pa⟩ env (wipe σ vs) D
  dh : ∃ ws, H D = some (.lst ws) ∧ Reps K S ws acc
theorem lcP_core (own : List (Str × Nat)) (hi : DI X tg iter mi wi)
    (g2 : ∀ (B : Bs) (S H : Hp) (env : En) (σ : L2.St) (v : V) (d : D) (Q : En → Prop) (Qv : L2.St → Hp → Prop), SR X.K B S H env σ → Rep X.K S v d → g d env Q → (∀ env' σ', SR X.K B S H env' σ' → Q env' → Qv σ' H) → tg1 v σ H Qv)
    (e2 : ∀ τ c, (fun (Y : Cx) => ∀ (B : Bs) (S H : Hp) (env : En) (σ : L2.St) (Q : En → D → Prop) (Qx : Xd → Prop) (Qv : VK), SR X.K B S H env σ → m env Q Qx → XcOk Y B σ Qx →
      (∀ v d H' S' env', SR X.K B S' H' env' σ → Rep X.K S' v d → Q env' d → Qv v H') → te τ c σ H Qv) (X.atB (wk X) scope τ c)) (i1 : TgIn tg1 (own.map (·.2))) (i2 : GIn g (own.map (·.2)))
    (B : Bs) (S H : Hp) (env : En) (σ : L2.St) (Q : En → D → Prop) (Qx : Xd → Prop) (Qv : VK) (s : SR X.K B S H env σ) (q : dLcP mi (own.map (·.2)) g m env Q Qx) (xk : XcOk X B σ Qx)
    (k : ∀ v d H' S' env', SR X.K B S' H' env' σ → Rep X.K S' v d → Q env' d → Qv v H') : tLcX wi tg1 te (own.map (·.2)) σ H Qv := by
  generalize own.map (·.2) = vs at *
  refine hi.2 B S H env σ _ _ s q fun J H1 S1 env1 ds z it q1 => ?_
  obtain ⟨pl, q1⟩ := q1
  have s1 := z.sr
  intro D hD
  have hD0 := s1.hp0 hD
  have hDn := s1.now hD
  have hDs := s1.sp0 hD
  have hpa : B.pa ≠ some D := fun e => hDn (.inl e)
  have ow1 : ∀ a, Ow ⟨S1, B.H0, B.pa⟩ (wipeD env1 vs) (wipe σ vs) a → Ow B env1 σ a := fun a h => Ow.wipe (B := B) h
  refine ⟨fun i m' H' => m' = ds.length - i ∧ i ≤ ds.length ∧ ∃ S' env' acc, LcP X.K B S1 env1.length σ vs D S' H' env' acc ∧ dLcPL vs g m (fun env2 acc => Q (backD env1 env2 vs) (.lst acc)) Qx (ds.drop i) env' acc,
    ⟨_, rfl, Nat.zero_le _, S1, wipeD env1 vs, [], ⟨(s1.base.stray hDs hD0 hDn).wipe vs, wipeD_length vs, hDs, fun w => hDn (ow1 D w), [], upd_same, .nil⟩, q1⟩, ?_⟩
  rintro i m' H' ⟨rfl, hi', S', env', acc, I, l⟩
  have ex1 : Ex S1 S' := I.sr.ex0
  have more : ∀ {S2 H2 : Hp} {env2 : En} , SR X.K ⟨S1, B.H0, B.pa⟩ S2 H2 env2 (wipe σ vs) → SR X.K B S2 H2 env2 σ := fun {S2 H2 env2} w => (s1.unbase w).more (wipe_length σ vs).symm fun i v h => (wipe_some h).1
  by_cases c : i < ds.length
  · refine .inr ⟨it.go i c S' H' ex1 I.sr.ex, fun H2 => ∃ S2 env2 acc2, LcP X.K B S1 env1.length σ vs D S2 H2 env2 acc2 ∧ dLcPL vs g m (fun env2 acc => Q (backD env1 env2 vs) (.lst acc)) Qx (ds.drop (i + 1)) env2 acc2, fun H2 ⟨S2, env2, acc2, a1, a2⟩ => ⟨_, by omega, rfl, c, S2, env2, acc2, a1, a2⟩, fun x H2 y bc => ?_⟩
    have hd : ds[i]? = some ds[i] := List.getElem?_eq_getElem c
    obtain ⟨S2, n2, r2⟩ := it.yld i _ hd S' H' x H2 ex1 I.sr.ex y
    rw [List.drop_eq_getElem_cons c] at l
    have ws := I.dh
    refine i1 _ _ _ (fun σ3 H3 => ∃ env3, H3 = H2 ∧ SR X.K ⟨S1, B.H0, B.pa⟩ S2 H2 env3 σ3 ∧ GFact vs env' env3 ∧ m env3 (fun env4 x => acc.length < sizeLine ∧ dLcPL vs g m (fun env2 acc => Q (backD env1 env2 vs) (.lst acc)) Qx (ds.drop (i + 1)) (wipeD env4 vs) (acc ++ [x])) Qx) _ ?_ (g2 ⟨S1, B.H0, B.pa⟩ S2 H2 env' (wipe σ vs) x ds[i] _ _ (I.sr.nw n2) r2 (i2 ds[i] env' _ (fun env3 => GFact vs env' env3 ∧ m env3 (fun env4 x => acc.length < sizeLine ∧ dLcPL vs g m (fun env2 acc => Q (backD env1 env2 vs) (.lst acc)) Qx (ds.drop (i + 1)) (wipeD env4 vs) (acc ++ [x])) Qx) (fun env3 f q3 => ⟨f, q3⟩) l) fun env3 σ3 s3 q3 => ⟨env3, rfl, s3, q3.1, q3.2⟩)
    rintro σ3 H3 w3 ⟨env3, rfl, s3, f3, q3⟩
    have w3 : wipe σ3 vs = wipe σ vs := w3.trans (by
      refine List.ext_getElem? fun j => ?_
      have key : ∀ us : List Nat, (∀ i ∈ us, i ∈ vs) → wipe (wipe σ vs) us = wipe σ vs := by
        intro us
        induction us with
        | nil => intro _; rfl
        | cons u us ih =>
          intro h
          show (wipe (wipe σ vs) us).set u none = wipe σ vs
          rw [ih fun i hi => h i (List.mem_cons_of_mem _ hi)]
          refine List.ext_getElem? fun j => ?_
          by_cases cj : j = u
          · subst cj
            by_cases cl : j < (wipe σ vs).length
            · rw [List.getElem?_set_self cl, List.getElem?_eq_getElem cl]
              cases q : (wipe σ vs)[j] with
              | none => rfl
              | some v =>
                have q' : (wipe σ vs)[j]? = some (some v) := by rw [List.getElem?_eq_getElem cl, q]
                exact absurd (h j List.mem_cons_self) (wipe_some q').2
            · rw [List.getElem?_eq_none (by rw [List.length_set]; omega), List.getElem?_eq_none (by omega)]
          · rw [List.getElem?_set_ne (Ne.symm cj)]
      rw [key vs fun i h => h])
    refine ⟨w3, ?_⟩
    obtain ⟨ws, w1, w2⟩ := ws
    have w1' : H3 D = some (.lst ws) := n2.keep _ _ w1
    have w0' : S2 D = none := n2.nw _ _ w1 I.dn
    have no3 : ¬ Ow ⟨S1, B.H0, B.pa⟩ env3 σ3 D := by
      rintro (w | ⟨j, l', h1, h2⟩ | ⟨j, l', h1⟩)
      · exact hpa w
      · have h1' := f3.own j l' h1
        obtain ⟨p, _, k1, _⟩ := I.sr.own j l' h1'
        have hj := (wipe_some k1).2
        refine I.no (.inr (.inl ⟨j, l', h1', ?_⟩))
        show (wipe σ vs)[j]? = _
        rw [← w3, wipe_out hj]
        exact h2
      · exact I.no (.inr (.inr ⟨j, l', f3.fix j D l' h1⟩))
    have sw := s3.with (p := D) (o := .lst ws) w1' hD0 no3
    refine e2 σ bc _ S2 H3 env3 σ3 _ Qx _ sw q3 (fun S4 H4 env4 d4 x4 v4 s4 h40 h4s h4 r4 q4 => ?_) fun v d H5 S5 env5 s5 r5 q5 => ?_
    · -- an error
      have s4' := s3.unwith (p := D) hD0 s4
      have s4w := s4'.wipe vs
      rw [w3] at s4w
      exact wk_of takes_blkX (xk S4 H4 _ d4 x4 v4 (more s4w) (with_none h40).2 h4s h4 r4 q4)
    · obtain ⟨t1, t2, t3⟩ := s5.outw hpa w0'
      have s5' := s3.unwith (p := D) hD0 s5
      refine ⟨ws, t1, by rw [w2.length]; exact q5.1, S5, wipeD env5 vs, acc ++ [d], ⟨?_, ?_, t2, fun w => t3 (Ow.wipe (B := ⟨S1, B.H0, B.pa⟩) (σ := σ3) (by rw [w3]; exact w)), _, upd_same, (w2.mono (n2.ex.trans s5.ex0)).append (.cons r5 .nil)⟩, q5.2⟩
      · have := (s5'.stray (p := D) (o := .lst (ws ++ [v])) t2 hD0 t3).wipe vs
        rw [w3] at this
        exact this
      · rw [wipeD_length, s5'.len, ← s3.len, f3.len]
        exact I.len
  · have e : i = ds.length := by omega
    subst e
    rw [List.drop_length] at l
    refine .inl ⟨it.stop S' H' ex1 I.sr.ex, ?_⟩
    obtain ⟨ws, w1, w2⟩ := I.dh
    have sb := SR.back s1 (more I.sr) ex1 I.len vs pl
    have no' : ¬ Ow B (backD env1 env' vs) σ D := by
      rintro (w | ⟨j, l', h1, h2⟩ | ⟨j, l', h1⟩)
      · exact hpa w
      · obtain ⟨p, us, k1, k2, k3, k4, _⟩ := sb.own j l' h1
        cases Slt.ref k1 h2
        have h1' : Has env' j (.own l') ∧ j ∉ vs := by
          by_cases cj : j ∈ vs
          · have z := backD_in (env := env1) (env' := env') I.len cj
            rcases plainAt_mem pl cj with ⟨d, y⟩ | y
            · exact nomatch (z.trans y).symm.trans h1
            · exact nomatch (z.trans y).symm.trans h1
          · exact ⟨(backD_out cj).symm.trans h1, cj⟩
        refine I.no (.inr (.inl ⟨j, l', h1'.1, ?_⟩))
        show (wipe σ vs)[j]? = _
        rw [wipe_out h1'.2]
        exact h2
      · have h1' : Has env' j (.fix D l') := by
          by_cases cj : j ∈ vs
          · have z := backD_in (env := env1) (env' := env') I.len cj
            rcases plainAt_mem pl cj with ⟨d, y⟩ | y
            · exact nomatch (z.trans y).symm.trans h1
            · exact nomatch (z.trans y).symm.trans h1
          · exact (backD_out cj).symm.trans h1
        exact I.no (.inr (.inr ⟨j, l', h1'⟩))
    exact k _ _ H' _ _ (sb.add I.dn hD0 no' w1) (.lst upd_same (w2.mono (Ex.new I.dn))) l
theorem dp_lc (own : List (Str × Nat)) (hs : X.stack = X.env :: X.outer) (hf : X.env.frame = some X.env.locals) (hc : X.calm = true) (hN : X.N.Nodup) (hi : DI X tg iter mi wi) (ok : BlkOk X.N X.env.scope scope own)
    (hg : ∀ τ c, DG (X.atB (wk X) scope τ c) tg g tg1) (he : ∀ τ c, DP (X.atB (wk X) scope τ c) elt m (te τ c)) (i1 : TgIn tg1 (own.map (·.2))) (i2 : GIn g (own.map (·.2))) (hsi : ∀ x, foldedSetIterable iter X.env x = pure x := by intro _; rfl) :
    DP X (.ListComp elt [⟨tg, iter, [], 0⟩] scope pos) (dLcP mi (own.map (·.2)) g m) (tLcX wi tg1 te (own.map (·.2))) :=
  ⟨pe_lcX hs hf takes_wk hc hN hi.1 ok (fun τ c => (hg τ c).1) (fun τ c => (he τ c).1) hsi, fun B S H env σ Q Qx Qv s q xk k => lcP_core own hi (hg [] ⟨X.s_0, X.H_0, 0, [], []⟩).2 (fun τ c => (he τ c).2) i1 i2 B S H env σ Q Qx Qv s q xk k⟩
end
end DL
end

section
set_option Elab.async false
set_option linter.all false
set_option maxRecDepth 100000
set_option maxHeartbeats 4000000
namespace DL
open PySem PySem.Spec PyProof.Rows L2
open Evl (Ex)
/-! ### a block's state at any slots -/
theorem wipe_idem {σ : L2.St} {vs : List Nat} : ∀ us : List Nat, (∀ i ∈ us, i ∈ vs) → wipe (wipe σ vs) us = wipe σ vs
  | [], _ => rfl
  | u :: us, h => by
    show (wipe (wipe σ vs) us).set u none = wipe σ vs
    rw [wipe_idem us fun i hi => h i (List.mem_cons_of_mem _ hi)]
    refine List.ext_getElem? fun j => ?_
    by_cases cj : j = u
    · subst cj
      by_cases cl : j < (wipe σ vs).length
      · rw [List.getElem?_set_self cl, List.getElem?_eq_getElem cl]
        cases q : (wipe σ vs)[j] with
        | none => rfl
        | some v =>
          have q' : (wipe σ vs)[j]? = some (some v) := by rw [List.getElem?_eq_getElem cl, q]
          exact absurd (h j List.mem_cons_self) (wipe_some q').2
      · rw [List.getElem?_eq_none (by rw [List.length_set]; omega), List.getElem?_eq_none (by omega)]
    · rw [List.getElem?_set_ne (Ne.symm cj)]
theorem wipe_comm1 {i : Nat} : ∀ (vs : List Nat) (τ : L2.St), wipe (τ.set i none) vs = (wipe τ vs).set i none
  | [], _ => rfl
  | v :: vs, τ => by
    show (wipe (τ.set i none) vs).set v none = ((wipe τ vs).set v none).set i none
    rw [wipe_comm1 vs τ]
    by_cases c : i = v
    · subst c
      rfl
    · exact List.set_comm _ _ c
/-- a block's own names wiped, then all of them -/
theorem wipe_sub {τ : L2.St} {vs : List Nat} : ∀ us : List Nat, (∀ i ∈ us, i ∈ vs) → wipe (wipe τ us) vs = wipe τ vs
  | [], _ => rfl
  | u :: us, h => by
    show wipe ((wipe τ us).set u none) vs = wipe τ vs
    rw [wipe_comm1, wipe_sub us fun i hi => h i (List.mem_cons_of_mem _ hi)]
    exact wipe_idem [u] fun i hi => by
      rw [List.mem_singleton.mp hi]
      exact h u List.mem_cons_self
structure LcJ (K : PySem.W.Frag) (B : Bs) (S1 H1 : Hp) (env1 : En) (σ : L2.St) (vs : List Nat) (D : Addr) (τ : L2.St) (S H : Hp) (env : En) (acc : List DL.D) : Prop where
  sr : SR K ⟨S1, B.H0, B.pa⟩ S H env τ
  wt : wipe τ vs = wipe σ vs
  go : Go (Ow B env1 σ) S1 H1 S H
  fz : Fz vs env1 env
  ow : ∀ a, Ow ⟨S1, B.H0, B.pa⟩ env τ a → Ow B env1 σ a
  wp : ∀ i l, Has env i (.own l) → i ∉ vs
  dn : S D = none
  dh : ∃ ws, H D = some (.lst ws) ∧ Reps K S ws acc
section
variable {K : PySem.W.Frag} {B : Bs} {S1 H1 S H S' H' : Hp} {env1 env env' : En} {σ τ τ' : L2.St} {vs : List Nat} {D : Addr} {acc : List DL.D}
theorem LcJ.nw (J : LcJ K B S1 H1 env1 σ vs D τ S H env acc) (n : Nw S H S' H') : LcJ K B S1 H1 env1 σ vs D τ S' H' env acc where
  sr := J.sr.nw n
  wt := J.wt
  go := J.go.trans (A' := fun _ => False) n.go fun _ _ _ _ h => h
  fz := J.fz
  ow := J.ow
  wp := J.wp
  dn := let ⟨ws, w1, _⟩ := J.dh; n.nw _ _ w1 J.dn
  dh := let ⟨ws, w1, w2⟩ := J.dh; ⟨ws, n.keep _ _ w1, w2.mono n.ex⟩
theorem LcJ.nO (J : LcJ K B S1 H1 env1 σ vs D τ S H env acc) (h : ¬ Ow B env1 σ D) : ¬ Ow ⟨S1, B.H0, B.pa⟩ env τ D := fun z => h (J.ow D z)
theorem LcJ.tp (J : LcJ K B S1 H1 env1 σ vs D τ S H env acc) (h : ¬ Ow B env1 σ D) (z : TPo K ⟨S1, B.H0, B.pa⟩ S H env τ S' H' env') : LcJ K B S1 H1 env1 σ vs D τ S' H' env' acc where
  sr := z.sr
  wt := J.wt
  go := J.go.trans z.go fun x o _ n w => n (J.ow x w)
  fz := J.fz.trans z.fz
  ow := fun a w => J.ow a (Ow.frz z.fz w)
  wp := fun i l h => by
    rcases z.fz.2 i with e | ⟨l', e1, e2⟩
    · exact J.wp i l (e.symm.trans h)
    · exact nomatch Has.inj h e2
  dn := let ⟨ws, w1, _⟩ := J.dh; z.go.nw _ _ w1 (J.nO h) J.dn
  dh := let ⟨ws, w1, w2⟩ := J.dh; ⟨ws, z.go.keep _ _ w1 (J.nO h), w2.mono z.go.ex⟩
theorem LcJ.tg (J : LcJ K B S1 H1 env1 σ vs D τ S H env acc) (f : GFact vs env env') (s : SR K ⟨S1, B.H0, B.pa⟩ S H env' τ') (w : wipe τ' vs = wipe τ vs) : LcJ K B S1 H1 env1 σ vs D τ' S H env' acc where
  sr := s
  wt := w.trans J.wt
  go := J.go
  fz := ⟨f.len.trans J.fz.1, fun i hi => by
    rcases J.fz.2 i hi with e | ⟨l, e1, e2⟩
    · exact .inl ((f.out i hi).trans e)
    · exact .inr ⟨l, e1, (f.out i hi).trans e2⟩⟩
  ow := fun a h => by
    rcases h with h | ⟨j, l, h1, h2⟩ | ⟨j, l, h1⟩
    · exact .inl h
    · have h1' := f.own j l h1
      refine J.ow a (.inr (.inl ⟨j, l, h1', ?_⟩))
      have hj := J.wp j l h1'
      have e : (wipe τ' vs)[j]? = (wipe τ vs)[j]? := by rw [w]
      rw [wipe_out hj, wipe_out hj] at e
      exact e.symm.trans h2
    · exact J.ow a (.inr (.inr ⟨j, l, f.fix j a l h1⟩))
  wp := fun i l h => J.wp i l (f.own i l h)
  dn := J.dn
  dh := J.dh
theorem LcJ.wipe (J : LcJ K B S1 H1 env1 σ vs D τ S H env acc) (us : List Nat) (hu : ∀ i ∈ us, i ∈ vs) : LcJ K B S1 H1 env1 σ vs D (L2.wipe τ us) S H (wipeD env us) acc where
  sr := J.sr.wipe us
  wt := (wipe_sub us hu).trans J.wt
  go := J.go
  fz := ⟨(wipeD_length us).trans J.fz.1, fun i hi => by
    have hi' : i ∉ us := fun z => hi (hu i z)
    rcases J.fz.2 i hi with e | ⟨l, e1, e2⟩
    · exact .inl ((wipeD_out hi').trans e)
    · exact .inr ⟨l, e1, (wipeD_out hi').trans e2⟩⟩
  ow := fun a h => J.ow a (Ow.wipe (B := ⟨S1, B.H0, B.pa⟩) h)
  wp := fun i l h => J.wp i l (wipeD_has h).1
  dn := J.dn
  dh := J.dh
theorem LcJ.app {d : DL.D} {v : V} {r : List V} (J : LcJ K B S1 H1 env1 σ vs D τ S H env acc) (h : ¬ Ow B env1 σ D) (hD0 : B.H0 D = none) (hD1 : H1 D = none) (hr : H D = some (.lst r)) (rr : Reps K S r acc) (rv : Rep K S v d) : LcJ K B S1 H1 env1 σ vs D τ S (upd H D (.lst (r ++ [v]))) env (acc ++ [d]) where
  sr := J.sr.stray J.dn hD0 (J.nO h)
  wt := J.wt
  go := J.go.stray hD1
  fz := J.fz
  ow := J.ow
  wp := J.wp
  dn := J.dn
  dh := ⟨_, upd_same, rr.append (.cons rv .nil)⟩
end
/-! ### a comprehension of two clauses, without tests -/
def dLc2I (vs1 : List Nat) (g1 : DGM) (m : DM) (nx : En → List D → Prop) : List D → En → List D → Prop
  | [], env, acc => nx env acc
  | d :: r, env, acc => g1 d (wipeD env vs1) fun env2 => dKeep m env2 fun env3 q => match q with
    | .val x => acc.length < sizeLine ∧ dLc2I vs1 g1 m nx r (wipeD env3 vs1) (acc ++ [x])
    | _ => False
def dLc2L (vs vs1 : List Nat) (g : DGM) (mi1 : DIM) (g1 : DGM) (m : DM) (Q : En → List D → Prop) : List D → En → List D → Prop
  | [], env, acc => Q env acc
  | d :: r, env, acc => g d env fun env2 => mi1 env2 fun env3 ds1 => dLc2I vs1 g1 m (fun env4 acc4 => dLc2L vs vs1 g mi1 g1 m Q r (wipeD env4 vs) acc4) ds1 env3 acc
def dLc2 (mi : DIM) (vs vs1 : List Nat) (g : DGM) (mi1 : DIM) (g1 : DGM) (m : DM) : DM := fun env Q => mi env fun env1 ds => plainAt env1 vs = true ∧ dLc2L vs vs1 g mi1 g1 m (fun env2 acc => Q (backD env1 env2 vs) (.own acc)) ds (wipeD env1 vs) []
section
variable {X : Cx}
theorem de_lc2 {elt tg iter tgb iterb : Expr} {scope : Scope} (own : List (Str × Nat)) (vs1 : List Nat) {pos : Pos} {mi mi1 : DIM} {wi : TI} {wi1 : Shared → Hp → Addr → List (Str × Addr) → List Addr → TI} {g g1 : DGM} {t0 t1 : Shared → Hp → Addr → List (Str × Addr) → List Addr → TG} {m : DM} {te : Shared → Hp → Addr → List (Str × Addr) → List Addr → TE} (hc : X.calm = true) (hN : X.N.Nodup) (hi : DI X tg iter mi wi) (ok : BlkOk X.N X.env.scope scope own) (hv : ∀ i ∈ vs1, i ∈ own.map (·.2))
    (hg : ∀ (s : Shared) (H : Hp) (C : Addr) (cl : List (Str × Addr)) (fp : List Addr), DG (X.blk s H scope (compEnvC scope cl C X.env) fp) tg g (t0 s H C cl fp))
    (hi1 : ∀ (s : Shared) (H : Hp) (C : Addr) (cl : List (Str × Addr)) (fp : List Addr), DI (X.blk s H scope (compEnvC scope cl C X.env) fp) tgb iterb mi1 (wi1 s H C cl fp))
    (hg1 : ∀ (s : Shared) (H : Hp) (C : Addr) (cl : List (Str × Addr)) (fp : List Addr), DG (X.blk s H scope (compEnvC scope cl C X.env) fp) tgb g1 (t1 s H C cl fp))
    (he : ∀ (s : Shared) (H : Hp) (C : Addr) (cl : List (Str × Addr)) (fp : List Addr), DE (X.blk s H scope (compEnvC scope cl C X.env) fp) elt m (te s H C cl fp))
    (i1 : TgIn (t0 X.s_0 X.H_0 0 [] []) (own.map (·.2))) (i2 : GIn g (own.map (·.2))) (j1 : TgIn (t1 X.s_0 X.H_0 0 [] []) vs1) (j2 : GIn g1 vs1)
    (e1 : ∀ s H C cl fp, t0 s H C cl fp = t0 X.s_0 X.H_0 0 [] [] := by intros; rfl) (e2 : ∀ s H C cl fp, wi1 s H C cl fp = wi1 X.s_0 X.H_0 0 [] [] := by intros; rfl) (e3 : ∀ s H C cl fp, t1 s H C cl fp = t1 X.s_0 X.H_0 0 [] [] := by intros; rfl) (e4 : ∀ s H C cl fp, te s H C cl fp = te X.s_0 X.H_0 0 [] [] := by intros; rfl) (hs : ∀ x, foldedSetIterable iter X.env x = pure x := by intro _; rfl) (hs1 : ∀ env x, foldedSetIterable iterb env x = pure x := by intro _ _; rfl) :
    DE X (.ListComp elt [⟨tg, iter, [], 0⟩, ⟨tgb, iterb, [], 0⟩] scope pos) (dLc2 mi (own.map (·.2)) vs1 g mi1 g1 m) (tLc2 wi (t0 X.s_0 X.H_0 0 [] []) tYes (wi1 X.s_0 X.H_0 0 [] []) (t1 X.s_0 X.H_0 0 [] []) tYes (te X.s_0 X.H_0 0 [] []) (own.map (·.2)) vs1) := by
  have hg : ∀ (s : Shared) (H : Hp) (C : Addr) (cl : List (Str × Addr)) (fp : List Addr), DG (X.blk s H scope (compEnvC scope cl C X.env) fp) tg g (t0 X.s_0 X.H_0 0 [] []) := fun s H C cl fp => e1 s H C cl fp ▸ hg s H C cl fp
  have hi1 : ∀ (s : Shared) (H : Hp) (C : Addr) (cl : List (Str × Addr)) (fp : List Addr), DI (X.blk s H scope (compEnvC scope cl C X.env) fp) tgb iterb mi1 (wi1 X.s_0 X.H_0 0 [] []) := fun s H C cl fp => e2 s H C cl fp ▸ hi1 s H C cl fp
  have hg1 : ∀ (s : Shared) (H : Hp) (C : Addr) (cl : List (Str × Addr)) (fp : List Addr), DG (X.blk s H scope (compEnvC scope cl C X.env) fp) tgb g1 (t1 X.s_0 X.H_0 0 [] []) := fun s H C cl fp => e3 s H C cl fp ▸ hg1 s H C cl fp
  have he : ∀ (s : Shared) (H : Hp) (C : Addr) (cl : List (Str × Addr)) (fp : List Addr), DE (X.blk s H scope (compEnvC scope cl C X.env) fp) elt m (te X.s_0 X.H_0 0 [] []) := fun s H C cl fp => e4 s H C cl fp ▸ he s H C cl fp
  clear e1 e2 e3 e4
  generalize t0 X.s_0 X.H_0 0 [] [] = t0 at *
  generalize wi1 X.s_0 X.H_0 0 [] [] = wi1 at *
  generalize t1 X.s_0 X.H_0 0 [] [] = t1 at *
  generalize te X.s_0 X.H_0 0 [] [] = te at *
  refine ⟨pe_lc2 hc hN hi.1 ok hv (fun s H C cl fp => (hg s H C cl fp).1) (fun _ _ _ _ _ => pts_nil) (fun s H C cl fp => (hi1 s H C cl fp).1) (fun s H C cl fp => (hg1 s H C cl fp).1) (fun _ _ _ _ _ => pts_nil) (fun s H C cl fp => (he s H C cl fp).1) hs hs1, ?_⟩
  have g2 := (hg X.s_0 X.H_0 0 [] []).2
  have k2 := (hg1 X.s_0 X.H_0 0 [] []).2
  have n2 := (hi1 X.s_0 X.H_0 0 [] []).2
  have e2 := (de_keep (he X.s_0 X.H_0 0 [] [])).2
  clear hg hi1 hg1 he
  generalize own.map (·.2) = vs at *
  intro B S H env σ Q Qv s q k
  refine hi.2 B S H env σ _ _ s q fun J H1 S1 env1 ds z it q1 => ?_
  obtain ⟨pl, q1⟩ := q1
  have s1 := z.sr
  intro D hD
  have hD0 := s1.hp0 hD
  have hDn := s1.now hD
  have hDs := s1.sp0 hD
  refine ⟨fun i m' H' => m' = ds.length - i ∧ i ≤ ds.length ∧ ∃ S' env' acc, LcJ X.K B S1 H1 env1 σ vs D (wipe σ vs) S' H' env' acc ∧ (∀ i n, Has env' i n → i ∉ vs) ∧ dLc2L vs vs1 g mi1 g1 m (fun env2 acc => Q (backD env1 env2 vs) (.own acc)) (ds.drop i) env' acc,
    ⟨_, rfl, Nat.zero_le _, S1, wipeD env1 vs, [], ⟨(s1.base.stray hDs hD0 hDn).wipe vs, wipe_idem vs fun _ h => h, Go.stray .refl hD, ⟨wipeD_length vs, fun i hi => .inl (wipeD_out hi)⟩, fun a h => Ow.wipe (B := B) h, fun i l h => (wipeD_has h).2, hDs, [], upd_same, .nil⟩, fun i n h => (wipeD_has h).2, q1⟩, ?_⟩
  rintro i m' H' ⟨rfl, hil, S', env', acc, I, wp, l⟩
  have ex1 : Ex S1 S' := I.sr.ex0
  by_cases c : i < ds.length
  · refine .inr ⟨it.go i c S' H' ex1 I.sr.ex, fun H2 => ∃ S2 env2 acc2, LcJ X.K B S1 H1 env1 σ vs D (wipe σ vs) S2 H2 env2 acc2 ∧ (∀ i n, Has env2 i n → i ∉ vs) ∧ dLc2L vs vs1 g mi1 g1 m (fun env2 acc => Q (backD env1 env2 vs) (.own acc)) (ds.drop (i + 1)) env2 acc2, fun H2 ⟨S2, env2, acc2, a1, a2, a3⟩ => ⟨_, by omega, rfl, c, S2, env2, acc2, a1, a2, a3⟩, fun x H2 y => ?_⟩
    have hd : ds[i]? = some ds[i] := List.getElem?_eq_getElem c
    obtain ⟨S2, nw2, r2⟩ := it.yld i _ hd S' H' x H2 ex1 I.sr.ex y
    rw [List.drop_eq_getElem_cons c] at l
    have I2 := I.nw nw2
    refine i1 _ _ _ (fun σ3 H3 => H3 = H2 ∧ ∃ env3, SR X.K ⟨S1, B.H0, B.pa⟩ S2 H2 env3 σ3 ∧ GFact vs env' env3 ∧ mi1 env3 fun env4 ds1 => dLc2I vs1 g1 m (fun env4 acc4 => dLc2L vs vs1 g mi1 g1 m (fun env2 acc => Q (backD env1 env2 vs) (.own acc)) (ds.drop (i + 1)) (wipeD env4 vs) acc4) ds1 env4 acc) _ ?_
      (g2 ⟨S1, B.H0, B.pa⟩ S2 H2 env' (wipe σ vs) x ds[i] _ _ I2.sr r2 (i2 ds[i] env' _ (fun env3 => GFact vs env' env3 ∧ mi1 env3 fun env4 ds1 => dLc2I vs1 g1 m (fun env4 acc4 => dLc2L vs vs1 g mi1 g1 m (fun env2 acc => Q (backD env1 env2 vs) (.own acc)) (ds.drop (i + 1)) (wipeD env4 vs) acc4) ds1 env4 acc) (fun _ f q => ⟨f, q⟩) l) fun env3 σ3 s3 q3 => ⟨rfl, env3, s3, q3.1, q3.2⟩)
    rintro σ3 H3 w3 ⟨rfl, env3, s3, f3, q3⟩
    have w3' : wipe σ3 vs = wipe σ vs := w3.trans (wipe_idem vs fun _ h => h)
    have I3 := I2.tg f3 s3 w3
    refine ⟨w3', ?_⟩
    simp only [tYes, if_true]
    refine n2 ⟨S1, B.H0, B.pa⟩ S2 H3 env3 σ3 _ _ I3.sr q3 fun J1 H4 S4 env4 ds1 z4 it1 q4 => ?_
    have I4 := I3.tp hDn z4
    refine ⟨fun j m1 H5 => m1 = ds1.length - j ∧ j ≤ ds1.length ∧ ∃ S5 env5 acc5, LcJ X.K B S1 H1 env1 σ vs D σ3 S5 H5 env5 acc5 ∧ Ex S4 S5 ∧ dLc2I vs1 g1 m (fun env4 acc4 => dLc2L vs vs1 g mi1 g1 m (fun env2 acc => Q (backD env1 env2 vs) (.own acc)) (ds.drop (i + 1)) (wipeD env4 vs) acc4) (ds1.drop j) env5 acc5, ⟨_, rfl, Nat.zero_le _, S4, env4, acc, I4, Ex.refl _, q4⟩, ?_⟩
    rintro j m1 H5 ⟨rfl, hj, S5, env5, acc5, I5, x5, l5⟩
    by_cases c1 : j < ds1.length
    · refine .inr ⟨it1.go j c1 S5 H5 x5 I5.sr.ex, fun H6 => ∃ S6 env6 acc6, LcJ X.K B S1 H1 env1 σ vs D σ3 S6 H6 env6 acc6 ∧ Ex S4 S6 ∧ dLc2I vs1 g1 m (fun env4 acc4 => dLc2L vs vs1 g mi1 g1 m (fun env2 acc => Q (backD env1 env2 vs) (.own acc)) (ds.drop (i + 1)) (wipeD env4 vs) acc4) (ds1.drop (j + 1)) env6 acc6, fun H6 ⟨S6, env6, acc6, a1, a2, a3⟩ => ⟨_, by omega, rfl, c1, S6, env6, acc6, a1, a2, a3⟩, fun x1 H6 y1 => ?_⟩
      have hd1 : ds1[j]? = some ds1[j] := List.getElem?_eq_getElem c1
      obtain ⟨S6, nw6, r6⟩ := it1.yld j _ hd1 S5 H5 x1 H6 x5 I5.sr.ex y1
      rw [List.drop_eq_getElem_cons c1] at l5
      have I6 := (I5.nw nw6).wipe vs1 hv
      refine j1 _ _ _ (fun σ7 H7 => H7 = H6 ∧ ∃ env7, SR X.K ⟨S1, B.H0, B.pa⟩ S6 H6 env7 σ7 ∧ GFact vs1 (wipeD env5 vs1) env7 ∧ dKeep m env7 fun env8 q => match q with
          | .val x => acc5.length < sizeLine ∧ dLc2I vs1 g1 m (fun env4 acc4 => dLc2L vs vs1 g mi1 g1 m (fun env2 acc => Q (backD env1 env2 vs) (.own acc)) (ds.drop (i + 1)) (wipeD env4 vs) acc4) (ds1.drop (j + 1)) (wipeD env8 vs1) (acc5 ++ [x])
          | _ => False) _ ?_
        (k2 ⟨S1, B.H0, B.pa⟩ S6 H6 (wipeD env5 vs1) (wipe σ3 vs1) x1 ds1[j] _ _ I6.sr r6 (j2 ds1[j] (wipeD env5 vs1) _ (fun env7 => GFact vs1 (wipeD env5 vs1) env7 ∧ dKeep m env7 fun env8 q => match q with
          | .val x => acc5.length < sizeLine ∧ dLc2I vs1 g1 m (fun env4 acc4 => dLc2L vs vs1 g mi1 g1 m (fun env2 acc => Q (backD env1 env2 vs) (.own acc)) (ds.drop (i + 1)) (wipeD env4 vs) acc4) (ds1.drop (j + 1)) (wipeD env8 vs1) (acc5 ++ [x])
          | _ => False) (fun _ f q => ⟨f, q⟩) l5) fun env7 σ7 s7 q7 => ⟨rfl, env7, s7, q7.1, q7.2⟩)
      rintro σ7 H7 w7 ⟨rfl, env7, s7, f7, q7⟩
      have w7' : wipe σ7 vs1 = wipe σ3 vs1 := w7.trans (wipe_idem vs1 fun _ h => h)
      have w7v : wipe σ7 vs = wipe (wipe σ3 vs1) vs := by rw [← wipe_sub (τ := σ7) vs1 hv, w7']
      have I7 := I6.tg (env' := env7) (τ' := σ7) ⟨f7.len, fun i hi => f7.out i fun z => hi (hv i z), f7.own, f7.fix⟩ s7 w7v
      refine ⟨w7', ?_⟩
      refine e2 ⟨S1, B.H0, B.pa⟩ S6 H7 env7 σ7 _ _ I7.sr q7 fun v H8 S8 env8 r z8 q8 => ?_
      split at q8
      · rename_i d8
        have I8 := I7.tp hDn z8.t
        obtain ⟨rw8, a1, a2⟩ := I8.dh
        refine ⟨rw8, a1, by rw [a2.length]; exact q8.1, S8, wipeD env8 vs1, acc5 ++ [d8], ?_, x5.trans (nw6.ex.trans z8.go.ex), q8.2⟩
        have I9 := I8.app hDn hD0 hD a1 a2 (z8.res : Rep X.K S8 v d8)
        have I10 := I9.wipe vs1 hv
        have sl : σ3.length = (wipe σ7 vs1).length := by rw [w7', wipe_length]
        have mr : ∀ i v, Slt (wipe σ7 vs1) i v → Slt σ3 i v := fun i v h => by
          rw [w7'] at h
          exact (wipe_some h).1
        refine ⟨I10.sr.more sl mr, w3', I10.go, I10.fz, fun a h => ?_, I10.wp, I10.dn, I10.dh⟩
        rcases h with h | ⟨i, l, h1, h2⟩ | ⟨i, l, h1⟩
        · exact .inl h
        · refine I10.ow a (.inr (.inl ⟨i, l, h1, ?_⟩))
          show (wipe σ7 vs1)[i]? = _
          rw [w7', wipe_out (wipeD_has h1).2]
          exact h2
        · exact I10.ow a (.inr (.inr ⟨i, l, h1⟩))
      · exact q8.elim
    · have e : j = ds1.length := by omega
      subst e
      rw [List.drop_length] at l5
      have l5 : dLc2L vs vs1 g mi1 g1 m (fun env2 acc => Q (backD env1 env2 vs) (.own acc)) (ds.drop (i + 1)) (wipeD env5 vs) acc5 := l5
      refine .inl ⟨it1.stop S5 H5 x5 I5.sr.ex, S5, wipeD env5 vs, acc5, ?_, fun i n h => (wipeD_has h).2, l5⟩
      have I6 := I5.wipe vs fun _ h => h
      rw [w3'] at I6
      exact I6
  · have e : i = ds.length := by omega
    subst e
    rw [List.drop_length] at l
    refine .inl ⟨it.stop S' H' ex1 I.sr.ex, ?_⟩
    obtain ⟨ws, w1, w2⟩ := I.dh
    have sf := (s1.unbase I.sr).more (σ' := σ) (wipe_length σ vs).symm (fun i v h => (wipe_some h).1)
    exact k _ H' S' _ (.own acc) ⟨SR.back s1 sf ex1 I.fz.1 vs pl, z.go.trans I.go fun x o _ n w => n (Ow.frz z.fz w), z.fz.trans I.fz.back, D, ws, rfl, I.dn, hD0, z.go.old D hD, fun w => hDn (Ow.frz I.fz.back w), w1, w2⟩ l
end
end DL
end

section
set_option Elab.async false
set_option linter.all false
set_option maxRecDepth 100000
set_option maxHeartbeats 4000000
namespace DL
open PySem PySem.Spec PyProof.Rows L2
open Evl (Ex)
/-! ### isinstance(e, (T1, T2, ..)), built-in classes -/
def isBs (x : D) : List BT → Option Bool
  | [] => match tyD x with
    | some _ => some false
    | none => none
  | T :: r => match isB T x, isBs x r with
    | some a, some b => some (a || b)
    | _, _ => none
def tyVs (Ts : List BT) : List V := Ts.map fun T => .ty T.name
def tyUs (Ts : List BT) : List Value := Ts.map fun T => .type T.name
theorem clsVs : ∀ Ts : List BT, Paired ClsV (tyVs Ts) (tyUs Ts)
  | [] => .nil
  | _ :: r => .cons (.ty _) (clsVs r)
theorem isBs_kit {K : PySem.W.Frag} {x : D} : ∀ {Ts : List BT} {b : Bool}, isBs x Ts = some b → ∃ t, tyD x = some t ∧ PySem.W.kitAny K (.type t) (tyUs Ts) = some b
  | [], b, h => by
    unfold isBs at h
    split at h
    · rename_i t e
      cases h
      exact ⟨t, e, kitAny_nil⟩
    · cases h
  | T :: r, b, h => by
    have h : (match isB T x, isBs x r with
      | some a, some b => some (a || b)
      | _, _ => none) = some b := h
    split at h
    · rename_i a c e1 e2
      cases h
      obtain ⟨t, h1, h2⟩ := isB_kit e1
      obtain ⟨t', h3, h4⟩ := isBs_kit (K := K) e2
      rw [h1] at h3
      cases h3
      refine ⟨t, h1, kitAny_cons (kit_ty h2) (fun z => ?_) fun z => ?_⟩
      · rw [z, Bool.false_or]
        exact h4
      · rw [z, Bool.true_or]
    · cases h
def dIsis (Ts : List BT) (m : DM) : DM := fun env Q => m env fun env' r => ∃ b, isBs r.data Ts = some b ∧ Q env' (.val (.bl b))
section
variable {X : Cx} {a e : Expr} {es : List Expr} {ma : DM} {ta te : TE} {pos p pt : Pos} {x1 : Nat} {n : DAM} {tn : TA}
theorem de_isis {Ts : List BT} {k0 : Nat} (hg : Gl X "isinstance") (hm : X.mg "isinstance" = none) (ha : DE X a ma ta) (hl : Ts.length ≤ 100) (hc : PA X es (tCs (tyVs Ts)))
    (he : starEach (a :: [.Tuple es k0 pt]) X.env = (false, eval a X.env) :: starEach [.Tuple es k0 pt] X.env := by rfl) (he2 : starEach (.Tuple es k0 pt :: []) X.env = (false, eval (.Tuple es k0 pt) X.env) :: starEach [] X.env := by rfl) (hpl : (backTo pos (starEach [.Tuple es k0 pt] X.env)).any (·.1) = false := by rfl) :
    DE X (.Call (.Name "isinstance" p) (a :: [.Tuple es k0 pt]) [] pos) (dIsis Ts ma) (tCB (rIsiT X.K) (tCons ta (tCons (tTup (tCs (tyVs Ts))) tNil))) := by
  refine ⟨pe_callB call_isiT hg hm (by decide +kernel) (pa_cons ha.1 (pa_cons (pe_tup hc) pa_nil he2) he) (by decide) (by decide) he hpl, fun B S H env σ Q Qv s q k => ?_⟩
  refine ha.2 B S H env σ _ _ s q fun x H1 S1 env1 r1 z1 q1 => ?_
  obtain ⟨b, h1, h3⟩ := q1
  obtain ⟨t, h1, h2⟩ := isBs_kit (K := X.K) h1
  refine tCs_run (tyVs Ts) σ H1 _ ⟨by unfold tyVs; rw [List.length_map, sizeLine_eq]; omega, fun tp htp => ?_⟩
  have nn := Nw.hid z1.sr.ex (o := .tup (tyVs Ts)) htp
  refine ⟨x, tp, tyVs Ts, _, tyUs Ts, b, rfl, upd_same, clsVs Ts, (z1.look1.nw nn).ty nn.sh h1, h2, ?_⟩
  have w := z1.t.nw nn
  exact k _ _ S1 env1 (.val (.bl b)) ⟨w.sr, w.go, w.fz, Rep.bl b⟩ h3
/-! ### displays with a star -/
def DAS (X : Cx) (es : List Expr) (m : DAM) (t : TA) : Prop := PA X es t ∧ ∀ (B : Bs) (S H : Hp) (env : En) (σ : L2.St) (Q : En → List R → Prop) (Qv : List V → Hp → Prop), SR X.K B S H env σ → m env Q →
  (∀ vs H' S' env' rs, TPo X.K B S H env σ S' H' env' → LkA X.K B S' H' vs rs → Q env' rs → Qv vs H') → t σ H Qv
theorem das_of {m : DAM} {t : TA} (h : DA X es m t) : DAS X es m t := ⟨h.1, fun B S H env σ Q Qv s q k => h.2 B S H env σ Q Qv s q fun vs H' S' env' rs z l _ q' => k vs H' S' env' rs z l q'⟩
theorem das_cons {m : DAM} {t : TA} (ha : DE X a ma ta) (hb : DAS X es m t) (hs : starEach (a :: es) X.env = (false, eval a X.env) :: starEach es X.env := by rfl) : DAS X (a :: es) (dCons ma m) (tCons ta t) := by
  refine ⟨pa_cons ha.1 hb.1 hs, fun B S H env σ Q Qv s q k => ?_⟩
  refine ha.2 B S H env σ _ _ s q fun x H1 S1 env1 r1 z1 q1 => ?_
  refine hb.2 B S1 H1 env1 σ _ _ z1.sr q1 fun vs H2 S2 env2 rs z2 l2 q2 => ?_
  refine k _ H2 S2 env2 _ (z1.t.trans z2) (.cons (RepB.go z1 rfl z2) (fun d e => ?_) (fun e => ?_) l2) q2
  · subst e
    exact Rep.mono z2.go.ex z1.res
  · subst e
    exact z1.res
def dStar (m : DM) (n : DAM) : DAM := fun env Q => dKeep m env fun env1 r => match r with
  | .val (.lst l) => n env1 fun env2 rs => Q env2 (l.map R.val ++ rs)
  | .val (.tup l) => n env1 fun env2 rs => Q env2 (l.map R.val ++ rs)
  | _ => False
theorem LkA.more {K : PySem.W.Frag} {B : Bs} {S H : Hp} {ws : List V} {rs : List R} (t : LkA K B S H ws rs) : ∀ {vs : List V} {ds : List DL.D}, Reps K S vs ds → LkA K B S H (vs ++ ws) (ds.map R.val ++ rs)
  | _, _, .nil => t
  | _, _, .cons h r => .cons (.inl h) (fun d e => by cases e; exact h) (fun e => by cases e) (LkA.more t r)
theorem das_star {m : DAM} {t : TA} {sp : Pos} (ha : DE X a ma ta) (hb : DAS X es m t) (hs : starEach (.Starred a sp :: es) X.env = (true, eval a X.env) :: starEach es X.env := by rfl) : DAS X (.Starred a sp :: es) (dStar ma m) (StX.tStar X.K ta t) := by
  have hk := de_keep ha
  refine ⟨StX.pa_star hk.1 hb.1 hs, fun B S H env σ Q Qv s q k => ?_⟩
  refine hk.2 B S H env σ _ _ s q fun x H1 S1 env1 r1 z1 q1 => ?_
  have zr := z1.res
  split at q1
  · rename_i l
    have zr : Rep X.K S1 x (.lst l) := zr
    cases zr with
    | lst h rr =>
      refine ⟨_, _, rfl, .inr (SqL.of (z1.sr.ex _ _ h)), hb.2 B S1 H1 env1 σ _ _ z1.sr q1 fun vs H2 S2 env2 rs z2 l2 q2 => ?_⟩
      exact k _ H2 S2 env2 _ (z1.t.trans z2) (l2.more (rr.mono z2.go.ex)) q2
  · rename_i l
    have zr : Rep X.K S1 x (.tup l) := zr
    cases zr with
    | tup h rr =>
      refine ⟨_, _, rfl, .inl (Evl.ex_t z1.sr.ex h), hb.2 B S1 H1 env1 σ _ _ z1.sr q1 fun vs H2 S2 env2 rs z2 l2 q2 => ?_⟩
      exact k _ H2 S2 env2 _ (z1.t.trans z2) (l2.more (rr.mono z2.go.ex)) q2
  · exact q1.elim
theorem de_tupS {m : DAM} {t : TA} (h : DAS X es m t) : DE X (.Tuple es x1 pos) (dTup m) (tTup t) := by
  refine ⟨pe_tup h.1, fun B S H env σ Q Qv s q k => h.2 B S H env σ _ _ s q fun vs H1 S1 env1 rs z1 l1 q1 => ?_⟩
  obtain ⟨ds, h1, h2, h3⟩ := q1
  have r := l1.vals h1
  refine ⟨by rw [r.length]; exact h2, fun p hp => ?_⟩
  have nn := Nw.add z1.sr.ex (o := .tup vs) hp
  exact k _ _ _ env1 (.val (.tup ds)) (EPo.fin z1 (q := .val (.tup ds)) ⟨nn, .tup (SqT.of upd_same) (r.mono nn.ex)⟩) h3
theorem de_lstS {m : DAM} {t : TA} (h : DAS X es m t) : DE X (.List es pos) (dLst m) (tLst t) := by
  refine ⟨pe_lst h.1, fun B S H env σ Q Qv s q k => h.2 B S H env σ _ _ s q fun vs H1 S1 env1 rs z1 l1 q1 => ?_⟩
  obtain ⟨ds, h1, h2, h3⟩ := q1
  have r := l1.vals h1
  refine ⟨by rw [r.length]; exact h2, fun p hp => ?_⟩
  have nn := Nw.hid z1.sr.ex (o := .lst vs) hp
  exact k _ _ _ env1 (.own ds) (EPo.fin z1 (q := .own ds) ⟨nn, p, vs, rfl, hp, z1.sr.sp0 hp, upd_same, r⟩) h3
/-! ### f-strings -/
def dFmt (m : DM) : DM := fun env Q => m env fun env' r => match r.data with
  | .str y => y.length ≤ sizeLine ∧ Q env' (.val (.str y))
  | .int i => i.natAbs.log2 < 1920 ∧ Q env' (.val (.str (toString i)))
  | _ => False
theorem de_fmt (ha : DE X a ma ta) : DE X (.FormattedValue a (-1) none pos) (dFmt ma) (tFmt ta) := by
  refine ⟨pe_fmt ha.1, fun B S H env σ Q Qv s q k => ha.2 B S H env σ _ _ s q fun x H1 S1 env1 r1 z1 q1 => ?_⟩
  have lk := z1.look1
  split at q1
  · rename_i y e
    rw [e] at lk
    exact .inl ⟨y, lk.str, q1.1, k _ H1 S1 env1 (.val (.str y)) ⟨z1.sr, z1.go, z1.fz, Rep.str y⟩ q1.2⟩
  · rename_i i e
    rw [e] at lk
    exact .inr ⟨i, lk.int, q1.1, k _ H1 S1 env1 (.val (.str (toString i))) ⟨z1.sr, z1.go, z1.fz, Rep.str _⟩ q1.2⟩
  · exact q1.elim
inductive DJ (X : Cx) : List Expr → List DM → List TE → Prop where
  | nil : DJ X [] [] []
  | cons {e : Expr} {m : DM} {t : TE} {es : List Expr} {ms : List DM} {ts : List TE} (h : DE X e m t) (r : DJ X es ms ts) : DJ X (e :: es) (m :: ms) (t :: ts)
theorem DJ.pj {es : List Expr} {ms : List DM} {ts : List TE} (h : DJ X es ms ts) : PJ X es ts := by
  induction h with
  | nil => exact .nil
  | cons h r ih => exact .cons h.1 ih
def dJs : List DM → Str → En → (En → Str → Prop) → Prop
  | [], acc, env, Q => Q env acc
  | m :: ms, acc, env, Q => m env fun env' r => match r.data with
    | .str y => (acc ++ y).length ≤ sizeLine ∧ dJs ms (acc ++ y) env' Q
    | _ => False
def dJoined (ms : List DM) : DM := fun env Q => dJs ms Str.empty env fun env' x => Q env' (.val (.str x))
theorem dj_run {es : List Expr} {ms : List DM} {ts : List TE} (h : DJ X es ms ts) : ∀ (acc : Str) (B : Bs) (S H : Hp) (env : En) (σ : L2.St) (Q : En → Str → Prop) (Qv : Str → Hp → Prop), SR X.K B S H env σ → dJs ms acc env Q →
    (∀ x H' S' env', TPo X.K B S H env σ S' H' env' → Q env' x → Qv x H') → tJs ts acc σ H Qv := by
  induction h with
  | nil =>
    intro acc B S H env σ Q Qv s q k
    exact k acc H S env (.refl s) q
  | @cons e m t es ms ts he r ih =>
    intro acc B S H env σ Q Qv s q k
    refine he.2 B S H env σ _ _ s q fun x H1 S1 env1 r1 z1 q1 => ?_
    have lk := z1.look1
    split at q1
    · rename_i y e
      rw [e] at lk
      exact ⟨y, lk.str, q1.1, ih (acc ++ y) B S1 H1 env1 σ Q _ z1.sr q1.2 fun x H' S' env' z q' => k x H' S' env' (z1.t.trans z) q'⟩
    · exact q1.elim
theorem de_joined {v1 v2 : Expr} {rest : List Expr} {ms : List DM} {ts : List TE} (h : DJ X (v1 :: v2 :: rest) ms ts) : DE X (.JoinedStr (v1 :: v2 :: rest) pos) (dJoined ms) (fun σ H Q => tJs ts Str.empty σ H fun out H1 => Q (.str out) H1) :=
  ⟨pe_joined h.pj, fun B S H env σ Q Qv s q k => dj_run h Str.empty B S H env σ _ _ s q fun x H' S' env' z q' => k _ H' S' env' (.val (.str x)) ⟨z.sr, z.go, z.fz, Rep.str x⟩ q'⟩
/-! ### one sign in a text -/
def mInS : M2 := fun x y Q => match x, y with
  | .str c, .str z => ∃ n : Nat, c = ⟨#[n]⟩ ∧ Q (.val (.bl (decide (n ∈ z.cps.toList))))
  | _, _ => False
def rInS : R2 := fun x y H Q => ∃ (c : Nat) (z : Str), x = .str ⟨#[c]⟩ ∧ y = .str z ∧ Q (.bl (decide (c ∈ z.cps.toList))) H
theorem op_inS : OpR X (compareOp .In) rInS := op_in_sign
theorem opd_inS {K : PySem.W.Frag} : OpD K rInS mInS := by
  intro S H x y dx dy Q Qv e hx hy m k
  unfold mInS at m
  split at m
  · rename_i c z
    obtain ⟨n, rfl, q⟩ := m
    exact ⟨n, z, hx.str, hy.str, k _ _ _ _ (nwr_val e (.bl _)) q⟩
  · exact m.elim
/-! ### name = [..] whose element may raise -/
theorem ds_setLcP {elt tg iter : Expr} {scope : Scope} {mi : DIM} {wi : TI} {g : DGM} {tg1 : TG} {m : PM} {te : L2.St → BC → TE} {i : Nat} {y : Str} {py spos : Pos} (own : List (Str × Nat)) (hs : X.stack = X.env :: X.outer) (hf : X.env.frame = some X.env.locals) (hc : X.calm = true) (hN : X.N.Nodup) (hy : X.N[i]? = some y) (hyl : X.env.scope.names.lookup y = some .local)
    (hsw : swapsWith (.ListComp elt [⟨tg, iter, [], 0⟩] scope pos) (some (.Name y py)) spos.line X.env = pure true) (hi : DI X tg iter mi wi) (ok : BlkOk X.N X.env.scope scope own)
    (hg : ∀ τ c, DG (X.atB (wk X) scope τ c) tg g tg1) (he : ∀ τ c, DP (X.atB (wk X) scope τ c) elt m (te τ c)) (i1 : TgIn tg1 (own.map (·.2))) (i2 : GIn g (own.map (·.2))) (hsi : ∀ x, foldedSetIterable iter X.env x = pure x := by intro _; rfl) :
    DS X (.Assign [.Name y py] (.ListComp elt [⟨tg, iter, [], 0⟩] scope pos) spos) (dSetP i (dLcP mi (own.map (·.2)) g m)) (tAsg (tLcX wi tg1 te (own.map (·.2))) (gName i)) :=
  ⟨ps_setLcX hs hf takes_wk hc hN hy hyl hsw hi.1 ok (fun τ c => (hg τ c).1) (fun τ c => (he τ c).1) hsi, fun B S H env σ E D s q ek => lcP_core own hi (hg [] ⟨X.s_0, X.H_0, 0, [], []⟩).2 (fun τ c => (he τ c).2) i1 i2 B S H env σ _ _ _ s q (ek.xc σ) fun v d H' S' env' s' r q' => ek.nx S' H' _ _ (s'.storeD r) q'⟩
end
/-! ### try: name = g(f(..)) / except X as e: suite; f may raise -/
def dTryG (K : PySem.W.Frag) (c : Value) (i j : Nat) (G : FM) (F : FME) (n : DAM) (su : Addr → Value → Option Addr → DSM) : DSM := fun E env => n env fun env1 rs => argsOk rs = true ∧ F rs (fun r => match r with
  | .val d => G [.val d] fun r2 => match r2 with
    | .val d2 => E.nx (env1.set i (some (.val d2)))
    | .own l => E.nx (env1.set i (some (.own l)))
    | _ => False
  | _ => False) (Caught K c j su E env1)
section
variable {X : Cx} {k k2 : Nat} {f g C : Addr} {fd gd : FuncData} {ps pg : List Str} {FE : FME} {FG : FM} {x y nm fx gx : Str} {p p2 np pos pos' cpos cpos2 apos py : Pos} {e : Expr} {es : List Expr} {n : DAM} {tn : TA} {npar i j : Nat} {c : Value} {b0 : Stmt} {suite : List Stmt} {su : Addr → Value → Option Addr → DSM} {ts : Addr → Value → Option Addr → TS}
theorem ds_tryG {tn : List (Addr × Obj) → (Value → Shared → Prop) → TA} (hs : X.stack = X.env :: X.outer) (hfr : X.env.frame = some X.env.locals) (hN : X.N.Nodup) (hj : X.N[j]? = some nm) (hln : X.env.kindOf nm = some .local) (hc : Names X x c) (hF : FnOk X.prog X.w X.K X.mg X.base (L2N.CX X.prog X.w) k f fd ps (spE X.K npar FE)) (hr : Room k X.A) (hg : Gl X fx) (hm : X.mg fx = some (.ref f)) (hk : PySem.W.keepIn X.K (.ref f) = true) (hb : Binds X.K fd ps [])
    (hG : FnOk X.prog X.w X.K X.mg X.base CX0 k2 g gd pg (spF X.K 1 FG)) (hr2 : Room k2 X.A) (hg2 : Gl X gx) (hm2 : X.mg gx = some (.ref g)) (hk2 : PySem.W.keepIn X.K (.ref g) = true) (hb2 : Binds X.K gd pg [])
    (ha : ∀ pn xe, DA (X.tr pn xe) (e :: es) n (tn pn xe)) (hlen : (e :: es).length = npar) (hi : X.N[i]? = some y) (hy : Loc X.env.scope y)
    (hsu : ∀ (a : Addr) (oe : Obj) (cls : Value) (d : Option Addr) (pn : List (Addr × Obj)), SuFacts (X.suite a ((a, oe) :: pn)) a cls d → DSs (X.suite a ((a, oe) :: pn)) (b0 :: suite) (su a cls d) (ts a cls d))
    (et : ∀ pn xe, tn pn xe = tn [] X.xe := by intros; rfl) (hdb : (fx == ("__debug__" : Str)) = false := by decide) (he : starEach (e :: es) X.env = (false, eval e X.env) :: starEach es X.env := by rfl) (hpl : (backTo cpos (starEach es X.env)).any (·.1) = false := by rfl)
    (hdb2 : (gx == ("__debug__" : Str)) = false := by decide) (he2 : starEach ((.Call (.Name fx p) (e :: es) [] cpos) :: []) X.env = (false, eval (.Call (.Name fx p) (e :: es) [] cpos) X.env) :: starEach [] X.env := by rfl) (hpl2 : (backTo cpos2 (starEach [] X.env)).any (·.1) = false := by rfl)
    (hsw : swapsWith (.Call (.Name gx p2) [.Call (.Name fx p) (e :: es) [] cpos] [] cpos2) (some (.Name y py)) apos.line X.env = pure false := by rfl) (hf : X.fn y = true ∨ X.env.scope.names.lookup y = some .local := by first | exact .inl rfl | exact .inr rfl | assumption) :
    DS X (.Try [.Assign [.Name y py] (.Call (.Name gx p2) [.Call (.Name fx p) (e :: es) [] cpos] [] cpos2) apos] [.ExceptHandler (some (.Name x np)) (some nm) (b0 :: suite) pos'] [] [] pos) (dTryG X.K c i j FG FE n su)
      (fun D σ H => tAsg (tCall (spF X.K 1 FG) [] E0 (tCons (tCallS (spE X.K npar FE) (WE (wAs X.K c j ts (fun _ _ _ _ => False) D)) (tn [] X.xe)) tNil)) (gName i) D σ H) := by
  have ha' : ∀ pn xe, DA (X.tr pn xe) (e :: es) n (tn [] X.xe) := fun pn xe => et pn xe ▸ ha pn xe
  refine ⟨L2N.ps_try_as (i := j) (tb := fun W => tAsg (tCall (spF X.K 1 FG) [] E0 (tCons (tCallS (spE X.K npar FE) (WE W) (tn [] X.xe)) tNil)) (gName i)) (Wout := fun _ _ _ _ => False) hs hfr hN hj hln hc (fun u s' ⟨_, _, _, _, _, _, _, _, _, _, _, _, _, _, _, _, w⟩ => w.elim)
    (fun W pn xe tk _ => pss_one (ps_set (X := X.tr pn xe) hN hi hy (pe_call (X := X.tr pn xe) hG hr2 hg2 hm2 hk2 hb2 .nil pass0 (pa_cons (pe_callS (X := X.tr pn xe) hF hr hg hm hk hb (fun σ => L2N.passAt tk σ) (ha' pn xe).1 hdb he hpl) pa_nil he2) hdb2 he2 hpl2) hsw hf)) (fun a oe cls d pn hz hv => (hsu a oe cls d pn (suFacts hz hv)).1), fun B S H env σ E D s q ek => ?_⟩
  refine (ha' [] X.xe).2 B S H env σ _ _ s q fun vs H1 S1 env1 rs z l len q1 => ?_
  have zs : SR X.K B S1 H1 env1 σ := z.sr
  refine ⟨S1, B.pa, rs, _, _, zs.ex, fun a e => (zs.pool a e).1, l.args q1.1, len.trans hlen, q1.2, fun v H' S' r d w => ?_, fun z2 d v H' S' dr h0 h1 hd r w => ?_⟩
  · cases r with
    | val d0 =>
      have zd := zs.ret d
      show spF X.K 1 FG ([v] ++ []) H' _ E0
      rw [List.append_nil]
      refine ⟨S', B.pa, [.val d0], _, zd.ex, fun a e => (zd.pool a e).1, .val d.ret .nil, rfl, w, fun v2 H2 S2 r2 d2 w2 => ?_⟩
      have z2 := zd.ret d2
      cases r2 with
      | val d3 => exact ek.nx S2 H2 _ _ (z2.storeD d2.ret) w2
      | own l2 =>
        obtain ⟨p, us, rfl, y1, y2, y3, y4⟩ := d2.ret
        have nO : ∀ j m, Has env1 j (.own m) → ¬ Slt σ j (.ref p) := fun j m h1 h2 => by
          obtain ⟨p', ws, k1, k2, k3, k4, _⟩ := zd.own j m h1
          cases Slt.ref k1 h2
          have y2 : H' p = none := y2
          rw [y2] at k4
          cases k4
        have nF : ∀ j m, ¬ Has env1 j (.fix p m) := fun j m h1 => by
          obtain ⟨k1, k2, k3, o, k4, _⟩ := zd.fix j p m h1
          have y2 : H' p = none := y2
          rw [y2] at k4
          cases k4
        exact ek.nx S2 H2 _ _ (z2.store (fun d e => by cases e) (fun l' e => by cases e; exact ⟨p, us, rfl, y1, zd.old0 p y2, y3, y4, fun j m _ h1 h2 => nO j m h1 h2, nF⟩) fun e => by cases e) w2
      | brw i l => exact w2.elim
      | pool => exact w2.elim
    | own l => exact w.elim
    | brw i l => exact w.elim
    | pool => exact w.elim
  · exact caught_ok hsu (zs.ret dr) ek (zs.hp0 h0) h1 hd r w
end
/-! ### name = [.. for .. in .. for .. in ..] on one row -/
section
variable {X : Cx}
theorem ds_setLc2 {i : Nat} {y : Str} {py spos : Pos} {elt tg iter tgb iterb : Expr} {scope : Scope} (own : List (Str × Nat)) (vs1 : List Nat) {pos : Pos} {mi mi1 : DIM} {wi : TI} {wi1 : Shared → Hp → Addr → List (Str × Addr) → List Addr → TI} {g g1 : DGM} {t0 t1 : Shared → Hp → Addr → List (Str × Addr) → List Addr → TG} {m : DM} {te : Shared → Hp → Addr → List (Str × Addr) → List Addr → TE} (hy : X.N[i]? = some y) (hyl : X.env.scope.names.lookup y = some .local)
    (hsw : swapsWith (.ListComp elt [⟨tg, iter, [], 0⟩, ⟨tgb, iterb, [], 0⟩] scope pos) (some (.Name y py)) spos.line X.env = pure true) (hc : X.calm = true) (hN : X.N.Nodup) (hi : DI X tg iter mi wi) (ok : BlkOk X.N X.env.scope scope own) (hv : ∀ i ∈ vs1, i ∈ own.map (·.2))
    (hg : ∀ (s : Shared) (H : Hp) (C : Addr) (cl : List (Str × Addr)) (fp : List Addr), DG (X.blk s H scope (compEnvC scope cl C X.env) fp) tg g (t0 s H C cl fp))
    (hi1 : ∀ (s : Shared) (H : Hp) (C : Addr) (cl : List (Str × Addr)) (fp : List Addr), DI (X.blk s H scope (compEnvC scope cl C X.env) fp) tgb iterb mi1 (wi1 s H C cl fp))
    (hg1 : ∀ (s : Shared) (H : Hp) (C : Addr) (cl : List (Str × Addr)) (fp : List Addr), DG (X.blk s H scope (compEnvC scope cl C X.env) fp) tgb g1 (t1 s H C cl fp))
    (he : ∀ (s : Shared) (H : Hp) (C : Addr) (cl : List (Str × Addr)) (fp : List Addr), DE (X.blk s H scope (compEnvC scope cl C X.env) fp) elt m (te s H C cl fp))
    (i1 : TgIn (t0 X.s_0 X.H_0 0 [] []) (own.map (·.2))) (i2 : GIn g (own.map (·.2))) (j1 : TgIn (t1 X.s_0 X.H_0 0 [] []) vs1) (j2 : GIn g1 vs1)
    (e1 : ∀ s H C cl fp, t0 s H C cl fp = t0 X.s_0 X.H_0 0 [] [] := by intros; rfl) (e2 : ∀ s H C cl fp, wi1 s H C cl fp = wi1 X.s_0 X.H_0 0 [] [] := by intros; rfl) (e3 : ∀ s H C cl fp, t1 s H C cl fp = t1 X.s_0 X.H_0 0 [] [] := by intros; rfl) (e4 : ∀ s H C cl fp, te s H C cl fp = te X.s_0 X.H_0 0 [] [] := by intros; rfl) (hs : ∀ x, foldedSetIterable iter X.env x = pure x := by intro _; rfl) (hs1 : ∀ env x, foldedSetIterable iterb env x = pure x := by intro _ _; rfl) :
    DS X (.Assign [.Name y py] (.ListComp elt [⟨tg, iter, [], 0⟩, ⟨tgb, iterb, [], 0⟩] scope pos) spos) (dSet i (dLc2 mi (own.map (·.2)) vs1 g mi1 g1 m)) (tAsg (tLc2 wi (t0 X.s_0 X.H_0 0 [] []) tYes (wi1 X.s_0 X.H_0 0 [] []) (t1 X.s_0 X.H_0 0 [] []) tYes (te X.s_0 X.H_0 0 [] []) (own.map (·.2)) vs1) (gName i)) := by
  have h := de_lc2 own vs1 (pos := pos) hc hN hi ok hv hg hi1 hg1 he i1 i2 j1 j2 e1 e2 e3 e4 hs hs1
  refine ⟨ps_setLc2 hc hN hy hyl hsw hi.1 ok hv (fun s H C cl fp => e1 s H C cl fp ▸ (hg s H C cl fp).1) (fun _ _ _ _ _ => pts_nil) (fun s H C cl fp => e2 s H C cl fp ▸ (hi1 s H C cl fp).1) (fun s H C cl fp => e3 s H C cl fp ▸ (hg1 s H C cl fp).1) (fun _ _ _ _ _ => pts_nil) (fun s H C cl fp => e4 s H C cl fp ▸ (he s H C cl fp).1) hs hs1, fun B S H env σ E D s q e => h.2 B S H env σ _ _ s q fun v H' S' env' r z q' => ?_⟩
  cases r with
  | val d => exact e.nx S' H' _ _ (z.sr.storeD z.res) q'
  | own l =>
    obtain ⟨p, vs, rfl, z1, z2, z3, z4, z5, z6⟩ := z.res
    exact e.nx S' H' _ _ (z.sr.store (fun d e => by cases e) (fun l' e => by cases e; exact ⟨p, vs, rfl, z1, z2, z5, z6, fun j m _ h1 h2 => z4 (.inr (.inl ⟨j, m, h1, h2⟩)), fun j m h1 => z4 (.inr (.inr ⟨j, m, h1⟩))⟩) fun e => by cases e) q'
  | brw j l =>
    obtain ⟨p, rfl, z1, z2⟩ := z.res
    obtain ⟨p', S2, y1, y2, y3⟩ := z.sr.frz z2
    cases Slt.ref z1 y1
    exact e.nx S2 H' _ _ (y2.sr.storeD y3) q'
  | pool =>
    obtain ⟨a, z1, rfl⟩ := z.res
    exact e.nx S' H' _ _ (z.sr.store (fun d e => by cases e) (fun l' e => by cases e) fun _ => ⟨a, z1, rfl⟩) q'
end
end DL
end

section
set_option Elab.async false
set_option linter.all false
set_option maxRecDepth 100000
set_option maxHeartbeats 4000000
namespace DL
open PySem L2 NS
/-- what data of one kind look like: whole numbers, rows of one kind, tuples place by place -/
inductive Sh where
  | int | row (s : Sh) | tup (l : List Sh)
mutual
def fits : Sh → D → Bool
  | .int, .int _ => true
  | .row s, .tup l => l.all (fits s)
  | .tup ss, .tup l => fitss ss l
  | _, _ => false
def fitss : List Sh → List D → Bool
  | [], [] => true
  | s :: ss, d :: ds => fits s d && fitss ss ds
  | _, _ => false
end
mutual
def Sh.deep : Sh → Nat
  | .int => 0
  | .row s => s.deep + 1
  | .tup l => Sh.deeps l + 1
def Sh.deeps : List Sh → Nat
  | [] => 0
  | s :: ss => max s.deep (Sh.deeps ss)
end
theorem kDs_map : ∀ l : List D, kDs l = l.map kD
  | [] => rfl
  | d :: l => by rw [kDs, kDs_map l]; rfl
theorem fits_int {d : D} (h : fits .int d = true) : ∃ i, d = .int i := by
  cases d <;> first | exact ⟨_, rfl⟩ | (rw [fits] at h <;> first | cases h | exact nofun)
theorem fits_row {s : Sh} {d : D} (h : fits (.row s) d = true) : ∃ l, d = .tup l ∧ ∀ x ∈ l, fits s x = true := by
  cases d <;> first | (rename_i l; exact ⟨l, rfl, fun x hx => List.all_eq_true.mp (by rw [fits] at h; exact h) x hx⟩) | (rw [fits] at h <;> first | cases h | exact nofun)
theorem fits_tup {ss : List Sh} {d : D} (h : fits (.tup ss) d = true) : ∃ l, d = .tup l ∧ fitss ss l = true := by
  cases d <;> first | (rename_i l; exact ⟨l, rfl, by rw [fits] at h; exact h⟩) | (rw [fits] at h <;> first | cases h | exact nofun)
theorem fitss_cons {s : Sh} {ss : List Sh} {l : List D} (h : fitss (s :: ss) l = true) : ∃ d ds, l = d :: ds ∧ fits s d = true ∧ fitss ss ds = true := by
  cases l with
  | nil => rw [fitss] at h <;> first | cases h | exact nofun
  | cons d ds =>
    rw [fitss, Bool.and_eq_true] at h
    exact ⟨d, ds, rfl, h⟩
theorem fitss_nil {l : List D} (h : fitss [] l = true) : l = [] := by
  cases l with
  | nil => rfl
  | cons d ds => rw [fitss] at h <;> first | cases h | exact nofun
section
variable {K : PySem.W.Frag} {S : Hp}
mutual
theorem fits_kv : ∀ (s : Sh) {v : V} {d : D}, fits s d = true → Rep K S v d → KV K S v (kD d)
  | .int, v, d, h, r => by
    obtain ⟨i, rfl⟩ := fits_int h
    cases r
    exact .int i
  | .row s, v, d, h, r => by
    obtain ⟨l, rfl, hl⟩ := fits_row h
    cases r with
    | tup h1 h2 =>
      refine .tup h1 ?_
      have all : ∀ {xs : List V} {l : List D}, (∀ x ∈ l, fits s x = true) → Reps K S xs l → KVs K S xs (kDs l) := by
        intro xs l
        induction l generalizing xs with
        | nil =>
          intro _ r
          cases r
          exact .nil
        | cons d l ih =>
          intro h r
          cases r with
          | cons r1 r2 => exact .cons (fits_kv s (h d List.mem_cons_self) r1) (ih (fun x hx => h x (List.mem_cons_of_mem _ hx)) r2)
      exact all hl h2
  | .tup ss, v, d, h, r => by
    obtain ⟨l, rfl, hl⟩ := fits_tup h
    cases r with
    | tup h1 h2 => exact .tup h1 (fitss_kv ss hl h2)
theorem fitss_kv : ∀ (s : List Sh) {v : List V} {d : List D}, fitss s d = true → Reps K S v d → KVs K S v (kDs d)
  | [], v, d, h, r => by
    rw [fitss_nil h] at r ⊢
    cases r
    exact .nil
  | s :: ss, v, d, h, r => by
    obtain ⟨x, xs, rfl, h1, h2⟩ := fitss_cons h
    cases r with
    | cons r1 r2 => exact .cons (fits_kv s h1 r1) (fitss_kv ss h2 r2)
end
end
mutual
theorem fits_inj : ∀ (s : Sh) {d e : D}, fits s d = true → fits s e = true → kD d = kD e → d = e
  | .int, d, e, h, k, q => by
    obtain ⟨i, rfl⟩ := fits_int h
    obtain ⟨j, rfl⟩ := fits_int k
    injection q with q
    rw [q]
  | .row s, d, e, h, k, q => by
    obtain ⟨l, rfl, hl⟩ := fits_row h
    obtain ⟨m, rfl, kl⟩ := fits_row k
    injection q with q
    have all : ∀ {l m : List D}, (∀ x ∈ l, fits s x = true) → (∀ x ∈ m, fits s x = true) → kDs l = kDs m → l = m := by
      intro l
      induction l with
      | nil =>
        intro m _ _ q
        cases m with
        | nil => rfl
        | cons _ _ => cases q
      | cons d l ih =>
        intro m h k q
        cases m with
        | nil => cases q
        | cons e m =>
          rw [kDs, kDs] at q
          injection q with q1 q2
          rw [fits_inj s (h d List.mem_cons_self) (k e List.mem_cons_self) q1, ih (fun x hx => h x (List.mem_cons_of_mem _ hx)) (fun x hx => k x (List.mem_cons_of_mem _ hx)) q2]
    rw [all hl kl q]
  | .tup ss, d, e, h, k, q => by
    obtain ⟨l, rfl, hl⟩ := fits_tup h
    obtain ⟨m, rfl, kl⟩ := fits_tup k
    injection q with q
    rw [fitss_inj ss hl kl q]
theorem fitss_inj : ∀ (s : List Sh) {d e : List D}, fitss s d = true → fitss s e = true → kDs d = kDs e → d = e
  | [], d, e, h, k, q => by rw [fitss_nil h, fitss_nil k]
  | s :: ss, d, e, h, k, q => by
    obtain ⟨x, xs, rfl, h1, h2⟩ := fitss_cons h
    obtain ⟨y, ys, rfl, k1, k2⟩ := fitss_cons k
    rw [kDs, kDs] at q
    injection q with q1 q2
    rw [fits_inj s h1 k1 q1, fitss_inj ss h2 k2 q2]
end
mutual
theorem fits_alike : ∀ (s : Sh) {d e : D}, fits s d = true → fits s e = true → PySem.W.alike (kD d).data (kD e).data = true
  | .int, d, e, h, k => by
    obtain ⟨i, rfl⟩ := fits_int h
    obtain ⟨j, rfl⟩ := fits_int k
    simp [kD, NestedKey.data, PySem.W.alike]
  | .row s, d, e, h, k => by
    obtain ⟨l, rfl, hl⟩ := fits_row h
    obtain ⟨m, rfl, kl⟩ := fits_row k
    rw [kD, kD, NestedKey.data, NestedKey.data, PySem.W.alike]
    have all : ∀ {l m : List D}, (∀ x ∈ l, fits s x = true) → (∀ x ∈ m, fits s x = true) → PySem.W.alikeAll (NestedKey.datas (kDs l)) (NestedKey.datas (kDs m)) = true := by
      intro l
      induction l with
      | nil =>
        intro m _ _
        rw [kDs, NestedKey.datas, PySem.W.alikeAll]
      | cons d l ih =>
        intro m h k
        cases m with
        | nil => rw [kDs, kDs, NestedKey.datas, NestedKey.datas, PySem.W.alikeAll]
        | cons e m =>
          rw [kDs, kDs, NestedKey.datas, NestedKey.datas, PySem.W.alikeAll, fits_alike s (h d List.mem_cons_self) (k e List.mem_cons_self), ih (fun x hx => h x (List.mem_cons_of_mem _ hx)) fun x hx => k x (List.mem_cons_of_mem _ hx)]
          rfl
    exact all hl kl
  | .tup ss, d, e, h, k => by
    obtain ⟨l, rfl, hl⟩ := fits_tup h
    obtain ⟨m, rfl, kl⟩ := fits_tup k
    rw [kD, kD, NestedKey.data, NestedKey.data, PySem.W.alike]
    exact fitss_alike ss hl kl
theorem fitss_alike : ∀ (s : List Sh) {d e : List D}, fitss s d = true → fitss s e = true → PySem.W.alikeAll (NestedKey.datas (kDs d)) (NestedKey.datas (kDs e)) = true
  | [], d, e, h, k => by
    rw [fitss_nil h, fitss_nil k, kDs, NestedKey.datas, PySem.W.alikeAll]
  | s :: ss, d, e, h, k => by
    obtain ⟨x, xs, rfl, h1, h2⟩ := fitss_cons h
    obtain ⟨y, ys, rfl, k1, k2⟩ := fitss_cons k
    rw [kDs, kDs, NestedKey.datas, NestedKey.datas, PySem.W.alikeAll, fits_alike s h1 k1, fitss_alike ss h2 k2]
    rfl
end
mutual
theorem fits_deep : ∀ (s : Sh) {d : D}, fits s d = true → (kD d).depth ≤ s.deep
  | .int, d, h => by
    obtain ⟨i, rfl⟩ := fits_int h
    rw [kD, NestedKey.depth]
    exact Nat.zero_le _
  | .row s, d, h => by
    obtain ⟨l, rfl, hl⟩ := fits_row h
    rw [kD, NestedKey.depth, Sh.deep]
    refine Nat.succ_le_succ ?_
    have all : ∀ {l : List D}, (∀ x ∈ l, fits s x = true) → NestedKey.depthAll (kDs l) ≤ s.deep := by
      intro l
      induction l with
      | nil =>
        intro _
        rw [kDs, NestedKey.depthAll]
        exact Nat.zero_le _
      | cons d l ih =>
        intro h
        rw [kDs, NestedKey.depthAll]
        exact Nat.max_le.mpr ⟨fits_deep s (h d List.mem_cons_self), ih fun x hx => h x (List.mem_cons_of_mem _ hx)⟩
    exact all hl
  | .tup ss, d, h => by
    obtain ⟨l, rfl, hl⟩ := fits_tup h
    rw [kD, NestedKey.depth, Sh.deep]
    exact Nat.succ_le_succ (fitss_deep ss hl)
theorem fitss_deep : ∀ (s : List Sh) {d : List D}, fitss s d = true → NestedKey.depthAll (kDs d) ≤ Sh.deeps s
  | [], d, h => by
    rw [fitss_nil h, kDs, NestedKey.depthAll]
    exact Nat.zero_le _
  | s :: ss, d, h => by
    obtain ⟨x, xs, rfl, h1, h2⟩ := fitss_cons h
    rw [kDs, NestedKey.depthAll, Sh.deeps]
    have a := fits_deep s h1
    have b := fitss_deep ss h2
    omega
end
/-- data in order -/
def leD (a b : D) : Bool := !PySem.W.dataLt (kD b).data (kD a).data
def SortedOf (ds l : List D) : Prop := l.Nodup ∧ (∀ d, d ∈ l ↔ d ∈ ds) ∧ l.Pairwise fun a b => leD a b = true
end DL
end

section
set_option Elab.async false
set_option linter.all false
set_option maxRecDepth 100000
set_option maxHeartbeats 4000000
namespace DL
open PySem L2 NS
open Evl (Ex)
/-- the value is of the kind -/
def dFit (s : Sh) (m : DM) : DM := fun env Q => m env fun env' r => fits s r.data = true ∧ Q env' r
/-- sorted({m for g in mi}), tuples of one kind -/
def dSortSc (s : List Sh) (mi : DIM) (vs : List Nat) (g : DGM) (m : DM) : DM := fun env Q => mi env fun env1 ds => plainAt env1 vs = true ∧ ds.length < 64 ∧ dLcL vs g dYes (dFit (.tup s) m) ds (wipeD env1 vs) [] fun env2 acc => ∀ l, SortedOf acc l → Q (backD env1 env2 vs) (.own l)
/-- the set's elements are the data so far -/
structure Lnk (K : PySem.W.Frag) (S : Hp) (s : Sh) (acc : List D) (L : NL) : Prop where
  src : ∀ p ∈ L, ∃ d ∈ acc, kD d = p.2 ∧ Rep K S (.ref p.1) d
  all : ∀ d ∈ acc, kD d ∈ keysOf L
  fit : ∀ d ∈ acc, fits s d = true
  few : L.length ≤ acc.length
theorem Lnk.nil {K : PySem.W.Frag} {S : Hp} {s : Sh} : Lnk K S s [] [] := ⟨fun _ h => (by cases h), fun _ h => (by cases h), fun _ h => (by cases h), Nat.le_refl _⟩
theorem Lnk.mono {K : PySem.W.Frag} {S S' : Hp} {s : Sh} {acc : List D} {L : NL} (h : Lnk K S s acc L) (e : Ex S S') : Lnk K S' s acc L := ⟨fun p hp => let ⟨d, h1, h2, h3⟩ := h.src p hp; ⟨d, h1, h2, h3.mono e⟩, h.all, h.fit, h.few⟩
theorem Lnk.add {K : PySem.W.Frag} {S : Hp} {s : Sh} {acc : List D} {L L' : NL} {b : Addr} {d : D} (h : Lnk K S s acc L) (f : fits s d = true) (r : Rep K S (.ref b) d) (c1 : kD d ∈ keysOf L → L' = L) (c2 : kD d ∉ keysOf L → L'.Perm ((b, kD d) :: L)) : Lnk K S s (acc ++ [d]) L' := by
  have old : ∀ p ∈ L, ∃ e ∈ acc ++ [d], kD e = p.2 ∧ Rep K S (.ref p.1) e := fun p hp => let ⟨e, h1, h2, h3⟩ := h.src p hp; ⟨e, List.mem_append_left _ h1, h2, h3⟩
  have fit : ∀ e ∈ acc ++ [d], fits s e = true := fun e he => by
    rcases List.mem_append.mp he with z | z
    · exact h.fit e z
    · rw [List.mem_singleton.mp z]
      exact f
  have l1 : (acc ++ [d]).length = acc.length + 1 := by rw [List.length_append]; rfl
  by_cases c : kD d ∈ keysOf L
  · rw [c1 c]
    refine ⟨old, fun e he => ?_, fit, by rw [l1]; exact Nat.le_succ_of_le h.few⟩
    rcases List.mem_append.mp he with z | z
    · exact h.all e z
    · rw [List.mem_singleton.mp z]
      exact c
  · have p := c2 c
    have keys : ∀ k, k ∈ keysOf L' ↔ k = kD d ∨ k ∈ keysOf L := fun k => by
      rw [keysOf, (p.map (·.2)).mem_iff, List.map_cons, List.mem_cons]
      rfl
    refine ⟨fun q hq => ?_, fun e he => (keys _).mpr ?_, fit, by rw [l1, p.length_eq]; exact Nat.succ_le_succ h.few⟩
    · rcases List.mem_cons.mp (p.mem_iff.mp hq) with z | z
      · subst z
        exact ⟨d, List.mem_append_right _ List.mem_cons_self, rfl, r⟩
      · exact old q z
    · rcases List.mem_append.mp he with z | z
      · exact .inr (h.all e z)
      · rw [List.mem_singleton.mp z]
        exact .inl rfl
theorem Lnk.kv {K : PySem.W.Frag} {S H : Hp} {s : Sh} {acc : List D} {L : NL} (h : Lnk K S s acc L) (e : Ex S H) (low : s.deep ≤ 8) : ∀ p ∈ L, KV K H (.ref p.1) p.2 ∧ p.2.depth ≤ 8 := fun p hp => by
  obtain ⟨d, h1, h2, h3⟩ := h.src p hp
  rw [← h2]
  exact ⟨(fits_kv s (h.fit d h1) h3).mono e, Nat.le_trans (fits_deep s (h.fit d h1)) low⟩
theorem Lnk.alike {K : PySem.W.Frag} {S : Hp} {s : Sh} {acc : List D} {L : NL} (h : Lnk K S s acc L) : ∀ p ∈ L, ∀ q ∈ L, PySem.W.alike (NS.enc p) (NS.enc q) = true := fun p hp q hq => by
  obtain ⟨d, h1, h2, _⟩ := h.src p hp
  obtain ⟨e, k1, k2, _⟩ := h.src q hq
  rw [NS.enc, NS.enc, ← h2, ← k2]
  exact fits_alike s (h.fit d h1) (h.fit e k1)
theorem Lnk.full {K : PySem.W.Frag} {S : Hp} {s1 : Sh} {ss : List Sh} {acc : List D} {L : NL} (h : Lnk K S (.tup (s1 :: ss)) acc L) : ∀ p ∈ L, ∃ x r, NS.enc p = .tuple (x :: r) := fun p hp => by
  obtain ⟨d, h1, h2, _⟩ := h.src p hp
  obtain ⟨l, rfl, hl⟩ := fits_tup (h.fit d h1)
  obtain ⟨x, xs, rfl, _⟩ := fitss_cons hl
  rw [NS.enc, ← h2, kD, NestedKey.data, kDs, NestedKey.datas]
  exact ⟨_, _, rfl⟩
theorem Lnk.reps {K : PySem.W.Frag} {S : Hp} {s : Sh} {acc : List D} {L : NL} (h : Lnk K S s acc L) : ∀ M : NL, (∀ p ∈ M, p ∈ L) → ∃ l : List D, Reps K S (M.map fun p => V.ref p.1) l ∧ l.map kD = keysOf M ∧ ∀ d ∈ l, d ∈ acc
  | [], _ => ⟨[], .nil, rfl, fun _ h => nomatch h⟩
  | p :: M, hM => by
    obtain ⟨d, h1, h2, h3⟩ := h.src p (hM p List.mem_cons_self)
    obtain ⟨l, k1, k2, k3⟩ := Lnk.reps h M fun q hq => hM q (List.mem_cons_of_mem _ hq)
    refine ⟨d :: l, .cons h3 k1, by rw [List.map_cons, k2, h2]; rfl, fun e he => ?_⟩
    rcases List.mem_cons.mp he with z | z
    · rw [z]
      exact h1
    · exact k3 e z
/-- the sorted elements, as data -/
theorem Lnk.sorted {K : PySem.W.Frag} {S : Hp} {s : Sh} {acc : List D} {L L' : NL} (h : Lnk K S s acc L) (p : L'.Perm L) (nd : (keysOf L').Nodup) (pw : L'.Pairwise (fun q r => PySem.W.dataLe false NS.enc q r = true)) : ∃ l, Reps K S (L'.map fun p => V.ref p.1) l ∧ SortedOf acc l := by
  obtain ⟨l, h1, h2, h3⟩ := h.reps L' fun q hq => p.mem_iff.mp hq
  refine ⟨l, h1, ?_, fun d => ⟨h3 d, fun hd => ?_⟩, ?_⟩
  · rw [← h2] at nd
    exact L2.nodup_of_map nd
  · have k : kD d ∈ l.map kD := by
      rw [h2, keysOf, (p.map (·.2)).mem_iff]
      exact h.all d hd
    obtain ⟨e, he, q⟩ := List.mem_map.mp k
    rw [← fits_inj s (h.fit e (h3 e he)) (h.fit d hd) q]
    exact he
  · have q : (l.map kD).Pairwise fun a b => (!PySem.W.dataLt b.data a.data) = true := by
      rw [h2]
      exact List.pairwise_map.mpr pw
    exact List.pairwise_map.mp q
section
variable {X : Cx}
structure ScI (K : PySem.W.Frag) (w : World) (sh : Sh) (B : Bs) (S1 H1 : Hp) (env1 : En) (σ : St) (vs : List Nat) (D : Addr) (S H : Hp) (env : En) (acc : List DL.D) : Prop where
  sr : SR K ⟨S1, B.H0, B.pa⟩ S H env (wipe σ vs)
  go : Go (Ow B env1 σ) S1 H1 S H
  fz : Fz vs env1 env
  wp : ∀ i n, Has env i n → i ∉ vs
  dn : S D = none
  dh : ∃ L, H D = some (SO w D L) ∧ Lnk K S sh acc L
theorem wipe_wipe {σ : St} {vs : List Nat} : ∀ us : List Nat, (∀ i ∈ us, i ∈ vs) → wipe (wipe σ vs) us = wipe σ vs
  | [], _ => rfl
  | u :: us, h => by
    show (wipe (wipe σ vs) us).set u none = wipe σ vs
    rw [wipe_wipe us fun i hi => h i (List.mem_cons_of_mem _ hi)]
    refine List.ext_getElem? fun j => ?_
    by_cases cj : j = u
    · subst cj
      by_cases cl : j < (wipe σ vs).length
      · rw [List.getElem?_set_self cl, List.getElem?_eq_getElem cl]
        cases q : (wipe σ vs)[j] with
        | none => rfl
        | some v => exact absurd (h j List.mem_cons_self) (wipe_some (show (wipe σ vs)[j]? = some (some v) by rw [List.getElem?_eq_getElem cl, q])).2
      · rw [List.getElem?_eq_none (by rw [List.length_set]; omega), List.getElem?_eq_none (by omega)]
    · rw [List.getElem?_set_ne (Ne.symm cj)]
theorem de_sortSc {elt tg iter : Expr} {scope : Scope} (s1 : Sh) (ss : List Sh) (own : List (Str × Nat)) {pos pos2 p2 : Pos} {mi : DIM} {wi : TI} {g : DGM} {tg1 : Shared → Hp → Addr → List (Str × Addr) → List Addr → TG} {m : DM} {te : Shared → Hp → Addr → List (Str × Addr) → List Addr → TE} (hu : X.A.units + 64 < cLine)
    (hgs : Gl X "sorted") (hms : X.mg "sorted" = none) (hvs : bootBuiltins "sorted" = some (.builtin "sorted")) (hc : X.calm = true) (hN : X.N.Nodup) (hi : DI X tg iter mi wi) (ok : BlkOk X.N X.env.scope scope own)
    (hg : ∀ (s : Shared) (H : Hp) (C : Addr) (cl : List (Str × Addr)) (fp : List Addr), DG (X.blk s H scope (compEnvC scope cl C X.env) fp) tg g (tg1 s H C cl fp))
    (he : ∀ (s : Shared) (H : Hp) (C : Addr) (cl : List (Str × Addr)) (fp : List Addr), DE (X.blk s H scope (compEnvC scope cl C X.env) fp) elt m (te s H C cl fp)) (i1 : TgIn (tg1 X.s_0 X.H_0 0 [] []) (own.map (·.2))) (i2 : GIn g (own.map (·.2))) (low : (Sh.tup (s1 :: ss)).deep ≤ 8 := by decide)
    (e1 : ∀ s H C cl fp, tg1 s H C cl fp = tg1 X.s_0 X.H_0 0 [] [] := by intros; rfl) (e3 : ∀ s H C cl fp, te s H C cl fp = te X.s_0 X.H_0 0 [] [] := by intros; rfl) (hs : ∀ x, foldedSetIterable iter X.env x = pure x := by intro _; rfl)
    (hst : starEach [.SetComp elt [⟨tg, iter, [], 0⟩] scope pos2] X.env = (false, eval (.SetComp elt [⟨tg, iter, [], 0⟩] scope pos2) X.env) :: starEach [] X.env := by rfl) (hpl : (backTo pos (starEach [] X.env)).any (·.1) = false := by rfl) :
    DE X (.Call (.Name "sorted" p2) [.SetComp elt [⟨tg, iter, [], 0⟩] scope pos2] [] pos) (dSortSc (s1 :: ss) mi (own.map (·.2)) g m) (tCB (rSortS X.K X.w) (tCons (tScN X.w X.K wi (tg1 X.s_0 X.H_0 0 [] []) (te X.s_0 X.H_0 0 [] []) (own.map (·.2))) tNil)) := by
  have hg : ∀ (s : Shared) (H : Hp) (C : Addr) (cl : List (Str × Addr)) (fp : List Addr), DG (X.blk s H scope (compEnvC scope cl C X.env) fp) tg g (tg1 X.s_0 X.H_0 0 [] []) := fun s H C cl fp => e1 s H C cl fp ▸ hg s H C cl fp
  have he : ∀ (s : Shared) (H : Hp) (C : Addr) (cl : List (Str × Addr)) (fp : List Addr), DE (X.blk s H scope (compEnvC scope cl C X.env) fp) elt m (te X.s_0 X.H_0 0 [] []) := fun s H C cl fp => e3 s H C cl fp ▸ he s H C cl fp
  clear e1 e3
  generalize tg1 X.s_0 X.H_0 0 [] [] = tg1 at *
  generalize te X.s_0 X.H_0 0 [] [] = te at *
  have g2 := (hg X.s_0 X.H_0 0 [] []).2
  have e2 := (he X.s_0 X.H_0 0 [] []).2
  refine ⟨pe_callB (cr_sortS hc hu) hgs hms hvs (pa_cons (pe_scN hu hc hN hi.1 ok (fun c => (hg c.s c.H c.C c.cl c.fp).1) (fun c => (he c.s c.H c.C c.cl c.fp).1) hs) pa_nil hst) (by decide) (by decide) hst hpl, ?_⟩
  clear hg he
  generalize own.map (·.2) = vs at *
  intro B S H env σ Q Qv s q k
  refine hi.2 B S H env σ _ _ s q fun J H1 S1 env1 ds z it q1 => ?_
  obtain ⟨pl, many, q1⟩ := q1
  have r1 := z.sr
  intro D hD
  have hD0 := r1.hp0 hD
  have hDn := r1.now hD
  have hDs := r1.sp0 hD
  have sub : ∀ {S' H' : Hp} {env' : En} {acc : List DL.D}, ScI X.K X.w (.tup (s1 :: ss)) B S1 H1 env1 σ vs D S' H' env' acc → ∀ a, Ow ⟨S1, B.H0, B.pa⟩ env' (wipe σ vs) a → Ow B env1 σ a := fun {S' H' env' acc} I a h => by
    rcases h with h | ⟨i, l, h1, h2⟩ | ⟨i, l, h1⟩
    · exact .inl h
    · rcases I.fz.2 i (I.wp i _ h1) with e | ⟨l', e1, e2⟩
      · exact .inr (.inl ⟨i, l, e.symm.trans h1, (wipe_some h2).1⟩)
      · exact nomatch Has.inj h1 e2
    · rcases I.fz.2 i (I.wp i _ h1) with e | ⟨l', e1, e2⟩
      · exact .inr (.inr ⟨i, l, e.symm.trans h1⟩)
      · exact nomatch Has.inj h1 e2
  refine ⟨fun i m' H' => m' = ds.length - i ∧ i ≤ ds.length ∧ ∃ S' env' acc, ScI X.K X.w (.tup (s1 :: ss)) B S1 H1 env1 σ vs D S' H' env' acc ∧ acc.length = i ∧ dLcL vs g dYes (dFit (.tup (s1 :: ss)) m) (ds.drop i) env' acc fun env2 acc => ∀ l, SortedOf acc l → Q (backD env1 env2 vs) (.own l),
    ⟨_, rfl, Nat.zero_le _, S1, wipeD env1 vs, [], ⟨(r1.base.stray hDs hD0 hDn).wipe vs, Go.stray .refl hD, ⟨wipeD_length vs, fun i hi => .inl (wipeD_out hi)⟩, fun i n h => (wipeD_has h).2, hDs, [], upd_same, .nil⟩, rfl, q1⟩, ?_⟩
  rintro i m' H' ⟨rfl, hil, S', env', acc, I, len, l⟩
  have ex1 : Ex S1 S' := I.sr.ex0
  by_cases c : i < ds.length
  · refine .inr ⟨it.go i c S' H' ex1 I.sr.ex, fun H2 => ∃ S2 env2 acc2, ScI X.K X.w (.tup (s1 :: ss)) B S1 H1 env1 σ vs D S2 H2 env2 acc2 ∧ acc2.length = i + 1 ∧ dLcL vs g dYes (dFit (.tup (s1 :: ss)) m) (ds.drop (i + 1)) env2 acc2 fun env2 acc => ∀ l, SortedOf acc l → Q (backD env1 env2 vs) (.own l),
      fun H2 ⟨S2, env2, acc2, a1, a2, a3⟩ => ⟨_, by omega, rfl, c, S2, env2, acc2, a1, a2, a3⟩, fun x H2 y => ?_⟩
    have hd : ds[i]? = some ds[i] := List.getElem?_eq_getElem c
    obtain ⟨S2, n2, r2⟩ := it.yld i _ hd S' H' x H2 ex1 I.sr.ex y
    rw [List.drop_eq_getElem_cons c] at l
    let nxt : En → Prop := dLcT dYes (dFit (.tup (s1 :: ss)) m) (fun env acc => dLcL vs g dYes (dFit (.tup (s1 :: ss)) m) (ds.drop (i + 1)) (wipeD env vs) acc fun env2 acc => ∀ l, SortedOf acc l → Q (backD env1 env2 vs) (.own l)) acc
    refine i1 _ _ _ _ _ (fun σ3 H3 w3 h3 => ?_) (g2 ⟨S1, B.H0, B.pa⟩ S2 H2 env' (wipe σ vs) x _ _ (fun σ3 H3 => H3 = H2 ∧ ∃ env3, SR X.K ⟨S1, B.H0, B.pa⟩ S2 H2 env3 σ3 ∧ GFact vs env' env3 ∧ nxt env3) (I.sr.nw n2) r2 (i2 _ _ _ (fun env3 => GFact vs env' env3 ∧ nxt env3) (fun _ f q => ⟨f, q⟩) l) fun env3 σ3 s3 q3 => ⟨rfl, env3, s3, q3.1, q3.2⟩)
    obtain ⟨rfl, env3, s3, ⟨f1, f2, f3, f4⟩, q3⟩ := h3
    have w3 : wipe σ3 vs = wipe σ vs := w3.trans (wipe_wipe vs fun _ h => h)
    have sub3 : ∀ a, Ow ⟨S1, B.H0, B.pa⟩ env3 σ3 a → Ow B env1 σ a := fun a h => by
      rcases h with h | ⟨j, l', h1, h2⟩ | ⟨j, l', h1⟩
      · exact .inl h
      · have h1' := f3 j l' h1
        refine sub I a (.inr (.inl ⟨j, l', h1', ?_⟩))
        show (wipe σ vs)[j]? = _
        rw [← w3, wipe_out (I.wp j _ h1')]
        exact h2
      · exact sub I a (.inr (.inr ⟨j, l', f4 j a l' h1⟩))
    have go3 : Go (Ow B env1 σ) S1 H1 S2 H3 := I.go.trans (A' := fun _ => False) n2.go fun _ _ _ _ h => h
    obtain ⟨L, hL, lk⟩ := I.dh
    have hL3 := n2.keep _ _ hL
    have dn3 : S2 D = none := n2.nw _ _ hL I.dn
    have fz3 : Fz vs env1 env3 := ⟨f1.trans I.fz.1, fun i hi => by
      rcases I.fz.2 i hi with e | ⟨l, e1, e2⟩
      · exact .inl ((f2 i hi).trans e)
      · exact .inr ⟨l, e1, (f2 i hi).trans e2⟩⟩
    have nd3 : ¬ Ow ⟨S1, B.H0, B.pa⟩ env3 σ3 D := fun h => hDn (sub3 D h)
    refine ⟨w3, ?_⟩
    have q3 : dKeep (dFit (.tup (s1 :: ss)) m) env3 _ := dIte_t q3
    refine e2 ⟨S1, B.H0, B.pa⟩ S2 H3 env3 σ3 _ _ s3 q3 fun v H5 S5 env5 r z5 q5 => ?_
    obtain ⟨ft, q5⟩ := q5
    cases r with
    | val d5 =>
      have ft : fits (.tup (s1 :: ss)) d5 = true := ft
      have hL5 := z5.go.keep _ _ hL3 nd3
      have dn5 := z5.go.nw _ _ hL3 nd3 dn3
      have lk5 : Lnk X.K S5 (.tup (s1 :: ss)) acc L := (lk.mono n2.ex).mono z5.go.ex
      have rd : Rep X.K S5 v d5 := z5.res
      have isref : ∃ b, v = V.ref b := by
        obtain ⟨l0, rfl, _⟩ := fits_tup ft
        cases rd
        exact ⟨_, rfl⟩
      obtain ⟨b, rfl⟩ := isref
      refine ⟨b, kD d5, L, rfl, hL5, lk5.kv z5.sr.ex low, (fits_kv _ ft rd).mono z5.sr.ex, Nat.le_trans (fits_deep _ ft) low, by have := lk.few; omega, fun L' c1 c2 => ⟨S5, wipeD env5 vs, acc ++ [d5], ⟨?_, ?_, (fz3.trans z5.fz).wipe, fun i n h => (wipeD_has h).2, dn5, L', upd_same, lk5.add ft rd c1 c2⟩, by rw [List.length_append, len]; rfl, q5.2⟩⟩
      · have := (z5.sr.stray (p := D) (o := SO X.w D L') dn5 hD0 fun h => nd3 (Ow.frz z5.fz h)).wipe vs
        rw [w3] at this
        exact this
      · exact (go3.trans z5.go fun x o _ n w => n (sub3 x w)).stray hD
    | own l => cases ft
    | brw i l => cases ft
    | pool => cases ft
  · have hi' : i = ds.length := by omega
    subst hi'
    rw [List.drop_length] at l
    refine .inl ⟨it.stop S' H' ex1 I.sr.ex, ?_⟩
    obtain ⟨L, hL, lk⟩ := I.dh
    refine ⟨D, L, rfl, hL, lk.kv I.sr.ex low, lk.alike, lk.full, fun L' p pm nd few pw hp => ?_⟩
    obtain ⟨l0, h1, h2⟩ := lk.sorted pm nd pw
    have sf := (r1.unbase I.sr).more (σ' := σ) (wipe_length σ vs).symm (fun i v h => (wipe_some h).1)
    have sb : SR X.K B S' H' (backD env1 env' vs) σ := SR.back r1 sf ex1 I.fz.1 vs pl
    have e : EPo X.K B S H env σ S' H' (backD env1 env' vs) (.val .non) .non := ⟨sb, z.go.trans I.go fun x o _ n w => n (Ow.frz z.fz w), z.fz.trans I.fz.back, .non⟩
    have n := nwr_lst (K := X.K) I.sr.ex hp h1
    exact k _ _ S' _ (.own l0) (.fin e.t n) (l l0 h2)
end
end DL
end

section
set_option Elab.async false
set_option linter.all false
set_option maxRecDepth 100000
set_option maxHeartbeats 6400000
namespace NS
open PySem PySem.Spec PyProof.Rows L2
abbrev freshSet (w : World) : Obj := { cls := .type "set", dict := none, data := .set #[] 0 (.fresh 0 0 (!w.params.followText "set-order")) }
/-- one item more goes into the set at S -/
def AddStep (P : Program) (w : World) (h0 : Heap) (top : Nat) (S : Addr) (G : Nat → Heap → Prop) (i : Nat) (v : Value) : Prop := ∀ (A : Around) (E : Value → Shared → Prop) (s : Shared) (Q : Bool → Shared → Prop), A.units ≤ top → G i s.heap → (∀ b o, h0.get? b = some o → s.heap.get? b = some o) →
  (∀ b g n, Heap.SameBut S s.heap g → G (i + 1) g → s.toks ≤ n → Q b { s with heap := g, toks := n }) → wpAny (model P w) A (setAdd S v) Q E s
section
variable {P : Program} {w : World} {A : Around} {E : Value → Shared → Prop} {s : Shared}
theorem fill_up {I : Addr} {fp wr : List Addr} {Gs : Array GenState → Array GenState → Prop} {n : Nat} {Pv : Nat → Value → Prop} {St : Nat → Shared → Prop} {R : Result → Shared → Prop} (W : WalksS P w A.in1 I fp wr Gs n Pv St) (S : Addr) (out : S ∉ fp) (h0 : Heap) (hS : h0.get? S = none) (hw : ∀ b ∈ wr, h0.get? b = none)
    (G : Nat → Heap → Prop) (keep : ∀ i h h', G i h → (∀ o, h.get? S = some o → h'.get? S = some o) → G i h') (step : ∀ i v, i < n → Pv i v → AddStep P w h0 A.in1.units S G i v) (left : Nat) :
    ∀ (i : Nat) (s : Shared), n - i = left → i ≤ n → St i s → (∀ b o, h0.get? b = some o → s.heap.get? b = some o) → G i s.heap → (∀ s', Moved (S :: wr) Gs s s' → G n s'.heap → (∀ b o, h0.get? b = some o → s'.heap.get? b = some o) → R (.ok (.ret .none)) s') →
      codeAny (model P w) A (.builtin "set.update.loop" ⟨[.ref S, .ref I], []⟩) R s := by
  have nin : S ∉ wr := fun z => out (W.sub _ z)
  have later : ∀ {s s' : Shared}, Moved wr Gs s s' → (∀ b o, h0.get? b = some o → s.heap.get? b = some o) → ∀ b o, h0.get? b = some o → s'.heap.get? b = some o := fun m k b o e => m.heap b o (fun z => by rw [hw b z] at e; cases e) (k b o e)
  have more : ∀ {s s' : Shared}, Moved wr Gs s s' → Moved (S :: wr) Gs s s' := fun m => m.mono fun b hb => List.mem_cons_of_mem _ hb
  induction left with
  | zero =>
    intro i s e hi st old g done
    have last : i = n := by omega
    subst last
    refine codeAny_builtin F.entry_set_update_loop ?_
    rw [Around.under_plainId F.plain_set_update_loop _]
    show wpAny _ A.in1 (pyNext (.ref I) >>= _) _ _ s
    exact wpAny_bind (W.done s _ _ st fun s' m => wpAny_pure (done s' (more m) (keep _ _ _ g fun o e => m.heap S o nin e) (later m old)))
  | succ left ih =>
    intro i s e hi st old g done
    have lt : i < n := by omega
    refine codeAny_builtin F.entry_set_update_loop ?_
    rw [Around.under_plainId F.plain_set_update_loop _]
    show wpAny _ A.in1 (pyNext (.ref I) >>= _) _ _ s
    refine wpAny_bind (W.item i s _ _ lt st fun v s1 hv st1 m1 => ?_)
    show wpAny _ A.in1 (holding [v] (setAdd S v) >>= _) _ _ s1
    refine wpAny_bind (wpAny_holding (step i v lt hv A.in1 _ s1 _ (Nat.le_refl _) (keep _ _ _ g fun o e => m1.heap S o nin e) (later m1 old) fun b h2 n2 only g2 tk => ?_))
    have old2 : ∀ b o, h0.get? b = some o → h2.get? b = some o := fun b o e => (only.2 b (fun z => by rw [z, hS] at e; cases e)).trans (later m1 old b o e)
    refine wpAny_pure ⟨plainId_quiet F.plain_set_update_loop _, ih (i + 1) _ (by omega) lt (W.frame _ s1 _ _ st1 tk fun b hb o e => (only.2 b fun z => out (z ▸ hb)).trans e) old2 g2 fun s3 m3 g3 old3 => done s3 ?_ g3 old3⟩
    exact Moved.trans W.gtrans ((more m1).then_heap tk fun b o hb e => (only.2 b fun z => hb (by rw [z]; exact List.mem_cons_self)).trans e) m3
/-- set(xs), xs a list -/
theorem set_of_list {l : Addr} {items : Array Value} {Q : Value → Shared → Prop} (hh : A.handled = none) (hl : s.heap.IsList l items) (G : Nat → Heap → Prop) (new : ∀ h, h.get? s.heap.objs.size = some (freshSet w) → G 0 h)
    (keep : ∀ i h h', G i h → (∀ o, h.get? s.heap.objs.size = some o → h'.get? s.heap.objs.size = some o) → G i h') (step : ∀ i v, items[i]? = some v → AddStep P w s.heap (A.units + 9) s.heap.objs.size G i v)
    (h : ∀ (g : Heap) (n : Nat), G items.size g → (∀ b o, s.heap.get? b = some o → g.get? b = some o) → Q (.ref s.heap.objs.size) { s with heap := g, toks := n }) : wpAny (model P w) A (call (.type "set") [.ref l]) Q E s := by
  obtain ⟨S, eS⟩ : ∃ S, S = s.heap.objs.size := ⟨_, rfl⟩
  rw [← eS] at new keep step h
  obtain ⟨s1, e1⟩ : ∃ s1 : Shared, s1 = { s with heap := s.heap.push (freshSet w) } := ⟨_, rfl⟩
  have at1 : s1.heap.get? S = some (freshSet w) := by
    rw [e1, eS]
    exact Heap.get?_push_size _ rfl
  have old1 : ∀ b o, s.heap.get? b = some o → s1.heap.get? b = some o := fun b o e => by
    rw [e1]
    exact Heap.get?_push_of_some _ e
  have ty1 : s1.TypeIs (.ref S) "set" := ⟨_, at1, rfl⟩
  obtain ⟨ol, hol, hcl, nl, hdl⟩ := hl
  have lS : l < S := by
    rw [eS]
    exact Heap.lt_size hol
  have sz1 : s1.heap.objs.size = S + 1 := by
    rw [e1, eS]
    exact Heap.size_push ..
  have gone : ∀ b, S ≤ b → s.heap.get? b = none := fun b hb => by
    cases q : s.heap.get? b with
    | none => rfl
    | some o => exact absurd (Heap.lt_size q) (by rw [← eS]; exact Nat.not_lt_of_le hb)
  have il1 : s1.heap.IsList l items := ⟨ol, old1 l ol hol, hcl, nl, hdl⟩
  -- the way in
  obtain ⟨c, tl, hmro⟩ := F.called_set.mro
  have a1 := F.called_set.made
  have a2 := F.called_set.sub
  have a3 := F.called_set.notType
  have a4 := F.called_set.canCreate
  have a5 := F.typeCall_set_1 (.ref l)
  have a6 := F.called_set.init.lookup
  have a7 := F.called_set.init.bind (.ref S)
  refine wpAny_call (codeAny_of_tree (show wpAny _ _ (callAny (.type "set") _) _ _ _ from wpAny_pure ⟨Code.quiet_builtin _ (by decide +kernel), codeAny_builtin F.entry_type_call ?_⟩))
  rw [Around.under_plain (weight_type_call_type "set" [.ref l] []) rfl]
  repeat (any_goals (first | assumption | wp_step))
  refine codeAny_mono (code_set_led1 (.ref l) (E := E) (Q₁ := fun u t => u = .ref S ∧ t = s1) ⟨by rw [eS], by rw [e1]⟩) fun r t hr => ?_
  match r, hr with
  | .ok (.ret u), hr =>
    obtain ⟨rfl, rfl⟩ := hr
    repeat (any_goals (first | assumption | wp_step))
    refine codeAny_mono (codeAny_call_builtin (R := wants (fun r t2 => r = .none ∧ ∃ g n, t2 = { s with heap := g, toks := n } ∧ G items.size g ∧ ∀ b o, s.heap.get? b = some o → g.get? b = some o) E) F.called_set.init.plain F.entry_set_init (check_set_init_1 ty1 ?_)) fun r2 t2 hr2 => ?_
    · obtain ⟨ocls, odict, odata, oslots⟩ := ol
      simp only at hcl hdl
      subst hcl
      subst hdl
      have hol1 := old1 l _ hol
      have b1 := F.sub_list_set
      have b2 := F.sub_list_frozenset
      have b3 : (Value.type "list" == Value.type "dict") = false := by decide
      unfold Builtin.«set.__init__» noKeywords Builtin.Frozenset.updateFrom
      generalize eI : pyIter = toIter
      wp_walk
      subst eI
      refine wpAny_pyIter_list il1 (wpAny_bind (wpAny_runValue ?_))
      have calm3 : A.in1.in1.in1.handled = none := by simp [hh]
      have lI : l ≠ t.heap.objs.size := Nat.ne_of_lt (by rw [sz1]; exact Nat.lt_succ_of_lt lS)
      refine fill_up (h0 := s.heap) (S := S) ((Walks.list calm3 _ l lI items).toS) (by simp only [List.mem_cons, List.not_mem_nil, or_false, not_or]; exact ⟨Nat.ne_of_lt (by rw [sz1]; exact Nat.lt_succ_self _), Nat.ne_of_gt lS⟩) (gone S (Nat.le_refl _)) (fun b hb => gone b (by have e := List.mem_singleton.mp hb; rw [e, sz1]; exact Nat.le_succ _)) G keep
        (fun i v _ hv A' E' s' Q' hA => step i v hv A' E' s' Q' (Nat.le_trans hA ?top)) (items.size - 0) 0 _ rfl (Nat.zero_le _) ⟨⟨_, Heap.get?_push_size _ rfl, rfl, rfl⟩, il1.push _⟩ (fun b o e => Heap.get?_push_of_some _ (old1 b o e)) (new _ (show (t.heap.push _).get? S = _ from Heap.get?_push_of_some _ at1)) fun s3 m3 g3 old3 => ?_
      case top =>
        simp only [Around.in1_units]
        omega
      · obtain ⟨g, gens, d, n, os⟩ := s3
        have q1 : gens = t.gens := m3.gens
        have q2 : d = t.drawn := m3.drawn
        have q3 : os = t.os := m3.os
        subst q1
        subst q2
        subst q3
        refine wpAny_pure (wpAny_pure ⟨rfl, g, n, ?_, g3, old3⟩)
        rw [e1]
    · match r2, hr2 with
      | .ok (.ret r), hr2 =>
        obtain ⟨rfl, g, n, rfl, k1, k2⟩ := hr2
        repeat (any_goals (first | assumption | wp_step))
        exact h g n k1 k2
      | .error e, hr2 => exact hr2
  | .error e, hr => exact hr
end
end NS
end

section
set_option Elab.async false
set_option linter.all false
set_option maxRecDepth 100000
set_option maxHeartbeats 6400000
namespace NS
open PySem PySem.Spec PyProof.Rows L2
section
variable {P : Program} {w : World} {A : Around} {E : Value → Shared → Prop} {s : Shared}
/-- set(xs), xs a tuple -/
theorem set_of_tuple {l : Addr} {items : Array Value} {Q : Value → Shared → Prop} (hh : A.handled = none) (hl : s.heap.IsTuple l items) (G : Nat → Heap → Prop) (new : ∀ h, h.get? s.heap.objs.size = some (freshSet w) → G 0 h)
    (keep : ∀ i h h', G i h → (∀ o, h.get? s.heap.objs.size = some o → h'.get? s.heap.objs.size = some o) → G i h') (step : ∀ i v, items[i]? = some v → AddStep P w s.heap (A.units + 9) s.heap.objs.size G i v)
    (h : ∀ (g : Heap) (n : Nat), G items.size g → (∀ b o, s.heap.get? b = some o → g.get? b = some o) → Q (.ref s.heap.objs.size) { s with heap := g, toks := n }) : wpAny (model P w) A (call (.type "set") [.ref l]) Q E s := by
  obtain ⟨S, eS⟩ : ∃ S, S = s.heap.objs.size := ⟨_, rfl⟩
  rw [← eS] at new keep step h
  obtain ⟨s1, e1⟩ : ∃ s1 : Shared, s1 = { s with heap := s.heap.push (freshSet w) } := ⟨_, rfl⟩
  have at1 : s1.heap.get? S = some (freshSet w) := by
    rw [e1, eS]
    exact Heap.get?_push_size _ rfl
  have old1 : ∀ b o, s.heap.get? b = some o → s1.heap.get? b = some o := fun b o e => by
    rw [e1]
    exact Heap.get?_push_of_some _ e
  have ty1 : s1.TypeIs (.ref S) "set" := ⟨_, at1, rfl⟩
  obtain ⟨ol, hol, hcl, nl, hdl⟩ := hl
  have lS : l < S := by
    rw [eS]
    exact Heap.lt_size hol
  have sz1 : s1.heap.objs.size = S + 1 := by
    rw [e1, eS]
    exact Heap.size_push ..
  have gone : ∀ b, S ≤ b → s.heap.get? b = none := fun b hb => by
    cases q : s.heap.get? b with
    | none => rfl
    | some o => exact absurd (Heap.lt_size q) (by rw [← eS]; exact Nat.not_lt_of_le hb)
  have il1 : s1.heap.IsTuple l items := ⟨ol, old1 l ol hol, hcl, nl, hdl⟩
  -- the way in
  obtain ⟨c, tl, hmro⟩ := F.called_set.mro
  have a1 := F.called_set.made
  have a2 := F.called_set.sub
  have a3 := F.called_set.notType
  have a4 := F.called_set.canCreate
  have a5 := F.typeCall_set_1 (.ref l)
  have a6 := F.called_set.init.lookup
  have a7 := F.called_set.init.bind (.ref S)
  refine wpAny_call (codeAny_of_tree (show wpAny _ _ (callAny (.type "set") _) _ _ _ from wpAny_pure ⟨Code.quiet_builtin _ (by decide +kernel), codeAny_builtin F.entry_type_call ?_⟩))
  rw [Around.under_plain (weight_type_call_type "set" [.ref l] []) rfl]
  repeat (any_goals (first | assumption | wp_step))
  refine codeAny_mono (code_set_led1 (.ref l) (E := E) (Q₁ := fun u t => u = .ref S ∧ t = s1) ⟨by rw [eS], by rw [e1]⟩) fun r t hr => ?_
  match r, hr with
  | .ok (.ret u), hr =>
    obtain ⟨rfl, rfl⟩ := hr
    repeat (any_goals (first | assumption | wp_step))
    refine codeAny_mono (codeAny_call_builtin (R := wants (fun r t2 => r = .none ∧ ∃ g n, t2 = { s with heap := g, toks := n } ∧ G items.size g ∧ ∀ b o, s.heap.get? b = some o → g.get? b = some o) E) F.called_set.init.plain F.entry_set_init (check_set_init_1 ty1 ?_)) fun r2 t2 hr2 => ?_
    · obtain ⟨ocls, odict, odata, oslots⟩ := ol
      simp only at hcl hdl
      subst hcl
      subst hdl
      have hol1 := old1 l _ hol
      have b1 := F.sub_tuple_set
      have b2 := F.sub_tuple_frozenset
      have b3 : (Value.type "tuple" == Value.type "dict") = false := by decide
      unfold Builtin.«set.__init__» noKeywords Builtin.Frozenset.updateFrom
      generalize eI : pyIter = toIter
      wp_walk
      subst eI
      refine wpAny_pyIter_tuple il1 (wpAny_bind (wpAny_runValue ?_))
      have calm3 : A.in1.in1.in1.handled = none := by simp [hh]
      have lI : l ≠ t.heap.objs.size := Nat.ne_of_lt (by rw [sz1]; exact Nat.lt_succ_of_lt lS)
      refine fill_up (h0 := s.heap) (S := S) ((Walks.tuple calm3 _ l lI items).toS) (by simp only [List.mem_cons, List.not_mem_nil, or_false, not_or]; exact ⟨Nat.ne_of_lt (by rw [sz1]; exact Nat.lt_succ_self _), Nat.ne_of_gt lS⟩) (gone S (Nat.le_refl _)) (fun b hb => gone b (by have e := List.mem_singleton.mp hb; rw [e, sz1]; exact Nat.le_succ _)) G keep
        (fun i v _ hv A' E' s' Q' hA => step i v hv A' E' s' Q' (Nat.le_trans hA ?top)) (items.size - 0) 0 _ rfl (Nat.zero_le _) ⟨⟨_, Heap.get?_push_size _ rfl, rfl, rfl⟩, il1.push _⟩ (fun b o e => Heap.get?_push_of_some _ (old1 b o e)) (new _ (show (t.heap.push _).get? S = _ from Heap.get?_push_of_some _ at1)) fun s3 m3 g3 old3 => ?_
      case top =>
        simp only [Around.in1_units]
        omega
      · obtain ⟨g, gens, d, n, os⟩ := s3
        have q1 : gens = t.gens := m3.gens
        have q2 : d = t.drawn := m3.drawn
        have q3 : os = t.os := m3.os
        subst q1
        subst q2
        subst q3
        refine wpAny_pure (wpAny_pure ⟨rfl, g, n, ?_, g3, old3⟩)
        rw [e1]
    · match r2, hr2 with
      | .ok (.ret r), hr2 =>
        obtain ⟨rfl, g, n, rfl, k1, k2⟩ := hr2
        repeat (any_goals (first | assumption | wp_step))
        exact h g n k1 k2
      | .error e, hr2 => exact hr2
  | .error e, hr => exact hr
end
end NS
end

section
set_option Elab.async false
set_option linter.all false
set_option maxRecDepth 100000
set_option maxHeartbeats 6400000
namespace NS
open PySem PySem.Spec PyProof.Rows L2
section
variable {P : Program} {w : World} {s : Shared}
/-- what a set of ints has got from the first ones -/
def GotI (w : World) (S : Addr) (ns : List Int) (i : Nat) (h : Heap) : Prop := ∃ c, c ≤ i ∧ SetR w h S (fun j => decide (j ∈ ns.take i)) c
theorem gotI_step {h0 : Heap} {S : Addr} {ns : List Int} {top i : Nat} {v : Value} (hb : ns.length + 1 < scanBound) {k : Int} {tk : Tok} (hk : ns[i]? = some k) (hv : v = .int k tk) : AddStep P w h0 top S (GotI w S ns) i v := fun A E s Q hA ⟨c, hc, R⟩ old h => by
  subst hv
  have lt : i < ns.length := (List.getElem?_eq_some_iff.mp hk).1
  unfold setAdd
  refine wpAny_holding (wpAny_bind ((intKind P w).pyHash (k := k) (intKind_is _ _ _ _) (setR_add_hashed (s := { s with toks := s.toks + 1 }) R (by omega) fun g only R2 => h _ g _ only ⟨_, ?_, R2.congr fun j => ?_⟩ (Nat.le_succ _))))
  · split <;> omega
  · rw [List.take_add_one, hk]
    simp [List.mem_append]
/-- what a set of tuples has got from the first ones -/
def GotN (w : World) (S : Addr) (ks : NL) (i : Nat) (h : Heap) : Prop := ∃ L : NL, SetS w S L h ∧ (∀ p ∈ L, p ∈ ks.take i) ∧ (∀ p ∈ ks.take i, p.2 ∈ keysOf L) ∧ L.length ≤ i
theorem gotN_step {h0 : Heap} {S : Addr} {ks : NL} {top i : Nat} {v : Value} (hb : ks.length < 64) (ht : top + 8 < cLine) (hS : h0.get? S = none) (el : ∀ p ∈ ks, El h0 p.2 p.1) {p : Addr × NestedKey} (hk : ks[i]? = some p) (hv : v = .ref p.1) : AddStep P w h0 top S (GotN w S ks) i v := fun A E s Q hA ⟨L, x, z1, z2, z3⟩ old h => by
  subst hv
  have lt : i < ks.length := (List.getElem?_eq_some_iff.mp hk).1
  have now : ∀ q ∈ ks, El s.heap q.2 q.1 := fun q hq => (el q hq).keep old
  obtain ⟨es, ep, t, R⟩ := x.stand fun q hq => now q (List.mem_of_mem_take (z1 q hq))
  have hp := now p (List.mem_of_getElem? hk)
  have tk : ks.take (i + 1) = ks.take i ++ [p] := by
    rw [List.take_add_one, hk]
    rfl
  unfold setAdd
  refine wpAny_holding (wpAny_bind ((nestedKind P w).pyHash (k := p.2) (show A.units + 8 < cLine by omega) ⟨hp.is, hp.low⟩ (grow (s := { s with toks := s.toks + (nestedKind P w).draws p.2 }) R hp (by omega) (by omega) fun b g L' es' ep' t' only R' c1 c2 => h b g _ only ⟨L', R'.bare, ?_⟩ (Nat.le_add_right _ _))))
  rw [tk]
  by_cases c : p.2 ∈ keysOf L
  · rw [c1 c]
    refine ⟨fun q hq => List.mem_append_left _ (z1 q hq), fun q hq => ?_, Nat.le_succ_of_le z3⟩
    rcases List.mem_append.mp hq with y | y
    · exact z2 q y
    · rw [List.mem_singleton.mp y]
      exact c
  · have pm := c2 c
    refine ⟨fun q hq => ?_, fun q hq => ?_, by rw [pm.length_eq]; exact Nat.succ_le_succ z3⟩
    · rcases List.mem_cons.mp (pm.mem_iff.mp hq) with y | y
      · subst y
        exact List.mem_append_right _ List.mem_cons_self
      · exact List.mem_append_left _ (z1 q y)
    · rw [keysOf, (pm.map (·.2)).mem_iff, List.map_cons]
      rcases List.mem_append.mp hq with y | y
      · exact List.mem_cons_of_mem _ (z2 q y)
      · rw [List.mem_singleton.mp y]
        exact List.mem_cons_self
theorem SetS.at {S : Addr} {L : NL} {h h' : Heap} (x : SetS w S L h) (k : ∀ o, h.get? S = some o → h'.get? S = some o) : SetS w S L h' := by
  obtain ⟨es, ep, t, ⟨o, ho, r⟩, q⟩ := x
  exact ⟨es, ep, t, ⟨o, k o ho, r⟩, q⟩
end
/-- a list or a tuple that is read -/
def SqA (K : PySem.W.Frag) (H : Hp) (a : Addr) (xs : List V) : Prop := SqL K H a xs ∨ SqT K H a xs
/-- set(xs): ints | tuples -/
def rSetA (K : PySem.W.Frag) (w : World) : List V → Hp → VK → Prop := fun vs H Q => ∃ l : Addr, vs = [V.ref l] ∧
  ((∃ ns : List Int, SqA K H l (ns.map V.int) ∧ ns.length < 64 ∧ ∀ a c, H a = none → c ≤ ns.length → Q (.ref a) (upd H a (SetO w a (fun j => decide (j ∈ ns)) c))) ∨
   ∃ ks : NL, SqA K H l (ks.map fun p => V.ref p.1) ∧ (∀ p ∈ ks, KV K H (.ref p.1) p.2 ∧ p.2.depth ≤ 8) ∧ ks.length < 64 ∧ ∀ a L, H a = none → (∀ p ∈ L, p ∈ ks) → (∀ p ∈ ks, p.2 ∈ keysOf L) → L.length ≤ ks.length → Q (.ref a) (upd H a (SO w a L)))
theorem refs_back : ∀ {ks : NL} {us : List Value}, Vals (ks.map fun p => V.ref p.1) us → us = ks.map fun p => Value.ref p.1
  | [], _, .nil => rfl
  | _ :: ks, _, .cons r t => by
    cases r
    rw [refs_back t]
    rfl
section
variable {X : Cx}
theorem cr_setA (hc : X.calm = true) (hu : X.A.units + 64 < cLine) : CallR X (.type "set") (rSetA X.K X.w) := by
  intro pins s σ H xs us Q I r h
  obtain ⟨l, rfl, h⟩ := h
  rw [Vals.ref1 r]
  have hn : H s.heap.objs.size = none := I.hok.fresh (Nat.le_refl _)
  have nS : s.heap.get? s.heap.objs.size = none := by
    cases q : s.heap.get? s.heap.objs.size with
    | none => rfl
    | some o => exact absurd (Heap.lt_size q) (Nat.lt_irrefl _)
  have call : ∀ {xs : List V}, SqA X.K H l xs → ∀ (G : Nat → Heap → Prop), (∀ h, h.get? s.heap.objs.size = some (freshSet X.w) → G 0 h) → (∀ i h h', G i h → (∀ o, h.get? s.heap.objs.size = some o → h'.get? s.heap.objs.size = some o) → G i h') →
      (∀ its : List Value, Vals xs its → ∀ i v, its[i]? = some v → AddStep X.prog X.w s.heap (X.A.units + 9) s.heap.objs.size G i v) →
      (∀ (g : Heap) (n : Nat), G xs.length g → (∀ b o, s.heap.get? b = some o → g.get? b = some o) → EP X pins σ Q (.ref s.heap.objs.size) { s with heap := g, toks := n }) → wpAny (model X.prog X.w) X.A (call (.type "set") [.ref l]) (EP X pins σ Q) X.xe s := by
    intro xs hs G new keep step fin
    rcases hs with hs | hs
    · obtain ⟨its, rv, pl, hz⟩ := I.list hs
      exact set_of_list (I.ok.hd hc) pl.isList G new keep (fun i v e => step its rv i v (by simpa using e)) fun g n z k => fin g n (by rw [rv.length]; simpa using z) k
    · obtain ⟨its, rv, pl, hz⟩ := I.tuple hs
      exact set_of_tuple (I.ok.hd hc) pl G new keep (fun i v e => step its rv i v (by simpa using e)) fun g n z k => fin g n (by rw [rv.length]; simpa using z) k
  rcases h with ⟨ns, hs, few, q⟩ | ⟨ks, hs, hk, few, q⟩
  · refine call hs (GotI X.w s.heap.objs.size ns) (fun h e => ⟨0, Nat.le_refl _, setR_new_at e⟩) (fun i h h' ⟨c, hc, R⟩ k => ⟨c, hc, R.at k⟩) (fun its rv i v e => ?_) fun g n z k => ?_
    · have hi : i < ns.length := by
        have := (List.getElem?_eq_some_iff.mp e).1
        rw [← rv.length, List.length_map] at this
        exact this
      obtain ⟨t, et⟩ := PyProof.Rows.IntsAre.int_at rv.ints i v e
      refine gotI_step (by unfold scanBound; omega) (List.getElem?_eq_getElem hi) (tk := t) ?_
      rw [et, List.getD_eq_getElem?_getD, List.getElem?_eq_getElem hi]
      rfl
    · obtain ⟨c, hc', R⟩ := z
      rw [List.length_map] at hc' R
      rw [List.take_length] at R
      exact ⟨.ref s.heap.objs.size, _, I.laid (t' := n) k (Nat.le_refl _) (setO_new R), rfl, q _ c hn hc'⟩
  · have els : ∀ p ∈ ks, El s.heap p.2 p.1 := fun p hp => (hk p hp).1.el I (hk p hp).2
    refine call hs (GotN X.w s.heap.objs.size ks) (fun h e => ⟨[], set_none e, fun _ z => (by cases z), fun _ z => (by simp at z), Nat.le_refl _⟩) (fun i h h' ⟨L, x, z⟩ k => ⟨L, x.at k, z⟩) (fun its rv i v e => ?_) fun g n z k => ?_
    · rw [refs_back rv, List.getElem?_map] at e
      cases ep : ks[i]? with
      | none =>
        rw [ep] at e
        cases e
      | some p =>
        rw [ep] at e
        cases e
        exact gotN_step few (by omega) nS els ep rfl
    · obtain ⟨L, x, z1, z2, z3⟩ := z
      rw [List.length_map, List.take_length] at z1 z2
      exact ⟨.ref s.heap.objs.size, _, I.laid (t' := n) k (Nat.le_refl _) (so_new x), rfl, q _ L hn z1 z2 (by rw [List.length_map] at z3; exact z3)⟩
end
end NS
end

section
set_option Elab.async false
set_option linter.all false
set_option maxRecDepth 100000
set_option maxHeartbeats 4000000
namespace DL
open PySem L2 NS
open Evl (Ex)
/-- what a set may be made of here -/
def shOk (s : Sh) : Prop := (s = .int ∨ ∃ s1 ss, s = .tup (s1 :: ss)) ∧ s.deep ≤ 8
/-- sorted(set(e)) -/
def dSortSet (m : DM) : DM := fun env Q => m env fun env' r => ∃ ds s, itemsOf r.data = some ds ∧ ds.length < 64 ∧ shOk s ∧ (∀ d ∈ ds, fits s d = true) ∧ ∀ l, SortedOf ds l → Q env' (.own l)
def rSortA (K : PySem.W.Frag) (w : World) : List V → Hp → VK → Prop := fun vs H Q => rSortedSet w vs H Q ∨ rSortS K w vs H Q
theorem leD_int (a b : Int) : leD (.int a) (.int b) = decide (a ≤ b) := by
  show (!PySem.W.dataLt (.int b) (.int a)) = _
  rw [PySem.W.dataLt_int]
  by_cases c : b < a
  · simp [c]
  · have : a ≤ b := by omega
    simp [c, this]
theorem fits_ints : ∀ {ds : List D}, (∀ d ∈ ds, fits .int d = true) → ∃ ns : List Int, ds = ns.map D.int
  | [], _ => ⟨[], rfl⟩
  | d :: ds, h => by
    obtain ⟨i, rfl⟩ := fits_int (h d List.mem_cons_self)
    obtain ⟨ns, rfl⟩ := fits_ints fun x hx => h x (List.mem_cons_of_mem _ hx)
    exact ⟨i :: ns, rfl⟩
theorem sorted_ints {ns ns' : List Int} (pw : ns'.Pairwise (· < ·)) (h : ∀ k, k ∈ ns' ↔ k ∈ ns) : SortedOf (ns.map D.int) (ns'.map D.int) := by
  refine ⟨List.pairwise_map.mpr (pw.imp fun {a b} q e => ?_), fun d => ?_, List.pairwise_map.mpr (pw.imp fun {a b} q => ?_)⟩
  · injection e with e
    omega
  · rw [List.mem_map, List.mem_map]
    exact ⟨fun ⟨k, h1, h2⟩ => ⟨k, (h k).mp h1, h2⟩, fun ⟨k, h1, h2⟩ => ⟨k, (h k).mpr h1, h2⟩⟩
  · rw [leD_int, decide_eq_true_eq]
    omega
theorem refs_of {K : PySem.W.Frag} {S : Hp} {s1 : Sh} {ss : List Sh} : ∀ {xs : List V} {ds : List D}, (∀ d ∈ ds, fits (.tup (s1 :: ss)) d = true) → Reps K S xs ds → ∃ ks : NL, xs = ks.map (fun p => V.ref p.1) ∧ keysOf ks = ds.map kD ∧ ∀ p ∈ ks, ∃ d ∈ ds, kD d = p.2 ∧ Rep K S (.ref p.1) d
  | _, [], _, r => by
    cases r
    exact ⟨[], rfl, rfl, fun _ h => (by cases h)⟩
  | _, d :: ds, f, r => by
    cases r with
    | @cons v vs _ _ r1 r2 =>
      obtain ⟨ks, h1, h2, h3⟩ := refs_of (fun x hx => f x (List.mem_cons_of_mem _ hx)) r2
      have fd := f d List.mem_cons_self
      have isref : ∃ a, v = V.ref a := by
        obtain ⟨l, rfl, _⟩ := fits_tup fd
        cases r1
        exact ⟨_, rfl⟩
      obtain ⟨a, rfl⟩ := isref
      refine ⟨(a, kD d) :: ks, by rw [h1]; rfl, by rw [List.map_cons, ← h2]; rfl, fun p hp => ?_⟩
      rcases List.mem_cons.mp hp with z | z
      · subst z
        exact ⟨d, List.mem_cons_self, rfl, r1⟩
      · obtain ⟨e, e1, e2⟩ := h3 p z
        exact ⟨e, List.mem_cons_of_mem _ e1, e2⟩
section
variable {X : Cx}
theorem cr_sortA (hc : X.calm = true) (hu : X.A.units + 64 < cLine) : CallR X (.builtin "sorted") (rSortA X.K X.w) := fun pins s σ H vs us Q I r h => by
  rcases h with h | h
  · exact cr_sortedSet hc pins s σ H vs us Q I r h
  · exact cr_sortS hc hu pins s σ H vs us Q I r h
theorem RepB.items {K : PySem.W.Frag} {S H : Hp} {v : V} {d : D} {ds : List D} (e : Ex S H) (h : RepB K S H v d) (q : itemsOf d = some ds) : ∃ p vs, v = .ref p ∧ SqA K H p vs ∧ Reps K S vs ds := by
  cases d with
  | lst l =>
    cases q
    obtain ⟨p, vs, h1, h2, h3⟩ := h.lst e
    exact ⟨p, vs, h1, .inl h2, h3⟩
  | tup l =>
    cases q
    obtain ⟨p, vs, h1, h2, h3⟩ := h.tup e
    exact ⟨p, vs, h1, .inr h2, h3⟩
  | _ => cases q
theorem de_sortSet {a : Expr} {ma : DM} {ta : TE} {p p2 pos pos2 : Pos} (hc : X.calm = true) (hu : X.A.units + 64 < cLine) (hg : Gl X "sorted") (hm : X.mg "sorted" = none) (hv : bootBuiltins "sorted" = some (.builtin "sorted")) (hg2 : Gl X "set") (hm2 : X.mg "set" = none) (hv2 : bootBuiltins "set" = some (.type "set"))
    (ha : DE X a ma ta) (st1 : starEach [a] X.env = (false, eval a X.env) :: starEach [] X.env := by rfl) (pl1 : (backTo pos2 (starEach [] X.env)).any (·.1) = false := by rfl)
    (st2 : starEach [.Call (.Name "set" p2) [a] [] pos2] X.env = (false, eval (.Call (.Name "set" p2) [a] [] pos2) X.env) :: starEach [] X.env := by rfl) (pl2 : (backTo pos (starEach [] X.env)).any (·.1) = false := by rfl) :
    DE X (.Call (.Name "sorted" p) [.Call (.Name "set" p2) [a] [] pos2] [] pos) (dSortSet ma) (tCB (rSortA X.K X.w) (tCons (tCB (rSetA X.K X.w) (tCons ta tNil)) tNil)) := by
  refine ⟨pe_callB (cr_sortA hc hu) hg hm hv (pa_cons (pe_callTy (cr_setA hc hu) hg2 hm2 hv2 (pa_cons ha.1 pa_nil st1) (by decide) (by decide) st1 pl1) pa_nil st2) (by decide) (by decide) st2 pl2, fun B S H env σ Q Qv s q k => ?_⟩
  refine ha.2 B S H env σ _ _ s q fun x H1 S1 env1 r1 e1 q1 => ?_
  obtain ⟨ds, sh, it, few, ⟨kind, low⟩, fit, q1⟩ := q1
  obtain ⟨l, vs, rfl, sq, rp⟩ := RepB.items e1.sr.ex e1.look1 it
  have fin : ∀ {D p : Addr} {o : HO} {ws : List V} {l0 : List DL.D}, H1 D = none → upd H1 D o p = none → Reps X.K S1 ws l0 → SortedOf ds l0 → Qv (.ref p) (upd (upd H1 D o) p (.lst ws)) := fun {D p o ws l0} hD hp r z => by
    have n1 : Nw S1 H1 S1 (upd H1 D o) := Nw.hid e1.sr.ex hD
    have t1 : TPo X.K B S H env σ S1 (upd H1 D o) env1 := e1.t.nw n1
    exact k _ _ S1 _ (.own l0) (.fin t1 (nwr_lst t1.sr.ex hp r)) (q1 l0 z)
  rcases kind with rfl | ⟨s1, ss, rfl⟩
  · obtain ⟨ns, rfl⟩ := fits_ints fit
    rw [rp.ints_inv] at sq
    rw [List.length_map] at few
    refine ⟨l, rfl, .inl ⟨ns, sq, few, fun D c hD hc' => .inl ⟨D, _, c, rfl, upd_same, by omega, fun ns' p pw mem _ hp => ?_⟩⟩⟩
    exact fin hD hp (Reps.ints ns') (sorted_ints pw fun k => by rw [mem k, decide_eq_true_eq])
  · obtain ⟨ks, rfl, h2, h3⟩ := refs_of fit rp
    have len : ks.length = ds.length := by
      have := congrArg List.length h2
      rwa [keysOf, List.length_map, List.length_map] at this
    have kv : ∀ {H' : Hp}, Ex S1 H' → ∀ p ∈ ks, KV X.K H' (.ref p.1) p.2 ∧ p.2.depth ≤ 8 := fun e p hp => by
      obtain ⟨d, d1, d2, d3⟩ := h3 p hp
      rw [← d2]
      exact ⟨(fits_kv _ (fit d d1) d3).mono e, Nat.le_trans (fits_deep _ (fit d d1)) low⟩
    refine ⟨l, rfl, .inr ⟨ks, sq, kv e1.sr.ex, by omega, fun D L hD c1 c2 c3 => .inr ?_⟩⟩
    have lk : Lnk X.K S1 (.tup (s1 :: ss)) ds L := ⟨fun p hp => h3 p (c1 p hp), fun d hd => ?_, fit, by omega⟩
    · have ex : Ex S1 (upd H1 D (SO X.w D L)) := e1.sr.ex.trans (Ex.new hD)
      refine ⟨D, L, rfl, upd_same, lk.kv ex low, lk.alike, lk.full, fun L' p pm nd _ pw hp => ?_⟩
      obtain ⟨l0, r, z⟩ := lk.sorted pm nd pw
      exact fin hD hp r z
    · have : kD d ∈ keysOf ks := by
        rw [h2]
        exact List.mem_map.mpr ⟨d, hd, rfl⟩
      obtain ⟨p, hp, e⟩ := List.mem_map.mp this
      rw [← e]
      exact c2 p hp
end
end DL
end

section
set_option Elab.async false
set_option linter.all false
set_option maxRecDepth 100000
set_option maxHeartbeats 4000000
namespace NS
open PySem PySem.Spec PyProof.Rows L2
mutual
theorem hash_bare (w w' : World) : ∀ {k : NestedKey}, bare k = true → k.hash w = k.hash w'
  | .none, _ => by rw [NestedKey.hash, NestedKey.hash]
  | .num _, _ => by rw [NestedKey.hash, NestedKey.hash]
  | .text _, h => by cases h
  | .tup ks, h => by rw [NestedKey.hash, NestedKey.hash, hashes_bare w w' (ks := ks) h]
theorem hashes_bare (w w' : World) : ∀ {ks : List NestedKey}, bares ks = true → NestedKey.hashes w ks = NestedKey.hashes w' ks
  | [], _ => by rw [NestedKey.hashes, NestedKey.hashes]
  | k :: ks, h => by
    rw [bares, Bool.and_eq_true] at h
    rw [NestedKey.hashes, NestedKey.hashes, hash_bare w w' h.1, hashes_bare w w' h.2]
end
/-- the keys' own tuples -/
def KeysIn (K : PySem.W.Frag) (H : Hp) (xs : DLs) : Prop := ∀ p ∈ xs, KV K H (.ref p.2.1) p.1 ∧ p.1.depth ≤ 8
theorem KeysIn.mono {K : PySem.W.Frag} {H H' : Hp} {xs : DLs} (h : KeysIn K H xs) (e : Evl.Ex H H') : KeysIn K H' xs := fun p hp => ⟨(h p hp).1.mono e, (h p hp).2⟩
theorem storedH_mem {xs : DLs} {k : NestedKey} {b : Addr} {v : Value} {p : NestedKey × Addr × Value} (h : p ∈ storedH xs k b v) : (∃ q ∈ xs, q.1 = p.1 ∧ q.2.1 = p.2.1) ∨ (p.1 = k ∧ p.2.1 = b) := by
  unfold storedH at h
  split at h
  · obtain ⟨q, hq, e⟩ := List.mem_map.mp h
    refine .inl ⟨q, hq, ?_⟩
    rw [← e]
    unfold putAt
    split <;> exact ⟨rfl, rfl⟩
  · rcases List.mem_append.mp h with z | z
    · exact .inl ⟨p, z, rfl, rfl⟩
    · rw [List.mem_singleton.mp z]
      exact .inr ⟨rfl, rfl⟩
theorem KeysIn.put {K : PySem.W.Frag} {H : Hp} {xs : DLs} {k : NestedKey} {b : Addr} {v : Value} (h : KeysIn K H xs) (hb : KV K H (.ref b) k) (low : k.depth ≤ 8) : KeysIn K H (storedH xs k b v) := fun p hp => by
  rcases storedH_mem hp with ⟨q, h1, h2, h3⟩ | ⟨h2, h3⟩
  · rw [← h2, ← h3]
    exact h q h1
  · rw [h2, h3]
    exact ⟨hb, low⟩
section
variable {X : Cx} {pins : List (Addr × Obj)} {s : Shared} {σ : L2.St} {H : Hp} {D : Addr} {xs : DLs}
theorem Inv.keyed (I : Inv X pins σ H s) {b : Addr} {k : NestedKey} (h : KV X.K H (.ref b) k) (low : k.depth ≤ 8) : (nestedKind X.prog X.w).is s.heap k b := ⟨(h.is I rfl).1, low⟩
theorem dico_get (I : Inv X pins σ H s) (e : H D = some (DicO D xs)) (hk : KeysIn X.K H xs) : (D == sysModules) = false ∧ s.heap.DictOfH (nestedKind X.prog X.w) D xs :=
  have d : DictS D xs s.heap := (I.hok D _ e).1
  ⟨d.1, d.whole fun p hp => Inv.keyed I (hk p hp).1 (hk p hp).2⟩
theorem dictS_of {P : Program} {w : World} {h : Heap} {a : Addr} {xs : DLs} (z : (a == sysModules) = false) (x : h.DictOfH (nestedKind P w) a xs) (b : ∀ p ∈ xs, bare p.1 = true) : DictS a xs h := by
  obtain ⟨o, es, ep, h1, h2, h3, h4, _, h5⟩ := x
  refine ⟨z, o, es, ep, h1, h2, h3, fun w' => ?_, h5⟩
  rw [h4]
  refine List.map_congr_left fun p hp => ?_
  show DictEntry.mk (p.1.hash w) _ _ = _
  rw [hash_bare w w' (b p hp)]
/-- d[k] = v by a comprehension -/
theorem put_ok {E : Value → Shared → Prop} {b : Addr} {k : NestedKey} {v : Value} {Q : Unit → Shared → Prop} (hu : X.A.units + 64 < cLine) (I : Inv X pins σ H s) (e : H D = some (DicO D xs)) (hk : KeysIn X.K H xs) (hb : KV X.K H (.ref b) k) (low : k.depth ≤ 8) (room : xs.length < sizeLine)
    (h : ∀ s', Inv X pins σ (upd H D (DicO D (storedH xs k b v))) s' → Q () s') : wpAny (model X.prog X.w) X.A (dictSet D (.ref b) v) Q E s := by
  obtain ⟨z, dd⟩ := dico_get I e hk
  refine wpAny_dictSet_heap (knd := nestedKind X.prog X.w) (hsz := Nat.le_of_lt room) (show X.A.units + 8 < cLine by omega) (Inv.keyed I hb low) dd fun g dd' only => h _ ?_
  have hk' : KeysIn X.K H (storedH xs k b v) := hk.put hb low
  obtain ⟨o, _, _, ho, _⟩ := id dd'
  exact I.write (e := D) (t' := _) (by rw [e]; trivial) (.inl rfl) (fun c u hc hu => (only.2 c hc).trans hu) ⟨o, ho⟩ (dico_new (dictS_of z dd' fun p hp => (hk' p hp).1.bare))
end
/-- {k: v for target in iter if ..}, the keys tuples -/
def tDcN (K : PySem.W.Frag) (wi : TI) (g : TG) (tt : TT) (tk tv : TE) (vs : List Nat) : TE := fun σ H Q => wi σ H fun J H1 => ∀ D, H1 D = none → ∃ Wv : Nat → Nat → Hp → Prop, (∃ m, Wv 0 m (upd H1 D (DicO D []))) ∧ ∀ i m H, Wv i m H →
  (J.stop i H ∧ Q (.ref D) H) ∨ (J.go i H ∧ ∃ Nx : Hp → Prop, (∀ H', Nx H' → ∃ m', m' < m ∧ Wv (i + 1) m' H') ∧ ∀ x H', J.yld i H x H' → g x (wipe σ vs) H' fun σ2 H2 => wipe σ2 vs = wipe σ vs ∧ tt σ2 H2 fun ok H3 =>
    if ok = true then tk σ2 H3 fun y H4 => tv σ2 H4 fun z H5 => ∃ (b : Addr) (k : NestedKey) (xs : DLs), y = .ref b ∧ H5 D = some (DicO D xs) ∧ KeysIn K H5 xs ∧ KV K H5 y k ∧ k.depth ≤ 8 ∧ xs.length < sizeLine ∧ ∀ u, RelV z u → Nx (upd H5 D (DicO D (storedH xs k b u)))
    else Nx H3)
section
variable {X : Cx} {pins : List (Addr × Obj)} {s : Shared} {σ : L2.St} {H : Hp} {Q : VK} {kx vx tg iter : Expr} {ifs : List Expr} {scope : Scope} {own : List (Str × Nat)} {pos pos' : Pos} {wi : TI} {g : TG} {tt : TT} {tk tv : TE} {Qf : Value → Shared → Prop}
theorem dcN_core (hu : X.A.units + 64 < cLine) (hc : X.calm = true) (hN : X.N.Nodup) (I : Inv X pins σ H s) (hi : PI X tg iter wi) (ok : BlkOk X.N X.env.scope scope own) (hg : ∀ c, PG (Blk X scope c) tg g) (ht : ∀ c, PTs (Blk X scope c) ifs tt) (hk : ∀ c, PE (Blk X scope c) kx tk) (he : ∀ c, PE (Blk X scope c) vx tv) (hsi : ∀ x, foldedSetIterable iter X.env x = pure x)
    (h : tDcN X.K wi g tt tk tv (own.map (·.2)) σ H Q) (fin : ∀ D C t m H', Inv X pins σ H' t → Q (.ref D) H' → t.heap.Ns C m → FpOk X pins H' C → compPost (model X.prog X.w) X.A X.xe none Qf (.ref D) C (.ok .next) t) :
    wpAny (model X.prog X.w) X.A (comprehension (.DictComp kx vx [⟨tg, iter, ifs, 0⟩] scope pos) scope X.env pos' newDict false (eval iter X.env) none) Qf X.xe s := by
  have fr : ∀ y ∈ scope.names, y.2 = .free → ∃ c, X.env.cells.lookup y.1 = some c := fun y hy e => (ok.free y hy e).elim (fun k => I.ok.has _ (.inl k)) fun k => I.ok.has _ (.inr k)
  refine wpAny_comprehension_free (use := none) rfl hsi (closure_ok fr) ok.kind (fun y hy e => (ok.uniq y hy).trans (by rw [e])) ?_
  refine thn (hi.run pins s σ H _ I h) fun xv t1 hx => thn hx fun itv t2 ht2 => ?_
  obtain ⟨it, fp, tn, J, H2, rfl, I2, T, st2, fp2, q⟩ := ht2
  refine wpAny_newObj_type (newEnv_comp ?_)
  obtain ⟨D, eD⟩ : ∃ D, D = t2.heap.objs.size := ⟨_, rfl⟩
  obtain ⟨Wv, ⟨m0, w0⟩, step⟩ := q D (I2.hok.fresh (Nat.le_of_eq eD.symm))
  rw [← eD]
  -- the dict
  obtain ⟨t3, e3⟩ : ∃ t3 : Shared, t3 = { t2 with heap := t2.heap.push { cls := .type "dict", data := .dict #[] } } := ⟨_, rfl⟩
  have p3 : ∀ b o, t2.heap.get? b = some o → t3.heap.get? b = some o := fun b o e => by
    rw [e3]
    exact Heap.get?_push_of_some _ e
  have I3 : Inv X pins σ (upd H2 D (DicO D [])) t3 := by
    rw [e3]
    refine I2.laid (t' := t2.toks) (fun b o e => Heap.get?_push_of_some _ e) (Nat.le_of_eq eD.symm) (dico_new (dict_none ?_ ?_))
    · rw [eD]
      exact beq_eq_false_iff_ne.mpr (Nat.ne_of_gt I2.big)
    · rw [eD]
      exact Heap.get?_push_size _ rfl
  have fpl : ∀ b ∈ fp, b < t2.heap.objs.size := fun b hb => let ⟨_, e, _⟩ := T.obj _ _ st2 b hb; Heap.lt_size e
  have lt3 : ∀ b ∈ fp, b < t3.heap.objs.size := fun b hb => let ⟨o, e, _⟩ := T.obj _ _ st2 b hb; Heap.lt_size (p3 b o e)
  have fp3 : ∀ b ∈ fp, FpOk X pins (upd H2 D (DicO D [])) b := fun b hb => ⟨(upd_ne (fun z => Nat.lt_irrefl _ (eD ▸ z ▸ fpl b hb))).trans (fp2 b hb).1, (fp2 b hb).2⟩
  have st3 : tn 0 t3.heap := T.keep _ _ _ st2 fun b _ o e => p3 b o e
  have I4 := block_start I3 ok hN fun b hb => ⟨fp3 b hb, lt3 b hb⟩
  rw [← e3]
  obtain ⟨H3, eH3⟩ : ∃ H3, H3 = upd H2 D (DicO D []) := ⟨_, rfl⟩
  rw [← eH3] at I3 fp3 I4 w0
  obtain ⟨bc, eb⟩ : ∃ bc : BC, bc = ⟨t3, H3, t3.heap.objs.size, cellsFrom (t3.heap.objs.size + 1) scope.names (cloFrom X.env.cells scope.names []), fp⟩ := ⟨_, rfl⟩
  have pg := hg bc
  have pt := ht bc
  have pk := hk bc
  have pe := he bc
  have I4 : Inv (Blk X scope bc) [] (wipe σ (own.map (·.2))) H3 { t3 with heap := pushCells (t3.heap.push { cls := .type "dict", data := .dict #[] }) scope.names } := by
    rw [eb]
    exact I4
  have back : ∀ {σ' : L2.St} {H' : Hp} {t : Shared}, Inv (Blk X scope bc) [] σ' H' t → Inv X pins σ H' t ∧ (∃ m, t.heap.Ns t3.heap.objs.size m) ∧ H' t3.heap.objs.size = none := fun {σ' H' t} J' => by
    subst eb
    exact ⟨I3.call' (ch := fp) J'.os J'.base J'.hok J'.bare fun b hb => ⟨(fp3 b hb).2.2.2.1, (fp3 b hb).2.1, (fp3 b hb).2.2.2.2.1, (fp3 b hb).2.2.2.2.2⟩, let ⟨m, z, _⟩ := J'.loc; ⟨m, z⟩, J'.free⟩
  have exb : (Blk X scope bc).ex = fp := by rw [eb]
  have ecl : (compEnvC scope (cellsFrom (t3.heap.objs.size + 1) scope.names (cloFrom X.env.cells scope.names [])) t3.heap.objs.size X.env) = compEnvC scope bc.cl bc.C X.env := by rw [eb]
  have cL : t3.heap.objs.size = bc.C := by rw [eb]
  show codeAny _ _ (.compStart (.DictComp kx vx [⟨tg, iter, ifs, 0⟩] scope pos) 0 (.ref it) (.ref D) (compEnvC scope (cellsFrom (t3.heap.objs.size + 1) scope.names (cloFrom X.env.cells scope.names [])) t3.heap.objs.size X.env)) (compPost (model X.prog X.w) X.A X.xe none Qf (.ref D) t3.heap.objs.size) _
  rw [ecl]
  obtain ⟨t4, e4⟩ : ∃ t4 : Shared, t4 = { t3 with heap := pushCells (t3.heap.push { cls := .type "dict", data := .dict #[] }) scope.names } := ⟨_, rfl⟩
  rw [← e4] at I4 ⊢
  have st4 : tn 0 t4.heap := T.keep _ _ _ st3 fun b _ o e => by
    rw [e4]
    exact pushCells_keeps _ _ _ _ (Heap.get?_push_of_some _ e)
  have stat : ∀ {σ' : L2.St} {H' : Hp} {t : Shared}, Inv (Blk X scope bc) [] σ' H' t → (∀ b ∈ fp, H' b = none) → ∀ b ∈ fp, FpOk (Blk X scope bc) [] H' b := fun {σ' H' t} J hn b hb =>
    ⟨hn b hb, (J.ok.exf b (by rw [exb]; exact hb)).1, J.ok.exfs b (by rw [exb]; exact hb), .inl (by rw [exb]; exact hb), fun x c e => (J.ok.exf b (by rw [exb]; exact hb)).2 x c e, fun p hp => nomatch (show p ∈ ([] : List (Addr × Obj)) from hp)⟩
  have loop : codeAny (model X.prog X.w) X.A (.compLoop (.DictComp kx vx [⟨tg, iter, ifs, 0⟩] scope pos) 0 (.ref it) (.ref D) (compEnvC scope bc.cl bc.C X.env)) (compPost (model X.prog X.w) X.A X.xe none Qf (.ref D) t3.heap.objs.size) t4 := by
    refine compLoop_anyD (fun n t => ∃ i H', Inv (Blk X scope bc) [] (wipe σ (own.map (·.2))) H' t ∧ tn i t.heap ∧ (∀ b ∈ fp, H' b = none) ∧ Wv i n H') ?_ m0 ⟨0, H3, I4, st4, fun b hb => (fp3 b hb).1, w0⟩
    rintro n t5 ⟨i, H5, I5, st5, n5, w5⟩
    rcases step i n H5 w5 with ⟨stop, qq⟩ | ⟨go, Nx, hNx, turn⟩
    · refine thnF (T.done (Blk X scope bc) rfl rfl rfl hc i [] t5 _ H5 (fun _ _ => False) I5 (stat I5 n5) st5 stop) fun r t6 ⟨hr, I6⟩ => ?_
      subst hr
      obtain ⟨I7, ⟨m, hn⟩, nC⟩ := back I6
      exact fin D _ t6 m H5 I7 qq hn (I3.fpOk (Nat.le_refl _) nC)
    · refine thnF (T.item (Blk X scope bc) rfl rfl rfl hc i [] t5 _ H5 (fun _ _ => False) I5 (stat I5 n5) st5 go) fun r t6 ⟨u, hr, h6⟩ => ?_
      subst hr
      refine thnF h6 fun _ t7 ⟨x, H7, I7, r7, y7, st7, n7⟩ => ?_
      have I7' := I7.pinned (stat I7 n7) (T.obj _ _ st7)
      refine thnF (pg.run _ t7 _ H7 x u _ I7' r7 (turn x H7 y7)) fun _ t8 ⟨σ8, H8, I8, hw8, q8⟩ => ?_
      have next : ∀ {t10 : Shared} {H' : Hp}, Inv (Blk X scope bc) ([] ++ pinsAt fp t7.heap) σ8 H' t10 → Nx H' → ∃ m, m < n ∧ ∃ i H', Inv (Blk X scope bc) [] (wipe σ (own.map (·.2))) H' t10 ∧ tn i t10.heap ∧ (∀ b ∈ fp, H' b = none) ∧ Wv i m H' := fun {t10 H'} I10 nx => by
        obtain ⟨m', hm, w'⟩ := hNx _ nx
        have pin' : ∀ b ∈ fp, ∀ o, t7.heap.get? b = some o → t10.heap.get? b = some o ∧ H' b = none := fun b hb o e =>
          let z := I10.pin (b, o) (List.mem_append_right _ (List.mem_append_right _ (mem_pinsAt hb e)))
          ⟨z.1, z.2.1⟩
        refine ⟨m', hm, i + 1, _, (I10.unpinned (pins := [])).weak (by rw [← hw8, wipe_length]) (fun j v e => ?_), T.keep _ _ _ st7 fun b hb o e => (pin' b hb o e).1, fun b hb => ?_, w'⟩
        · rw [← hw8] at e
          exact (wipe_some e).1
        · obtain ⟨o, e, _⟩ := T.obj _ _ st7 b hb
          exact (pin' b hb o e).2
      refine thnF (pt.run _ t8 σ8 H8 _ I8 q8) fun yes t9 ⟨H9, I9, q9⟩ => ?_
      cases yes with
      | false => exact next I9 q9
      | true =>
        rw [if_pos rfl] at q9 ⊢
        refine thnF (pk.run _ t9 σ8 H9 _ I9 q9) fun kv t10 ⟨y, H10, I10, r10, q10⟩ => ?_
        refine thnF (pe.run _ t10 σ8 H10 _ I10 q10) fun vv t11 ⟨z, H11, I11, r11, b, k, xs, ey, hD, hks, hkv, low, room, nx⟩ => ?_
        subst ey
        cases r10
        exact put_ok (X := Blk X scope bc) hu I11 hD hks hkv low room fun t12 I12 => next I12 (nx vv r11)
  exact codeAny_compStart_dict loop (T.self X.A 0 _ _ _ st4 loop)
theorem pe_dcN (hu : X.A.units + 64 < cLine) (hc : X.calm = true) (hN : X.N.Nodup) (hi : PI X tg iter wi) (ok : BlkOk X.N X.env.scope scope own) (hg : ∀ c, PG (Blk X scope c) tg g) (ht : ∀ c, PTs (Blk X scope c) ifs tt) (hk : ∀ c, PE (Blk X scope c) kx tk) (he : ∀ c, PE (Blk X scope c) vx tv) (hsi : ∀ x, foldedSetIterable iter X.env x = pure x := by intro _; rfl) :
    PE X (.DictComp kx vx [⟨tg, iter, ifs, 0⟩] scope pos) (tDcN X.K wi g tt tk tv (own.map (·.2))) := by
  refine ⟨fun pins s σ H Q I h => ?_⟩
  rw [arm_eval_DictComp]
  refine dcN_core hu hc hN I hi ok hg ht hk he hsi h fun D C t m H' J q hn f => ⟨m, hn, fun g sb => ?_⟩
  obtain ⟨f0, f1, f2, f3, f4, f5⟩ := f
  exact ⟨V.ref D, H', J.turned (t' := t.toks) (fun b o hb e => (sb.2 b hb).trans e) f0 f1 f3 f4 f5, rfl, q⟩
/-- k in d, k not in d -/
def rInK (neg : Bool) (K : PySem.W.Frag) : R2 := fun x y H Q => ∃ (a b : Addr) (k : NestedKey) (xs : DLs), x = .ref b ∧ KV K H x k ∧ k.depth ≤ 8 ∧ y = .ref a ∧ H a = some (DicO a xs) ∧ KeysIn K H xs ∧ Q (.bl (neg ^^ (atKey xs k).isSome)) H
theorem op_inK (hu : X.A.units + 65 < cLine) : OpR X (compareOp .In) (rInK false X.K) := by
  intro pins s σ H x y v u Q I rx ry h
  obtain ⟨a, b, k, xs, rfl, hb, low, rfl, e, hk, q⟩ := h
  cases rx
  cases ry
  obtain ⟨z, dd⟩ := dico_get I e hk
  refine in_keyed (knd := nestedKind X.prog X.w) (show X.A.units + 1 + 8 < cLine by omega) (Inv.keyed I hb low) z ⟨xs, dd, rfl⟩ ⟨.bl _, H, I.tok _, rfl, ?_⟩
  rw [valueAt_pairsH, Option.isSome_map]
  rwa [Bool.false_xor] at q
theorem op_notInK (hu : X.A.units + 65 < cLine) : OpR X (compareOp .NotIn) (rInK true X.K) := by
  intro pins s σ H x y v u Q I rx ry h
  obtain ⟨a, b, k, xs, rfl, hb, low, rfl, e, hk, q⟩ := h
  cases rx
  cases ry
  obtain ⟨z, dd⟩ := dico_get I e hk
  refine notIn_keyed (knd := nestedKind X.prog X.w) (show X.A.units + 1 + 8 < cLine by omega) (Inv.keyed I hb low) z ⟨xs, dd, rfl⟩ ⟨.bl _, H, I.tok _, rfl, ?_⟩
  rw [valueAt_pairsH, Option.isSome_map]
  rwa [Bool.true_xor] at q
end
end NS
end

section
set_option Elab.async false
set_option linter.all false
set_option maxRecDepth 100000
set_option maxHeartbeats 4000000
namespace DL
open PySem L2 NS
open Evl (Ex)
section
variable {K : PySem.W.Frag} {S : Hp}
mutual
theorem Rep.kv : ∀ {v : V} {d : D}, Rep K S v d → keyK d = true → KV K S v (kD d)
  | _, _, .non, _ => by rw [kD] <;> first | exact .non | exact nofun
  | _, _, .int i, _ => by rw [kD]; exact .int i
  | _, _, .tup h r, q => by
    rw [kD]
    rw [keyK] at q
    exact .tup h (Reps.kv r q)
  | _, _, .any _, q => by cases q
  | _, _, .bl _, q => by cases q
  | _, _, .str _, q => by cases q
  | _, _, .lst _ _, q => by cases q
  | _, _, .ins _ _ _ _, q => by cases q
  | _, _, .err _ _, q => by cases q
  | _, _, .scr _, q => by cases q
  | _, _, .dct _ _ _ _ _ _ _, q => by cases q
theorem Reps.kv : ∀ {v : List V} {d : List D}, Reps K S v d → keyKs d = true → KVs K S v (kDs d)
  | _, _, .nil, _ => .nil
  | _, _, .cons h r, q => by
    rw [keyKs, Bool.and_eq_true] at q
    exact .cons (Rep.kv h q.1) (Reps.kv r q.2)
end
/-- a dict's data and its entries -/
inductive LD (K : PySem.W.Frag) (S : Hp) : List (D × D) → DLs → Prop
  | nil : LD K S [] []
  | cons {d v : D} {b : Addr} {u : Value} {z : V} {acc : List (D × D)} {xs : DLs} : keyOk d → Rep K S (.ref b) d → RelV z u → Rep K S z v → LD K S acc xs → LD K S ((d, v) :: acc) ((kD d, b, u) :: xs)
theorem LD.mono {S' : Hp} (e : Ex S S') : ∀ {acc : List (D × D)} {xs : DLs}, LD K S acc xs → LD K S' acc xs
  | _, _, .nil => .nil
  | _, _, .cons h1 h2 h3 h4 t => .cons h1 (h2.mono e) h3 (h4.mono e) (LD.mono e t)
theorem LD.keys {H : Hp} (e : Ex S H) : ∀ {acc : List (D × D)} {xs : DLs}, LD K S acc xs → KeysIn K H xs
  | _, _, .nil => fun p h => by cases h
  | _, _, .cons h1 h2 h3 h4 t => fun p h => by
    rcases List.mem_cons.mp h with z | z
    · subst z
      exact ⟨(Rep.kv h2 h1.2.1).mono e, h1.2.2⟩
    · exact LD.keys e t p z
theorem LD.length : ∀ {acc : List (D × D)} {xs : DLs}, LD K S acc xs → xs.length = acc.length
  | _, _, .nil => rfl
  | _, _, .cons _ _ _ _ t => by rw [List.length_cons, List.length_cons, LD.length t]
def hasP (l : List (D × D)) (k : D) : Bool := l.any fun p => decide (kD p.1 = kD k)
def putP (l : List (D × D)) (k v : D) : List (D × D) := if hasP l k = true then l.map (fun p => if kD p.1 = kD k then (p.1, v) else p) else l ++ [(k, v)]
theorem at_isSome (k : NestedKey) : ∀ xs : DLs, (atKey xs k).isSome = xs.any fun x => decide (x.1 = k)
  | [] => rfl
  | x :: xs => by
    by_cases h : x.1 = k
    · simp [atKey, h]
    · have ih := at_isSome k xs
      simpa [atKey, h] using ih
theorem LD.has {k : D} : ∀ {acc : List (D × D)} {xs : DLs}, LD K S acc xs → (atKey xs (kD k)).isSome = hasP acc k := fun {acc xs} h => by
  rw [at_isSome, hasP]
  induction h with
  | nil => rfl
  | cons _ _ _ _ _ ih => rw [List.any_cons, List.any_cons, ih]
theorem LD.put {k v : D} {b : Addr} {u : Value} {z : V} (h1 : keyOk k) (h2 : Rep K S (.ref b) k) (h3 : RelV z u) (h4 : Rep K S z v) {acc : List (D × D)} {xs : DLs} (h : LD K S acc xs) : LD K S (putP acc k v) (storedH xs (kD k) b u) := by
  unfold putP storedH
  rw [← h.has]
  by_cases c : (atKey xs (kD k)).isSome = true
  · rw [if_pos c, if_pos c]
    clear c
    induction h with
    | nil => exact .nil
    | @cons d' v' b' u' z' acc' xs' k1 k2 k3 k4 t ih =>
      rw [List.map_cons, List.map_cons]
      by_cases e : kD d' = kD k
      · have e1 : putAt (kD k) u (kD d', b', u') = (kD d', b', u) := by
          unfold putAt
          rw [if_pos e]
        rw [e1, if_pos e]
        exact .cons k1 k2 h3 h4 ih
      · have e1 : putAt (kD k) u (kD d', b', u') = (kD d', b', u') := by
          unfold putAt
          rw [if_neg e]
        rw [e1, if_neg e]
        exact .cons k1 k2 k3 k4 ih
  · rw [if_neg c, if_neg c]
    clear c
    induction h with
    | nil => exact .cons h1 h2 h3 h4 .nil
    | cons k1 k2 k3 k4 _ ih => exact .cons k1 k2 k3 k4 ih
theorem LD.parts : ∀ {acc : List (D × D)} {xs : DLs}, LD K S acc xs → Reps K S (xs.map fun x => V.ref x.2.1) (acc.map (·.1)) ∧ xs.map (·.1) = kDs (acc.map (·.1)) ∧ (∀ d ∈ acc.map (·.1), keyOk d) ∧ ∃ ws, Vals ws (xs.map (·.2.2)) ∧ Reps K S ws (acc.map (·.2))
  | _, _, .nil => ⟨.nil, rfl, fun _ h => (by cases h), [], .nil, .nil⟩
  | _, _, .cons h1 h2 h3 h4 t => by
    obtain ⟨k1, k2, k3, ws, k4, k5⟩ := LD.parts t
    refine ⟨.cons h2 k1, by rw [List.map_cons, List.map_cons, kDs, k2], fun d hd => ?_, _, .cons h3 k4, .cons h4 k5⟩
    rcases List.mem_cons.mp hd with z | z
    · rw [z]
      exact h1
    · exact k3 d z
theorem LD.rep {D : Addr} {acc : List (DL.D × DL.D)} {xs : DLs} (h : LD K S acc xs) (e : S D = some (DicO D xs)) : Rep K S (.ref D) (.dct (acc.map (·.1)) (acc.map (·.2))) := by
  obtain ⟨k1, k2, k3, ws, k4, k5⟩ := h.parts
  exact .dct e rfl k1 k2 k3 k4 k5
/-- a dict that is read -/
theorem Rep.dic {v : V} {dk dv : List D} (h : Rep K S v (.dct dk dv)) : ∃ a xs, v = .ref a ∧ S a = some (DicO a xs) ∧ Reps K S (xs.map fun x => V.ref x.2.1) dk ∧ xs.map (·.1) = kDs dk ∧ (∀ d ∈ dk, keyOk d) ∧ ∃ ws, Vals ws (xs.map (·.2.2)) ∧ Reps K S ws dv := by
  cases h with
  | dct h h1 r h2 h0 h3 q =>
    subst h1
    exact ⟨_, _, rfl, h, r, h2, h0, _, h3, q⟩
theorem dic_keys {H : Hp} (e : Ex S H) : ∀ {xs : DLs} {dk : List D}, Reps K S (xs.map fun x => V.ref x.2.1) dk → xs.map (·.1) = kDs dk → (∀ d ∈ dk, keyOk d) → KeysIn K H xs
  | [], _, _, _, _ => fun p h => by cases h
  | x :: xs, [], r, _, _ => by cases r
  | x :: xs, d :: dk, r, q, ok => fun p h => by
    cases r with
    | cons r1 r2 =>
      rw [kDs, List.map_cons] at q
      injection q with q1 q2
      rcases List.mem_cons.mp h with z | z
      · subst z
        have o := ok d List.mem_cons_self
        rw [q1]
        exact ⟨(Rep.kv r1 o.2.1).mono e, o.2.2⟩
      · exact dic_keys e r2 q2 (fun y hy => ok y (List.mem_cons_of_mem _ hy)) p z
end
/-- k in d -/
def mInK (neg : Bool) (m0 : M2) : M2 := fun x y Q => match y with
  | .dct ks _ => keyOk x ∧ Q (.val (.bl (neg ^^ ks.any fun k => decide (kD k = kD x))))
  | _ => m0 x y Q
def rInO (neg : Bool) (r0 : R2) (K : PySem.W.Frag) : R2 := fun x y H Q => rInK neg K x y H Q ∨ r0 x y H Q
theorem opd_inK {neg : Bool} {K : PySem.W.Frag} {r0 : R2} {m0 : M2} (h0 : OpD K r0 m0) : OpD K (rInO neg r0 K) (mInK neg m0) := by
  intro S H x y dx dy Q Qv e hx hy m k
  unfold mInK at m
  split at m
  · rename_i ks vs
    obtain ⟨⟨⟨l, rfl⟩, ok, low⟩, q⟩ := m
    have ry : Rep K S y (.dct ks vs) := by
      rcases hy with h | ⟨_, _, _, _, h, _⟩
      · exact h
      · cases h
    have rx : Rep K S x (.tup l) := by
      rcases hx with h | ⟨_, _, _, _, h, _⟩
      · exact h
      · cases h
    obtain ⟨a, xs, rfl, h1, h2, h3, h4, _⟩ := ry.dic
    have isref : ∃ b, x = V.ref b := by
      cases rx
      exact ⟨_, rfl⟩
    obtain ⟨b, rfl⟩ := isref
    refine .inl ⟨a, b, kD (.tup l), xs, rfl, (Rep.kv rx ok).mono e, low, rfl, e _ _ h1, dic_keys e h2 h3 h4, ?_⟩
    have same : (atKey xs (kD (.tup l))).isSome = ks.any fun k => decide (kD k = kD (.tup l)) := by
      rw [at_isSome]
      have : (xs.map (·.1)).any (fun k => decide (k = kD (.tup l))) = (kDs ks).any fun k => decide (k = kD (.tup l)) := by rw [h3]
      rwa [List.any_map, kDs_map, List.any_map] at this
    rw [same]
    exact k _ _ _ _ (nwr_val e (.bl _)) q
  · exact .inr (h0 S H x y dx dy Q Qv e hx hy m k)
abbrev mInX : M2 := mInK false mIn
abbrev mNotInX : M2 := mInK true mNotIn
section
variable {X : Cx}
theorem op_inX (hu : X.A.units + 65 < cLine) : OpR X (compareOp .In) (rInO false (rInA X.K) X.K) := OpR.or (op_inK hu) (op_inA hu)
theorem op_notInX (hu : X.A.units + 65 < cLine) : OpR X (compareOp .NotIn) (rInO true (rNotInA X.K) X.K) := OpR.or (op_notInK hu) (op_notInA hu)
theorem opd_inX {K : PySem.W.Frag} : OpD K (rInO false (rInA K) K) mInX := opd_inK opd_in
theorem opd_notInX {K : PySem.W.Frag} : OpD K (rInO true (rNotInA K) K) mNotInX := opd_inK opd_notIn
def dicD (acc : List (D × D)) : D := .dct (acc.map (·.1)) (acc.map (·.2))
/-- {k: v for g in mi if t} -/
def dDcT (t : DTM) (mk mv : DM) (nxt : En → List (D × D) → Prop) (acc : List (D × D)) : En → Prop := fun env1 => t env1 fun env2 b => dIte b
      (mk env2 fun env3 r => keyOk r.data ∧ dKeep mv env3 fun env4 q => match q with
        | .val x => acc.length < sizeLine ∧ nxt env4 (putP acc r.data x)
        | _ => False)
      (nxt env2 acc)
def dDcL (vs : List Nat) (g : DGM) (t : DTM) (mk mv : DM) : List D → En → List (D × D) → (En → List (D × D) → Prop) → Prop
  | [], env, acc, Q => Q env acc
  | d :: r, env, acc, Q => g d env (dDcT t mk mv (fun env acc => dDcL vs g t mk mv r (wipeD env vs) acc Q) acc)
def dDc (mi : DIM) (vs : List Nat) (g : DGM) (t : DTM) (mk mv : DM) : DM := fun env Q => mi env fun env1 ds => plainAt env1 vs = true ∧ dDcL vs g t mk mv ds (wipeD env1 vs) [] fun env2 acc => Q (backD env1 env2 vs) (.val (dicD acc))
structure DcI (K : PySem.W.Frag) (B : Bs) (S1 H1 : Hp) (env1 : En) (σ : St) (vs : List Nat) (D : Addr) (S H : Hp) (env : En) (acc : List (DL.D × DL.D)) : Prop where
  sr : SR K ⟨S1, B.H0, B.pa⟩ S H env (wipe σ vs)
  go : Go (Ow B env1 σ) S1 H1 S H
  fz : Fz vs env1 env
  wp : ∀ i n, Has env i n → i ∉ vs
  dn : S D = none
  dh : ∃ xs, H D = some (DicO D xs) ∧ LD K S acc xs
theorem de_dc {kx vx tg iter : Expr} {ifs : List Expr} {scope : Scope} (own : List (Str × Nat)) {pos : Pos} {mi : DIM} {wi : TI} {g : DGM} {tg1 : Shared → Hp → Addr → List (Str × Addr) → List Addr → TG} {t : DTM} {tt : Shared → Hp → Addr → List (Str × Addr) → List Addr → TT} {mk mv : DM} {tk tv : Shared → Hp → Addr → List (Str × Addr) → List Addr → TE}
    (hu : X.A.units + 64 < cLine) (hc : X.calm = true) (hN : X.N.Nodup) (hi : DI X tg iter mi wi) (ok : BlkOk X.N X.env.scope scope own)
    (hg : ∀ (s : Shared) (H : Hp) (C : Addr) (cl : List (Str × Addr)) (fp : List Addr), DG (X.blk s H scope (compEnvC scope cl C X.env) fp) tg g (tg1 s H C cl fp)) (ht : ∀ (s : Shared) (H : Hp) (C : Addr) (cl : List (Str × Addr)) (fp : List Addr), DTs (X.blk s H scope (compEnvC scope cl C X.env) fp) ifs t (tt s H C cl fp))
    (hk : ∀ (s : Shared) (H : Hp) (C : Addr) (cl : List (Str × Addr)) (fp : List Addr), DE (X.blk s H scope (compEnvC scope cl C X.env) fp) kx mk (tk s H C cl fp)) (he : ∀ (s : Shared) (H : Hp) (C : Addr) (cl : List (Str × Addr)) (fp : List Addr), DE (X.blk s H scope (compEnvC scope cl C X.env) fp) vx mv (tv s H C cl fp))
    (i1 : TgIn (tg1 X.s_0 X.H_0 0 [] []) (own.map (·.2))) (i2 : GIn g (own.map (·.2))) (e1 : ∀ s H C cl fp, tg1 s H C cl fp = tg1 X.s_0 X.H_0 0 [] [] := by intros; rfl) (e2 : ∀ s H C cl fp, tt s H C cl fp = tt X.s_0 X.H_0 0 [] [] := by intros; rfl) (e3 : ∀ s H C cl fp, tk s H C cl fp = tk X.s_0 X.H_0 0 [] [] := by intros; rfl)
    (e4 : ∀ s H C cl fp, tv s H C cl fp = tv X.s_0 X.H_0 0 [] [] := by intros; rfl) (hs : ∀ x, foldedSetIterable iter X.env x = pure x := by intro _; rfl) :
    DE X (.DictComp kx vx [⟨tg, iter, ifs, 0⟩] scope pos) (dDc mi (own.map (·.2)) g t mk mv) (tDcN X.K wi (tg1 X.s_0 X.H_0 0 [] []) (tt X.s_0 X.H_0 0 [] []) (tk X.s_0 X.H_0 0 [] []) (tv X.s_0 X.H_0 0 [] []) (own.map (·.2))) := by
  have hg : ∀ (s : Shared) (H : Hp) (C : Addr) (cl : List (Str × Addr)) (fp : List Addr), DG (X.blk s H scope (compEnvC scope cl C X.env) fp) tg g (tg1 X.s_0 X.H_0 0 [] []) := fun s H C cl fp => e1 s H C cl fp ▸ hg s H C cl fp
  have ht : ∀ (s : Shared) (H : Hp) (C : Addr) (cl : List (Str × Addr)) (fp : List Addr), DTs (X.blk s H scope (compEnvC scope cl C X.env) fp) ifs t (tt X.s_0 X.H_0 0 [] []) := fun s H C cl fp => e2 s H C cl fp ▸ ht s H C cl fp
  have hk : ∀ (s : Shared) (H : Hp) (C : Addr) (cl : List (Str × Addr)) (fp : List Addr), DE (X.blk s H scope (compEnvC scope cl C X.env) fp) kx mk (tk X.s_0 X.H_0 0 [] []) := fun s H C cl fp => e3 s H C cl fp ▸ hk s H C cl fp
  have he : ∀ (s : Shared) (H : Hp) (C : Addr) (cl : List (Str × Addr)) (fp : List Addr), DE (X.blk s H scope (compEnvC scope cl C X.env) fp) vx mv (tv X.s_0 X.H_0 0 [] []) := fun s H C cl fp => e4 s H C cl fp ▸ he s H C cl fp
  clear e1 e2 e3 e4
  generalize tg1 X.s_0 X.H_0 0 [] [] = tg1 at *
  generalize tt X.s_0 X.H_0 0 [] [] = tt at *
  generalize tk X.s_0 X.H_0 0 [] [] = tk at *
  generalize tv X.s_0 X.H_0 0 [] [] = tv at *
  have g2 := (hg X.s_0 X.H_0 0 [] []).2
  have t2 := (ht X.s_0 X.H_0 0 [] []).2
  have k2 := (hk X.s_0 X.H_0 0 [] []).2
  have v2 := (de_keep (he X.s_0 X.H_0 0 [] [])).2
  refine ⟨pe_dcN hu hc hN hi.1 ok (fun c => (hg c.s c.H c.C c.cl c.fp).1) (fun c => (ht c.s c.H c.C c.cl c.fp).1) (fun c => (hk c.s c.H c.C c.cl c.fp).1) (fun c => (he c.s c.H c.C c.cl c.fp).1) hs, ?_⟩
  clear hg ht hk he
  generalize own.map (·.2) = vs at *
  intro B S H env σ Q Qv s q k
  refine hi.2 B S H env σ _ _ s q fun J H1 S1 env1 ds z it q1 => ?_
  obtain ⟨pl, q1⟩ := q1
  have r1 := z.sr
  intro D hD
  have hD0 := r1.hp0 hD
  have hDn := r1.now hD
  have hDs := r1.sp0 hD
  have sub : ∀ {S' H' : Hp} {env' : En} {acc : List (DL.D × DL.D)}, DcI X.K B S1 H1 env1 σ vs D S' H' env' acc → ∀ a, Ow ⟨S1, B.H0, B.pa⟩ env' (wipe σ vs) a → Ow B env1 σ a := fun {S' H' env' acc} I a h => by
    rcases h with h | ⟨i, l, h1, h2⟩ | ⟨i, l, h1⟩
    · exact .inl h
    · rcases I.fz.2 i (I.wp i _ h1) with e | ⟨l', e1, e2⟩
      · exact .inr (.inl ⟨i, l, e.symm.trans h1, (wipe_some h2).1⟩)
      · exact nomatch Has.inj h1 e2
    · rcases I.fz.2 i (I.wp i _ h1) with e | ⟨l', e1, e2⟩
      · exact .inr (.inr ⟨i, l, e.symm.trans h1⟩)
      · exact nomatch Has.inj h1 e2
  refine ⟨fun i m' H' => m' = ds.length - i ∧ i ≤ ds.length ∧ ∃ (S' : Hp) (env' : En) (acc : List (DL.D × DL.D)), DcI X.K B S1 H1 env1 σ vs D S' H' env' acc ∧ dDcL vs g t mk mv (ds.drop i) env' acc fun env2 acc => Q (backD env1 env2 vs) (.val (dicD acc)),
    ⟨_, rfl, Nat.zero_le _, S1, wipeD env1 vs, [], ⟨(r1.base.stray hDs hD0 hDn).wipe vs, Go.stray .refl hD, ⟨wipeD_length vs, fun i hi => .inl (wipeD_out hi)⟩, fun i n h => (wipeD_has h).2, hDs, [], upd_same, .nil⟩, q1⟩, ?_⟩
  rintro i m' H' ⟨rfl, hil, S', env', acc, I, l⟩
  have ex1 : Ex S1 S' := I.sr.ex0
  by_cases c : i < ds.length
  · refine .inr ⟨it.go i c S' H' ex1 I.sr.ex, fun H2 => ∃ (S2 : Hp) (env2 : En) (acc2 : List (DL.D × DL.D)), DcI X.K B S1 H1 env1 σ vs D S2 H2 env2 acc2 ∧ dDcL vs g t mk mv (ds.drop (i + 1)) env2 acc2 fun env2 acc => Q (backD env1 env2 vs) (.val (dicD acc)),
      fun H2 ⟨S2, env2, acc2, a1, a2⟩ => ⟨_, by omega, rfl, c, S2, env2, acc2, a1, a2⟩, fun x H2 y => ?_⟩
    have hd : ds[i]? = some ds[i] := List.getElem?_eq_getElem c
    obtain ⟨S2, n2, r2⟩ := it.yld i _ hd S' H' x H2 ex1 I.sr.ex y
    rw [List.drop_eq_getElem_cons c] at l
    let nxt : En → Prop := dDcT t mk mv (fun env acc => dDcL vs g t mk mv (ds.drop (i + 1)) (wipeD env vs) acc fun env2 acc => Q (backD env1 env2 vs) (.val (dicD acc))) acc
    refine i1 _ _ _ _ _ (fun σ3 H3 w3 h3 => ?_) (g2 ⟨S1, B.H0, B.pa⟩ S2 H2 env' (wipe σ vs) x _ _ (fun σ3 H3 => H3 = H2 ∧ ∃ env3, SR X.K ⟨S1, B.H0, B.pa⟩ S2 H2 env3 σ3 ∧ GFact vs env' env3 ∧ nxt env3) (I.sr.nw n2) r2 (i2 _ _ _ (fun env3 => GFact vs env' env3 ∧ nxt env3) (fun _ f q => ⟨f, q⟩) l) fun env3 σ3 s3 q3 => ⟨rfl, env3, s3, q3.1, q3.2⟩)
    obtain ⟨rfl, env3, s3, ⟨f1, f2, f3, f4⟩, q3⟩ := h3
    have w3 : wipe σ3 vs = wipe σ vs := w3.trans (wipe_wipe vs fun _ h => h)
    have sub3 : ∀ a, Ow ⟨S1, B.H0, B.pa⟩ env3 σ3 a → Ow B env1 σ a := fun a h => by
      rcases h with h | ⟨j, l', h1, h2⟩ | ⟨j, l', h1⟩
      · exact .inl h
      · have h1' := f3 j l' h1
        refine sub I a (.inr (.inl ⟨j, l', h1', ?_⟩))
        show (wipe σ vs)[j]? = _
        rw [← w3, wipe_out (I.wp j _ h1')]
        exact h2
      · exact sub I a (.inr (.inr ⟨j, l', f4 j a l' h1⟩))
    have go3 : Go (Ow B env1 σ) S1 H1 S2 H3 := I.go.trans (A' := fun _ => False) n2.go fun _ _ _ _ h => h
    obtain ⟨xs, hL, lk⟩ := I.dh
    have hL3 := n2.keep _ _ hL
    have dn3 : S2 D = none := n2.nw _ _ hL I.dn
    have fz3 : Fz vs env1 env3 := ⟨f1.trans I.fz.1, fun i hi => by
      rcases I.fz.2 i hi with e | ⟨l, e1, e2⟩
      · exact .inl ((f2 i hi).trans e)
      · exact .inr ⟨l, e1, (f2 i hi).trans e2⟩⟩
    have nd3 : ¬ Ow ⟨S1, B.H0, B.pa⟩ env3 σ3 D := fun h => hDn (sub3 D h)
    refine ⟨w3, ?_⟩
    refine t2 ⟨S1, B.H0, B.pa⟩ S2 H3 env3 σ3 _ _ s3 q3 fun ok4 H4 S4 env4 z4 q4 => ?_
    have sub4 : ∀ a, Ow ⟨S1, B.H0, B.pa⟩ env4 σ3 a → Ow B env1 σ a := fun a h => sub3 a (Ow.frz z4.fz h)
    have nd4 : ¬ Ow ⟨S1, B.H0, B.pa⟩ env4 σ3 D := fun h => hDn (sub4 D h)
    have go4 : Go (Ow B env1 σ) S1 H1 S4 H4 := go3.trans z4.go fun x o _ n w => n (sub3 x w)
    have hL4 := z4.go.keep _ _ hL3 nd3
    have dn4 := z4.go.nw _ _ hL3 nd3 dn3
    have lk4 : LD X.K S4 acc xs := (lk.mono n2.ex).mono z4.go.ex
    have fz4 : Fz vs env1 env4 := fz3.trans z4.fz
    cases ok4 with
    | false =>
      rw [if_neg Bool.false_ne_true]
      refine ⟨S4, wipeD env4 vs, acc, ⟨?_, go4, fz4.wipe, fun i n h => (wipeD_has h).2, dn4, xs, hL4, lk4⟩, dIte_f q4⟩
      have := z4.sr.wipe vs
      rw [w3] at this
      exact this
    | true =>
      rw [if_pos rfl]
      refine k2 ⟨S1, B.H0, B.pa⟩ S4 H4 env4 σ3 _ _ z4.sr (dIte_t q4) fun yk H5 S5 env5 r5 z5 q5 => ?_
      obtain ⟨kok, q5⟩ := q5
      have sub5 : ∀ a, Ow ⟨S1, B.H0, B.pa⟩ env5 σ3 a → Ow B env1 σ a := fun a h => sub4 a (Ow.frz z5.fz h)
      have nd5 : ¬ Ow ⟨S1, B.H0, B.pa⟩ env5 σ3 D := fun h => hDn (sub5 D h)
      have go5 : Go (Ow B env1 σ) S1 H1 S5 H5 := go4.trans z5.go fun x o _ n w => n (sub4 x w)
      have hL5 := z5.go.keep _ _ hL4 nd4
      have dn5 := z5.go.nw _ _ hL4 nd4 dn4
      have key5 : ∃ d5, r5 = .val d5 := by
        obtain ⟨⟨l, e⟩, _⟩ := kok
        cases r5 with
        | val d => exact ⟨d, rfl⟩
        | own _ => cases e
        | brw _ _ => cases e
        | pool => cases e
      obtain ⟨d5, rfl⟩ := key5
      have kok : keyOk d5 := kok
      have rk : Rep X.K S5 yk d5 := z5.res
      have isref : ∃ b, yk = V.ref b := by
        obtain ⟨⟨l0, rfl⟩, _⟩ := kok
        cases rk
        exact ⟨_, rfl⟩
      obtain ⟨b, rfl⟩ := isref
      refine v2 ⟨S1, B.H0, B.pa⟩ S5 H5 env5 σ3 _ _ z5.sr q5 fun v6 H6 S6 env6 r6 z6 q6 => ?_
      split at q6
      · rename_i d6
        have hL6 := z6.go.keep _ _ hL5 nd5
        have dn6 := z6.go.nw _ _ hL5 nd5 dn5
        have lk6 : LD X.K S6 acc xs := (lk4.mono z5.go.ex).mono z6.go.ex
        have rk6 : Rep X.K S6 (.ref b) d5 := rk.mono z6.go.ex
        refine ⟨b, kD d5, xs, rfl, hL6, lk6.keys z6.sr.ex, (Rep.kv rk6 kok.2.1).mono z6.sr.ex, kok.2.2, by rw [lk6.length]; exact q6.1, fun u ru => ⟨S6, wipeD env6 vs, putP acc d5 d6, ⟨?_, ?_, ((fz4.trans z5.fz).trans z6.fz).wipe, fun i n h => (wipeD_has h).2, dn6, _, upd_same, lk6.put kok rk6 ru z6.res⟩, q6.2⟩⟩
        · have := (z6.sr.stray (p := D) (o := DicO D (storedH xs (kD d5) b u)) dn6 hD0 fun h => nd5 (Ow.frz z6.fz h)).wipe vs
          rw [w3] at this
          exact this
        · exact (go5.trans z6.go fun x o _ n w => n (sub5 x w)).stray hD
      · exact q6.elim
  · have hi' : i = ds.length := by omega
    subst hi'
    rw [List.drop_length] at l
    refine .inl ⟨it.stop S' H' ex1 I.sr.ex, ?_⟩
    obtain ⟨xs, hL, lk⟩ := I.dh
    have sf := (r1.unbase I.sr).more (σ' := σ) (wipe_length σ vs).symm (fun i v h => (wipe_some h).1)
    have sb : SR X.K B S' H' (backD env1 env' vs) σ := SR.back r1 sf ex1 I.fz.1 vs pl
    have nd : ¬ Ow B (backD env1 env' vs) σ D := fun w => hDn (Ow.frz I.fz.back w)
    have e1 : Ex S' (upd S' D (DicO D xs)) := Ex.new I.dn
    have go : Go (Ow B env σ) S H S' H' := z.go.trans I.go fun x o _ n w => n (Ow.frz z.fz w)
    have oldD : H D = none := z.go.old D hD
    refine k _ H' (upd S' D (DicO D xs)) _ (.val _) ⟨sb.add I.dn hD0 nd hL, ⟨go.ex.trans e1, go.keep, fun b o h1 h2 h3 => ?_, go.old⟩, z.fz.trans I.fz.back, (lk.mono e1).rep upd_same⟩ l
    rw [upd_ne (fun c => by rw [c, oldD] at h1; cases h1)]
    exact go.nw b o h1 h2 h3
end
end DL
end

section
set_option Elab.async false
set_option linter.all false
set_option maxRecDepth 100000
set_option maxHeartbeats 4000000
namespace DL
open PySem L2 NS
open Evl (Ex)
/-- a class of the program's whose things isinstance knows -/
structure IsOwn (K : PySem.W.Frag) (C : Addr) : Prop where
  ha : PySem.W.findIn K (.ref C) "__class__" = some (some (.builtin "object.__class__"))
  hn : PySem.W.specialIn K (.builtin "object.__class__") "__get__" = some (some (.builtin "getset_descriptor.__get__"))
  ht : PySem.W.takesIn K (.builtin "object.__class__") = some true
  hm : PySem.W.mroIn K C (.type "object") = some true
  kit : PySem.W.kitOne K (.ref C) (.ref C) = some true
section
variable {X : Cx} {a b : Expr} {ma mb : DM} {ta tb : TE} {k : Nat} {f C : Addr} {fd : FuncData} {ps : List Str} {F : FM} {x : Str} {p p2 pos : Pos}
/-- isinstance(e, C), e a thing of the class -/
def dIsO (C : Addr) (m : DM) : DM := fun env Q => m env fun env' r => (∃ ns l, r = .val (.ins C ns l)) ∧ Q env' (.val (.bl true))
theorem de_isO (hC : Cls X.K C) (o : IsOwn X.K C) (hg : Gl X "isinstance") (hm : X.mg "isinstance" = none) (hv : bootBuiltins "isinstance" = some (.builtin "isinstance")) (hg2 : Gl X x) (hm2 : X.mg x = some (.ref C)) (ha : DE X a ma ta) (hdb : (x == ("__debug__" : Str)) = false := by decide)
    (he : starEach (a :: [.Name x p2]) X.env = (false, eval a X.env) :: starEach [.Name x p2] X.env := by rfl) (he2 : starEach (.Name x p2 :: []) X.env = (false, eval (.Name x p2) X.env) :: starEach [] X.env := by rfl) (hpl : (backTo pos (starEach [.Name x p2] X.env)).any (·.1) = false := by rfl) :
    DE X (.Call (.Name "isinstance" p) (a :: [.Name x p2]) [] pos) (dIsO C ma) (tCB (rIsi X.K) (tCons ta (tCons (tC (.ref C)) tNil))) := by
  refine ⟨pe_callB call_isi hg hm hv (pa_cons ha.1 (pa_cons (pe_glob hg2 hm2 rfl hdb) pa_nil he2) he) (by decide) (by decide) he hpl, fun B S H env σ Q Qv s q k => ?_⟩
  refine ha.2 B S H env σ _ _ s q fun v H1 S1 env1 r1 e1 q1 => ?_
  obtain ⟨⟨ns, l, rfl⟩, q1⟩ := q1
  have rv : Rep X.K S1 v (.ins C ns l) := e1.res
  cases rv with
  | ins h1 h2 h3 h4 => exact ⟨_, .ref C, _, _, true, rfl, .own C, .base (.ins (e1.sr.ex _ _ h1) hC o.ha o.hn o.ht o.hm), o.kit, k _ H1 S1 env1 (.val (.bl true)) ⟨e1.sr, e1.go, e1.fz, Rep.bl _⟩ q1⟩
/-- x == y by the class's own def -/
def rEqO (K : PySem.W.Frag) (C : Addr) (F : FM) : R2 := fun x y H Q => ∃ (a b dx dy : Addr) (fs gs : List (Str × V)), x = .ref a ∧ y = .ref b ∧ H a = some (.ins C dx fs) ∧ H b = some (.ins C dy gs) ∧ spF K 2 F [x, y] H (fun v H' => (∃ r, v = .bl r) ∧ Q v H') E0
def mEqO (C : Addr) (F : FM) : M2 := fun x y Q => match x, y with
  | .ins C1 _ _, .ins C2 _ _ => (C1 = C ∧ C2 = C) ∧ F [.val x, .val y] fun r => match r with
    | .val (.bl b) => Q (.val (.bl b))
    | _ => False
  | _, _ => False
theorem opd_eqO {K : PySem.W.Frag} : OpD K (rEqO K C F) (mEqO C F) := by
  intro S H x y dx dy Q Qv e hx hy m k
  unfold mEqO at m
  split at m
  · rename_i C1 n1 l1 C2 n2 l2
    obtain ⟨⟨rfl, rfl⟩, m⟩ := m
    have rx : Rep K S x (.ins C2 n1 l1) := by
      rcases hx with h | ⟨_, _, _, _, h, _⟩
      · exact h
      · cases h
    have ry : Rep K S y (.ins C2 n2 l2) := by
      rcases hy with h | ⟨_, _, _, _, h, _⟩
      · exact h
      · cases h
    have rx' := rx
    have ry' := ry
    cases rx with
    | @ins a _ dx' fs _ _ _ h1 h2 h3 h4 =>
      cases ry with
      | @ins b _ dy' gs _ _ _ g1 g2 g3 g4 =>
        refine ⟨a, b, dx', dy', fs, gs, rfl, rfl, e _ _ h1, e _ _ g1, S, none, [.val (.ins C2 n1 l1), .val (.ins C2 n2 l2)], _, e, (fun _ z => by cases z), .val rx' (.val ry' .nil), rfl, m, fun v H' S' r d q => ?_⟩
        split at q
        · rename_i bb
          have w : Rep K S' v (.bl bb) := d.ret
          have ev : v = .bl bb := by
            cases w
            rfl
          subst ev
          exact ⟨⟨bb, rfl⟩, k _ H' S' (.val (.bl bb)) ⟨⟨d.ex, fun u o z => d.keep u o z (fun c => by cases c), d.nw, d.sh⟩, .bl bb⟩ q⟩
        · exact q.elim
  · exact m.elim
theorem op_eqO {n : Nat} (hF : FnOk X.prog X.w X.K X.mg X.base CX0 n f fd ps (spF X.K 2 F)) (hs : Meth X.K C "__eq__" f) (hb : Binds X.K fd ps []) (hr : Room n X.A) : OpR X (compareOp .Eq) (rEqO X.K C F) := by
  intro pins s σ H x y v u Q I rx ry h
  obtain ⟨a, b, dx, dy, fs, gs, rfl, rfl, ha, hb', hsp⟩ := h
  cases rx
  cases ry
  obtain ⟨mA, J, _⟩ := ins_get I.hok ha
  obtain ⟨mB, J', _⟩ := ins_get I.hok hb'
  obtain ⟨od, J, _⟩ := J.look
  obtain ⟨od', J', _⟩ := J'.look
  obtain ⟨m, hFr⟩ := I.fr
  show wpAny (model X.prog X.w) X.A (richCompare .Eq (.ref a) (.ref b)) (EP X pins σ Q) X.xe s
  refine PySem.W.cmp_K (op := .Eq) (tb := .ref C) hr.units0 hFr I.ok.mod.kin J J'.type (by simp [PySem.W.notFirst]) hs.at_ hs.fn ?_
  have two : Vals [V.ref a, V.ref b] [Value.ref a, Value.ref b] := .cons rfl (.cons rfl .nil)
  have hl := hF.len _ _ _ _ hsp
  refine wpAny_call (codeAny_mono (hF.run X.A X.stack s H ⟨[.ref a, .ref b], []⟩ [.ref a, .ref b] [.ref a, .ref b] _ E0 hr I.env0 (by
    have z := hb s [.ref a, .ref b] I.kIn (by simpa using hl)
    simpa using z) two hsp) fun r s' hq => ?_)
  cases r with
  | error e => exact pass0 pins σ H s e s' I hq
  | ok fl =>
    cases fl with
    | ret t =>
      obtain ⟨z, H', I', rz, ⟨bb, ez⟩, q⟩ := I.after hq
      subst ez
      cases rz
      exact ⟨.bl bb, H', I', rfl, q⟩
    | next => exact False.elim hq
    | brk => exact False.elim hq
    | cont => exact False.elim hq
/-- (a, b)[c], a a list of one's own: it stays so -/
def dPick (ma mb mc : DM) : DM := fun env Q => ma env fun env1 r1 => mb env1 fun env2 r2 => mc env2 fun env3 r3 => match r1, r2, r3 with
  | .own l, .val d, .val (.int i) => (i = 0 ∧ Q env3 (.own l)) ∨ (i = 1 ∧ Q env3 (.val d))
  | _, _, _ => False
theorem de_pick {c : Expr} {mc : DM} {tc : TE} {kt : Nat} {pt : Pos} (ha : DE X a ma ta) (hb : DE X b mb tb) (hc : DE X c mc tc) (hs : PlainIx c) (hsa : starEach [a, b] X.env = (false, eval a X.env) :: starEach [b] X.env := by rfl) (hsb : starEach [b] X.env = (false, eval b X.env) :: starEach [] X.env := by rfl) :
    DE X (.Subscript (.Tuple [a, b] kt pt) c pos) (dPick ma mb mc) (tOp (rIx X.K) (tTup (tCons ta (tCons tb tNil))) tc) := by
  refine ⟨pe_ix ix_seq (pe_tup (pa_cons ha.1 (pa_cons hb.1 pa_nil hsb) hsa)) hc.1 hs, fun B S H env σ Q Qv s q k => ?_⟩
  refine ha.2 B S H env σ _ _ s q fun x H1 S1 env1 r1 e1 q1 => ?_
  refine hb.2 B S1 H1 env1 σ _ _ e1.sr q1 fun y H2 S2 env2 r2 e2 q2 => ?_
  refine ⟨by show 2 ≤ sizeLine; decide, fun T hT => ?_⟩
  have n3 : Nw S2 H2 S2 (upd H2 T (.tup [x, y])) := Nw.hid e2.sr.ex hT
  refine hc.2 B S2 _ env2 σ _ _ (e2.sr.nw n3) q2 fun z H4 S4 env4 r4 e4 q4 => ?_
  have hT4 : H4 T = some (.tup [x, y]) := e4.go.keep _ _ upd_same fun w => by
    have := e2.sr.now hT
    exact this w
  have t2 : TPo X.K B S H env σ S2 H2 env2 := e1.t.trans e2.t
  have t4 : TPo X.K B S H env σ S4 H4 env4 := (t2.nw n3).trans e4.t
  split at q4
  · rename_i l d i
    obtain ⟨p, vs, rfl, z1, z2, z3, z4, z5, z6⟩ := e1.res
    have nz2 := e2.go.nw _ _ z5 z4 z1
    have k2 := e2.go.keep _ _ z5 z4
    have no2 : ¬ Ow B env2 σ p := fun w => z4 (Ow.frz e2.fz w)
    have k3 := n3.keep _ _ k2
    have k4 := e4.go.keep _ _ k3 no2
    have nz4 := e4.go.nw _ _ k3 no2 nz2
    have rz : Rep X.K S4 z (.int i) := e4.res
    have ez : z = .int i := by
      cases rz
      rfl
    subst ez
    rcases q4 with ⟨rfl, q4⟩ | ⟨rfl, q4⟩
    · exact .inr (.inl ⟨T, [.ref p, y], 0, .ref p, rfl, rfl, SqT.of hT4, rfl, k _ H4 S4 env4 (.own l) ⟨t4.sr, t4.go, t4.fz, p, vs, rfl, nz4, z2, z3, fun w => no2 (Ow.frz e4.fz w), k4, (z6.mono e2.go.ex).mono e4.go.ex⟩ q4⟩)
    · have ry : Rep X.K S2 y d := e2.res
      exact .inr (.inl ⟨T, [.ref p, y], 1, y, rfl, rfl, SqT.of hT4, rfl, k _ H4 S4 env4 (.val d) ⟨t4.sr, t4.go, t4.fz, ry.mono e4.go.ex⟩ q4⟩)
  · exact q4.elim
end
end DL
end

section
set_option Elab.async false
set_option linter.all false
set_option maxRecDepth 100000
set_option maxHeartbeats 4000000
/-! del xs[i:] -/
namespace NS
open PySem PySem.Spec PyProof.Rows L2
theorem keep_low {α : Type} (sel : Nat → Bool) (i : Nat) : ∀ (xs : List α) (k : Nat), (∀ j, k ≤ j → j < k + xs.length → sel j = decide (i ≤ j)) → (xs.zipIdx k).filterMap (fun p => if sel p.2 = true then none else some p.1) = xs.take (i - k)
  | [], _, _ => by simp
  | x :: xs, k, h => by
    have hk := h k (Nat.le_refl _) (by simp)
    have ih := keep_low sel i xs (k + 1) fun j h1 h2 => h j (by omega) (by simp only [List.length_cons]; omega)
    rw [List.zipIdx_cons]
    by_cases c : i ≤ k
    · rw [List.filterMap_cons_none (by simp [hk, c]), ih]
      have e1 : i - k = 0 := by omega
      have e2 : i - (k + 1) = 0 := by omega
      rw [e1, e2]
      rfl
    · rw [List.filterMap_cons_some (b := x) (by simp [hk, c]), ih]
      have e1 : i - k = (i - (k + 1)) + 1 := by omega
      rw [e1, List.take_succ_cons]
section
variable {P : Program} {w : World} {A : Around} {E : Value → Shared → Prop} {s : Shared}
theorem del_tail {l q : Addr} {its : List Value} {n i : Nat} {tk : Tok} {Q : Unit → Shared → Prop} (hl : s.heap.get? l = some { cls := .type "list", data := .seq its.toArray n }) (hq : s.heap.IsSliceOf q (.int i tk) .none .none) (hi : i ≤ its.length) (hz : its.length ≤ sizeLine)
    (h : ∀ f : Array Value → Array Value, f its.toArray = (its.take i).toArray → Q () { s with heap := s.heap.update l (Obj.mapSeq f) }) : wpAny (model P w) A (delItem (.ref l) (.ref q)) Q E s := by
  obtain ⟨os, h1, h2, h3⟩ := id hq
  have ts : s.TypeIs (.ref q) "slice" := ⟨os, h1, h2⟩
  have tl : s.TypeIs (.ref l) "list" := ⟨_, hl, rfl⟩
  refine wpAny_delItem_slot tl (by decide) F.slot_list_delitem (wpAny_call_entry F.slot_list_delitem tl F.entry_list_delitem ?_ (F.args_list_delitem_2 _ _))
  show wpAny _ _ (Builtin.List.listSubscript? (.ref q) >>= _) _ _ s
  unfold Builtin.List.listSubscript?
  refine wpAny_bind (wpAny_bind (wpAny_specialOf ts slice_no_index ?_))
  rw [if_pos (by rfl)]
  refine wpAny_pure ?_
  show wpAny _ _ (typeOf (.ref q) >>= _) _ _ s
  refine wpAny_bind (wpAny_typeOf ts ?_)
  rw [if_neg (by decide)]
  try refine wpAny_bind (wpAny_pure ?_)
  rw [listSliceParts_eq]
  refine wpAny_bind (wpAny_bind (wpAny_field h1 h3 (x := .none) rfl (wpAny_bind (wpAny_listPart .none ?_))))
  rw [if_neg (show ¬ (rawPart none == rawInt 0) = true from Bool.false_ne_true)]
  refine wpAny_bind (wpAny_field h1 h3 (x := .int i tk) rfl (wpAny_bind (wpAny_listPart (.int _ _) ?_)))
  refine wpAny_bind (wpAny_field h1 h3 (x := .none) rfl (wpAny_bind (wpAny_listPart .none (wpAny_pure ?_))))
  refine wpAny_bind (m := Builtin.List.listItems (.ref l)) ?_
  unfold Builtin.List.listItems
  refine wpAny_bind (wpAny_seqItems hl rfl (wpAny_pure ?_))
  refine wpAny_bind (wpAny_of_eq (sliceIndices_raw (some (i : Int)) none none its.toArray.size (by simp)) ?_)
  have bd : sliceBounds (some (i : Int)) none none its.toArray.size = ((i : Int), (its.length : Int), 1) := by
    rw [List.size_toArray]
    simp only [sliceBounds, Option.getD_none]
    have c1 : ¬ ((i : Int) < 0) := by omega
    simp only [c1, if_false, show (1 : Int) > 0 by decide, if_true]
    congr 1
    omega
  rw [bd]
  dsimp only
  refine wpAny_bind (wpAny_rule ?_)
  have same : (List.filterMap (fun (x : Value × Nat) => if (fun k : Nat => (decide ((i : Int) ≤ (k : Int)) && decide ((k : Int) < (its.length : Int)) && ((k : Int) - (i : Int)) % 1 == 0)) x.2 = true then none else some x.1) its.zipIdx) = its.take i := by
    have z := keep_low (fun k : Nat => (decide ((i : Int) ≤ (k : Int)) && decide ((k : Int) < (its.length : Int)) && ((k : Int) - (i : Int)) % 1 == 0)) i its 0 fun j _ hj => by
      have h1 : (j : Int) < its.length := by omega
      have h2 : ((j : Int) - (i : Int)) % 1 = 0 := Int.emod_one _
      by_cases c : i ≤ j
      · have : (i : Int) ≤ j := by omega
        simp [c, this, h1, h2]
      · have : ¬ (i : Int) ≤ j := by omega
        simp [c, this]
    rwa [Nat.sub_zero] at z
  refine wpAny_bind (wpAny_updateSeq hl rfl (wpAny_bind (wpAny_letGo (wpAny_pure ⟨_, rfl, h _ ?_⟩))) (hz := by rw [List.size_toArray]; exact hz) (_hz' := ?_))
  · exact congrArg List.toArray same
  · refine Nat.le_trans (Nat.le_of_eq (congrArg Array.size (congrArg List.toArray same))) ?_
    rw [List.size_toArray, List.length_take]
    omega
end
/-- del xs[i:], 0 ≤ i ≤ len(xs) -/
def tDelT (to ti : TE) : TS := fun D σ H => to σ H fun x H1 => ti σ H1 fun y H2 => ∃ (l : Addr) (xs : List V) (i : Nat), x = .ref l ∧ y = .int i ∧ H2 l = some (.lst xs) ∧ i ≤ xs.length ∧ D.nx σ (upd H2 l (.lst (xs.take i)))
theorem ps_delT {X : Cx} {o i : Expr} {to ti : TE} {tpos p2 pos : Pos} (ho : PE X o to) (hi : PE X i ti) (hpt : evalPart (some i) X.env = eval i X.env := by rfl) : PS X (.Delete [.Subscript o (.Slice (some i) none none p2) tpos] pos) (tDelT to ti) := by
  refine ⟨fun pins s σ H D I h => ?_⟩
  refine wpAny_Delete (wpAny_deleteEach_cons (wpAny_delete_Subscript (thn (ho.run pins s σ H _ I h) fun u s1 ⟨x, H1, I1, rx, q1⟩ => wpAny_Slice ?_)))
  rw [hpt]
  refine thn (hi.run pins s1 σ H1 _ I1 q1) fun iv s2 ⟨y, H2, I2, ry, l, xs, k, ex, ey, hH, hk, q2⟩ => ?_
  rw [evalPart_none]
  refine wpAny_pure (wpAny_pure ?_)
  subst ex
  subst ey
  cases rx
  obtain ⟨t, rfl⟩ := (show ∃ t, iv = Value.int k t from ry)
  have I3 : Inv X pins σ H2 { s2 with heap := s2.heap.push { cls := .type "slice", data := .fields #[.int k t, .none, .none] } } := I2.kept (t' := s2.toks) fun b ob q => Heap.get?_push_of_some _ q
  obtain ⟨z, its, n, r, hl, e⟩ := I3.lstM hH
  refine del_tail e (Heap.IsSliceOf.new ..) (by omega) (by omega) fun f hf => wpAny_deleteEach_nil ⟨σ, _, I3.lset (its' := its.take k) (t' := s2.toks) hH e hf ?_ ?_, q2⟩
  · exact r.take k
  · rw [List.length_take]
    omega
end NS
namespace DL
open PySem L2 NS
open Evl (Ex)
def dDelT (i : Nat) (m : DM) : DSM := fun E env => match env[i]? with
  | some (some (.own _)) => m env fun env' r => match env'[i]?, r with
    | some (some (.own l)), .val (.int k) => (0 ≤ k ∧ k.toNat ≤ l.length) ∧ E.nx (env'.set i (some (.own (l.take k.toNat))))
    | _, _ => False
  | _ => False
theorem ds_delT {X : Cx} {i : Nat} {x : Str} {xp tpos p2 pos : Pos} {b : Expr} {mb : DM} {tb : TE} (hv : PE X (.Name x xp) (tVar i)) (hb : DE X b mb tb) (hpt : evalPart (some b) X.env = eval b X.env := by rfl) :
    DS X (.Delete [.Subscript (.Name x xp) (.Slice (some b) none none p2) tpos] pos) (dDelT i mb) (tDelT (tVar i) tb) := by
  refine ⟨ps_delT hv hb.1 hpt, fun B S H env σ E D s q e => ?_⟩
  unfold dDelT at q
  split at q
  · rename_i l0 c0
    obtain ⟨p, vs, hp, p1, p2, p3, p4⟩ := s.own i l0 c0
    refine ⟨.ref p, hp, ?_⟩
    refine hb.2 B S H env σ _ _ s q fun v H' S' env' r z q' => ?_
    split at q'
    · rename_i l k c
      obtain ⟨⟨k0, kl⟩, q'⟩ := q'
      obtain ⟨p', ws, y1, y2, y3, y4, y5⟩ := z.sr.own i l c
      cases Slt.ref hp y1
      have rv : Rep X.K S' v (.int k) := z.res
      cases rv
      obtain ⟨m, rfl⟩ : ∃ m : Nat, k = (m : Int) := ⟨k.toNat, by omega⟩
      rw [Int.toNat_natCast] at kl q'
      exact ⟨p, ws, m, rfl, rfl, y4, by rw [y5.length]; exact kl, e.nx S' _ _ σ (z.sr.put c hp (y5.take m)) q'⟩
    · exact q'.elim
  · exact q.elim
end DL
end

section
set_option Elab.async false
set_option linter.all false
set_option maxRecDepth 100000
set_option maxHeartbeats 4000000
namespace DL
open PySem L2 NS
mutual
theorem fits_eqv : ∀ (s : Sh) {d e : D}, fits s d = true → fits s e = true → PyData.eqv (kD d).data (kD e).data = true → d = e
  | .int, d, e, h, k, q => by
    obtain ⟨i, rfl⟩ := fits_int h
    obtain ⟨j, rfl⟩ := fits_int k
    have q : PyData.eqv (.int i) (.int j) = true := q
    simp [PyData.eqv] at q
    rw [q]
  | .row s, d, e, h, k, q => by
    obtain ⟨l, rfl, hl⟩ := fits_row h
    obtain ⟨m, rfl, kl⟩ := fits_row k
    rw [kD, kD, NestedKey.data, NestedKey.data, PyData.eqv] at q
    have all : ∀ {l m : List D}, (∀ x ∈ l, fits s x = true) → (∀ x ∈ m, fits s x = true) → PyData.eqvAll (NestedKey.datas (kDs l)) (NestedKey.datas (kDs m)) = true → l = m := by
      intro l
      induction l with
      | nil =>
        intro m _ _ q
        cases m with
        | nil => rfl
        | cons _ _ => simp [kDs, NestedKey.datas, PyData.eqvAll] at q
      | cons d l ih =>
        intro m h k q
        cases m with
        | nil => simp [kDs, NestedKey.datas, PyData.eqvAll] at q
        | cons e m =>
          rw [kDs, kDs, NestedKey.datas, NestedKey.datas, PyData.eqvAll, Bool.and_eq_true] at q
          rw [fits_eqv s (h d List.mem_cons_self) (k e List.mem_cons_self) q.1, ih (fun x hx => h x (List.mem_cons_of_mem _ hx)) (fun x hx => k x (List.mem_cons_of_mem _ hx)) q.2]
    rw [all hl kl q]
  | .tup ss, d, e, h, k, q => by
    obtain ⟨l, rfl, hl⟩ := fits_tup h
    obtain ⟨m, rfl, kl⟩ := fits_tup k
    rw [kD, kD, NestedKey.data, NestedKey.data, PyData.eqv] at q
    rw [fitss_eqv ss hl kl q]
theorem fitss_eqv : ∀ (s : List Sh) {d e : List D}, fitss s d = true → fitss s e = true → PyData.eqvAll (NestedKey.datas (kDs d)) (NestedKey.datas (kDs e)) = true → d = e
  | [], d, e, h, k, q => by rw [fitss_nil h, fitss_nil k]
  | s :: ss, d, e, h, k, q => by
    obtain ⟨x, xs, rfl, h1, h2⟩ := fitss_cons h
    obtain ⟨y, ys, rfl, k1, k2⟩ := fitss_cons k
    rw [kDs, kDs, NestedKey.datas, NestedKey.datas, PyData.eqvAll, Bool.and_eq_true] at q
    rw [fits_eqv s h1 k1 q.1, fitss_eqv ss h2 k2 q.2]
end
theorem toks_same {x y : PyData} (h : PySem.W.alike x y = true) (e : PySem.W.keyToks x = PySem.W.keyToks y) : PyData.eqv x y = true := by
  cases c : PyData.eqv x y with
  | true => rfl
  | false =>
    have z := (PySem.W.toks_eqv x y h).2 c [Sum.inl 0] [Sum.inl 1]
    rw [e, PySem.W.lex_pre, PyProof.Rows.lex_irrefl] at z
    exact absurd z (by decide)
theorem leD_anti {s : Sh} {a b : D} (ha : fits s a = true) (hb : fits s b = true) (h1 : leD a b = true) (h2 : leD b a = true) : a = b := by
  have q1 : PySem.W.dataLt (kD b).data (kD a).data = false := by simpa [leD] using h1
  have q2 : PySem.W.dataLt (kD a).data (kD b).data = false := by simpa [leD] using h2
  exact fits_eqv s ha hb (toks_same (fits_alike s ha hb) (PyProof.Rows.lex_total _ _ q2 q1))
theorem SortedOf.perm {ds l m : List D} (h : SortedOf ds l) (k : SortedOf ds m) : l.Perm m := (List.perm_ext_iff_of_nodup h.1 k.1).mpr fun d => (h.2.1 d).trans (k.2.1 d).symm
/-- there is one -/
theorem SortedOf.one {s : Sh} {ds l m : List D} (fit : ∀ d ∈ ds, fits s d = true) (h : SortedOf ds l) (k : SortedOf ds m) : l = m :=
  List.Perm.eq_of_pairwise (le := fun a b => leD a b = true) (fun a b ha hb h1 h2 => leD_anti (fit a ((h.2.1 a).mp ha)) (fit b ((k.2.1 b).mp hb)) h1 h2) h.2.2 k.2.2 (h.perm k)
theorem SortedOf.of {ds es l : List D} (h : SortedOf ds l) (e : ∀ d, d ∈ ds ↔ d ∈ es) : SortedOf es l := ⟨h.1, fun d => (h.2.1 d).trans (e d), h.2.2⟩
end DL
end

section
set_option Elab.async false
set_option linter.all false
set_option maxRecDepth 100000
set_option maxHeartbeats 4000000
namespace DL
open PySem PySem.Spec PyProof.Rows L2
open Evl (Ex)
/-- f(x, e), x a name's own list, lent -/
def dCallN1 (F : FM) (i : Nat) (mb : DM) : DM := fun env Q => (∃ l, env[i]? = some (some (.own l))) ∧ mb env fun env1 r => match env1[i]? with
  | some (some (.own l)) => argsOk [r] = true ∧ F [.val (.lst l), r] fun q => match q with
    | .val d => flatD d = true ∧ Q env1 (.val d)
    | .own l2 => l2.all flatD = true ∧ Q env1 (.own l2)
    | _ => False
  | _ => False
theorem de_callN1 {X : Cx} {b : Expr} {mb : DM} {tb : TE} {k : Nat} {f : Addr} {fd : FuncData} {ps : List Str} {F : FM} {x y : Str} {p py pos : Pos} {i : Nat} (hF : FnOk X.prog X.w X.K X.mg X.base CX0 k f fd ps (spF X.K 2 F)) (hr : Room k X.A) (hg : Gl X x) (hm : X.mg x = some (.ref f)) (hk : PySem.W.keepIn X.K (.ref f) = true) (hb : Binds X.K fd ps [])
    (hv : PE X (.Name y py) (tVar i)) (ha : DE X b mb tb) (hdb : (x == ("__debug__" : Str)) = false := by decide) (he : starEach (.Name y py :: [b]) X.env = (false, eval (.Name y py) X.env) :: starEach [b] X.env := by rfl) (hs : starEach (b :: []) X.env = (false, eval b X.env) :: starEach [] X.env := by rfl)
    (hpl : (backTo pos (starEach [b] X.env)).any (·.1) = false := by rfl) :
    DE X (.Call (.Name x p) [.Name y py, b] [] pos) (dCallN1 F i mb) (tCall (spF X.K 2 F) [] E0 (tCons (tVar i) (tCons tb tNil))) := by
  refine ⟨pe_call hF hr hg hm hk hb .nil pass0 (pa_cons hv (pa_cons ha.1 pa_nil hs) he) hdb he hpl, fun B S H env σ Q Qv s q k => ?_⟩
  obtain ⟨⟨l0, c0⟩, q⟩ := q
  obtain ⟨p0, ws0, g0, _⟩ := s.own i l0 c0
  refine ⟨.ref p0, g0, ha.2 B S H env σ _ _ s q fun v H1 S1 env1 r z q1 => ?_⟩
  split at q1
  · rename_i l g
    show spF X.K 2 F ([.ref p0, v] ++ []) H1 Qv E0
    rw [List.append_nil]
    obtain ⟨p', ws, h1, h2, h3, h4, h5⟩ := z.sr.own i l g
    cases Slt.ref g0 h1
    have lk : LkA X.K B S1 H1 [v] [r] := .cons z.look1 (fun d e => by
      subst e
      exact z.res) (fun e => by
      subst e
      exact z.res) .nil
    have e1 : Ex S1 (upd S1 p0 (.lst ws)) := Ex.new h2
    have exH : Ex (upd S1 p0 (.lst ws)) H1 := fun a o w => by
      by_cases c : a = p0
      · subst c
        rw [upd_same] at w
        cases w
        exact h4
      · rw [upd_ne c] at w
        exact z.sr.ex a o w
    have npp : ∀ a, B.pa = some a → a ≠ p0 := fun a w c => by
      obtain ⟨_, o, y⟩ := z.sr.pool a w
      rw [c, h3] at y
      cases y
    refine ⟨upd S1 p0 (.lst ws), B.pa, [.val (.lst l), r], _, exH, fun a w => ?_, .val (.lst upd_same (h5.mono e1)) (lk.args q1.1 |>.mono e1), rfl, q1.2, fun v H' S' r d qr => ?_⟩
    · obtain ⟨⟨y0, l1, cells, y1, y2, y3, y4, y5, y6, y7, y8⟩, _⟩ := z.sr.pool a w
      exact ⟨by rw [upd_ne (npp a w)]; exact y0, l1, cells, y1, y2, y3, y4, y5, y6, e1 _ _ y7, y8⟩
    · have s' := z.sr.lent g g0 h4 d
      have go : Go (Ow B env1 σ) S1 H1 (lose S' p0) H' := by
        refine ⟨fun a o w => ?_, fun a o w nz => d.keep a o w fun c => nz (.inl c), fun a o w nz u => ?_, d.old⟩
        · have ne : a ≠ p0 := fun c => by rw [c, h2] at w; cases w
          rw [lose_ne ne]
          exact d.ex a o (by rw [upd_ne ne]; exact w)
        · by_cases ne : a = p0
          · subst ne
            exact lose_same
          · rw [lose_ne ne]
            exact d.nw a o w (by rw [upd_ne ne]; exact u)
      have go' : Go (Ow B env σ) S H (lose S' p0) H' := z.go.trans go fun x o _ nz w => nz (Ow.frz z.fz w)
      have dr := d.ret
      cases r with
      | val d0 => exact k v H' (lose S' p0) env1 (.val d0) ⟨s', go', z.fz, flat_rep dr qr.1⟩ qr.2
      | own l2 =>
        obtain ⟨p2, us, rfl, k1, k2, k3, k4⟩ := dr
        have ne : p2 ≠ p0 := fun c => by
          have w : H1 p2 = none := k2
          rw [c, h4] at w
          cases w
        exact k _ H' (lose S' p0) env1 (.own l2) ⟨s', go', z.fz, p2, us, rfl, by rw [lose_ne ne]; exact k1, z.sr.hp0 k2, z.go.old p2 k2, fun w => z.sr.now k2 w, k3, flat_reps k4 qr.1⟩ qr.2
      | pool => exact qr.elim
      | brw j l2 => exact qr.elim
  · exact q1.elim
end DL
end

section
set_option Elab.async false
set_option linter.all false
set_option maxRecDepth 100000
set_option maxHeartbeats 4000000
/-! enumerate(t), t a tuple -/
namespace NS
open PySem PySem.Spec PyProof.Rows L2
abbrev tupIt (t : Addr) : Obj := { cls := .type "tuple_iterator", data := .fields #[.ref t, .int 0 0] }
theorem enum_new (t : Addr) (items : Array Value) :
    Meets (Builtin.«enumerate.__new__» ⟨[.type "enumerate", .ref t], []⟩) (fun _ R s => s.heap.IsTuple t items ∧
      R (.ok (.ret (.ref (s.heap.push (tupIt t)).objs.size))) { s with heap := (s.heap.push (tupIt t)).push { cls := .type "enumerate", data := .fields #[.none, .bool false, .ref s.heap.objs.size, rawInt 0, .none, .none] } }) :=
  .of_wp fun prog w A R s h => by
    obtain ⟨hp, g, d, tk, os⟩ := s
    obtain ⟨h1, h⟩ := h
    have sb := sub_enumerate
    have it : ∀ {A' : Around} {E : Value → Shared → Prop} {Q : Value → Shared → Prop}, Q (.ref hp.objs.size) ⟨hp.push (tupIt t), g, d, tk, os⟩ → wpAny (model prog w) A' (pyIter (.ref t)) Q E ⟨hp, g, d, tk, os⟩ :=
      fun q => (begins_tuple t items).iter prog w _ _ ⟨hp, g, d, tk, os⟩ _ h1 q
    wp_walk using it
    refine wpAny_stack_any fun st => wpAny_pure ?_
    split
    · rename_i c _ _ _ _ _
      cases (c == Value.type "enumerate")
      · wp_walk using it
        exact ⟨_, rfl, h⟩
      · wp_walk using it
        exact ⟨_, rfl, h⟩
    · wp_walk using it
      exact ⟨_, rfl, h⟩
section
variable {P : Program} {w : World} {A : Around} {E : Value → Shared → Prop} {s : Shared}
theorem enum_call {t : Addr} {items : Array Value} {Q : Value → Shared → Prop} (ht : s.heap.IsTuple t items) (h : ∀ h', IsEnum h' (s.heap.objs.size + 1) s.heap.objs.size 0 .none → h'.IsTupleIter s.heap.objs.size t 0 → h'.objs.size = s.heap.objs.size + 2 →
      (∀ b o, s.heap.get? b = some o → h'.get? b = some o) → Q (.ref (s.heap.objs.size + 1)) { s with heap := h' }) : wpAny (model P w) A (call (.type "enumerate") [.ref t]) Q E s := by
  refine callType_new F.called_enumerate (by decide) (F.typeCall_enumerate_1 _) (F.newCall_enumerate_1 _) (fun obj => F.args_object_init_2 obj _) F.entry_enumerate_new (enum_new t items) ⟨ht, ?_⟩
  have size : (s.heap.push (tupIt t)).objs.size = s.heap.objs.size + 1 := Heap.size_push ..
  show _ ∧ _
  rw [size]
  have e : IsEnum ((s.heap.push (tupIt t)).push { cls := .type "enumerate", data := .fields #[.none, .bool false, .ref s.heap.objs.size, rawInt 0, .none, .none] }) (s.heap.objs.size + 1) s.heap.objs.size 0 .none := by
    have z := Heap.get?_push_size (s.heap.push (tupIt t)) (o := { cls := .type "enumerate", data := .fields #[.none, .bool false, .ref s.heap.objs.size, rawInt 0, .none, .none] }) rfl
    rwa [size] at z
  exact ⟨⟨_, e, rfl⟩, h _ e ⟨_, Heap.get?_push_of_some _ (Heap.get?_push_size _ rfl), rfl, rfl⟩ (by rw [Heap.size_push, size]) fun b o x => Heap.get?_push_of_some _ (Heap.get?_push_of_some _ x)⟩
end
/-- the tuple at a, each item in a new pair -/
def IteT (K : PySem.W.Frag) (a : Addr) : It :=
  ⟨fun i H => ∃ (xs : List V) (x : V), SqT K H a xs ∧ xs[i]? = some x, fun i H v H' => ∃ T x, v = .ref T ∧ H T = none ∧ H' = upd H T (.tup [.int (i : Nat), x]) ∧ ∀ xs, SqT K H a xs → xs[i]? = some x, fun i H => ∃ xs : List V, SqT K H a xs ∧ xs.length = i⟩
theorem turn_enumT {P : Program} {w : World} {K : PySem.W.Frag} {elts : List Expr} {kk : Nat} {tpos : Pos} (a e it : Addr) :
    Turn P w K (.Tuple elts kk tpos) (IteT K a) [e, it] e (fun i h => (∃ old, IsEnum h e it ((i : Nat) : Int) old) ∧ h.IsTupleIter it a i ∧ e ≠ it) where
  mem := by simp
  obj := fun i h st b hb => by
    obtain ⟨⟨old, he⟩, ⟨o, ho, hc, hd⟩, _⟩ := st
    have two : b = e ∨ b = it := by simpa using hb
    rcases two with z | z
    · rw [z]
      exact ⟨_, he, fun v q => nomatch q⟩
    · rw [z]
      exact ⟨o, ho, fun v q => by rw [hd] at q; cases q⟩
  keep := fun i h h' st k => let ⟨⟨old, he⟩, hi, hne⟩ := st; ⟨⟨old, k e (by simp) _ he⟩, hi.at fun o q => k it (by simp) o q, hne⟩
  item := by
    intro X hP hw hK hc i pins s σ H E I hf st hg
    subst hP hw hK
    obtain ⟨⟨old, he⟩, hit, hne⟩ := st
    obtain ⟨xs, x, hq, hx⟩ := hg
    obtain ⟨its, rv, p, hz⟩ := I.tuple hq
    obtain ⟨u, hu, ru⟩ := rv.get hx
    have le : e < s.heap.objs.size := Heap.lt_size he
    have li : it < s.heap.objs.size := by
      obtain ⟨_, q, _⟩ := hit
      exact Heap.lt_size q
    have nai : a ≠ it := fun z => by
      obtain ⟨o1, q1, q2, _⟩ := p
      obtain ⟨o2, k1, k2, _⟩ := hit
      rw [z, k1] at q1
      cases q1
      rw [k2] at q2
      exact absurd (Value.type.inj q2) (by decide)
    have nea : e ∉ [it, a] := fun z => by
      simp only [List.mem_cons, List.not_mem_nil, or_false] at z
      rcases z with z | z
      · exact hne z
      · obtain ⟨o1, q1, q2, _⟩ := p
        have he' : s.heap.get? e = some _ := he
        rw [z, q1] at he'
        cases he'
        exact absurd (Value.type.inj q2) (by decide)
    have D := Draws.tuple (prog := X.prog) (w := X.w) (A := X.A.in1) (I.ok.hd hc) it a nai its.toArray
    have lt : i < its.toArray.size := by
      rw [List.size_toArray]
      exact (List.getElem?_eq_some_iff.mp hu).1
    refine wpAny_pyNext_enum_itemD D he ⟨hit, p⟩ lt hne nea fun y h' tk hy ho st' hT hsz hk => ?_
    have ey : y = u := by
      have z : its[i]? = some y := by simpa using hy
      rw [hu] at z
      exact (Option.some.inj z).symm
    subst ey
    refine ⟨_, rfl, wpAny_letOwnedTupleGo_enum (s := { s with heap := h', toks := tk + 1 }) ho fun h'' he' sb => ?_⟩
    have hT2 : h''.get? s.heap.objs.size = some { cls := .type "tuple", data := .seq #[.int i tk, y] } := (sb.2 _ (Nat.ne_of_gt le)).trans hT
    have new : ObjOk X.prog X.w (upd H s.heap.objs.size (.tup [.int (i : Nat), x])) h'' s.heap.objs.size (.tup [.int (i : Nat), x]) :=
      ⟨by show 2 ≤ sizeLine; decide, [.int i tk, y], .cons ⟨_, rfl⟩ (.cons ru .nil), ⟨_, hT2, rfl, _, rfl⟩⟩
    have I1 : Inv X pins σ (upd H s.heap.objs.size (.tup [.int (i : Nat), x])) { s with heap := h'', toks := tk + 1 } :=
      I.turnedNew (ch := [e, it]) (fun b ob hb q => (sb.2 b (fun z => hb (by simp [z]))).trans (hk b ob (fun z => hb (by simp [z])) (fun z => hb (by simp [z])) q)) hf (Nat.le_refl _) new
    refine ⟨.ref s.heap.objs.size, _, I1, rfl, ⟨_, x, rfl, I.hok.fresh (Nat.le_refl _), rfl, fun ys hy => by rw [I.tuple_inj hy hq]; exact hx⟩, ⟨⟨y, ?_⟩, st'.1.at fun o q => (sb.2 it (Ne.symm hne)).trans q, hne⟩, fun b hb => ?_⟩
    · have e1 : ((i + 1 : Nat) : Int) = (i : Int) + 1 := by omega
      rw [e1]
      exact he'
    · have low : b < s.heap.objs.size := by
        have two : b = e ∨ b = it := by simpa using hb
        rcases two with z | z
        · rw [z]
          exact le
        · rw [z]
          exact li
      rw [upd_ne (Nat.ne_of_lt low)]
      exact (hf b hb).1
  done := by
    intro X hP hw hK hc i pins s σ H E I hf st hg
    subst hP hw hK
    obtain ⟨⟨old, he⟩, hit, hne⟩ := st
    obtain ⟨xs, hq, hx⟩ := hg
    obtain ⟨its, rv, p, hz⟩ := I.tuple hq
    obtain ⟨f0, f1, f2, f3, f4, f5⟩ := hf it (by simp)
    have hl := rv.length
    have nai : a ≠ it := fun z => by
      obtain ⟨o1, q1, q2, _⟩ := p
      obtain ⟨o2, k1, k2, _⟩ := hit
      rw [z, k1] at q1
      cases q1
      rw [k2] at q2
      exact absurd (Value.type.inj q2) (by decide)
    have D := Draws.tuple (prog := X.prog) (w := X.w) (A := X.A.in1) (I.ok.hd hc) it a nai its.toArray
    have en : i = its.toArray.size := by rw [List.size_toArray]; omega
    subst en
    exact wpAny_pyNext_enum_endD D he ⟨hit, p⟩ fun h' eb => ⟨rfl, I.turned (t' := s.toks) (fun b o hb q => eb b o hb q) f0 f1 f3 f4 f5⟩
  self := fun A i s Q E st h => let ⟨⟨_, he⟩, _⟩ := st; wpAny_pyIter_enum he h
def iEnumT (K : PySem.W.Frag) (ta : TA) : TI := fun σ H R => ta σ H fun vs H1 => ∃ a xs, vs = [.ref a] ∧ ((SqL K H1 a xs ∧ R (Ite K a) H1) ∨ (SqT K H1 a xs ∧ R (IteT K a) H1))
theorem pi_enumT {X : Cx} {e : Expr} {ta : TA} {p pos tpos : Pos} {elts : List Expr} {kk : Nat} (hg : Gl X "enumerate") (hm : X.mg "enumerate" = none) (ha : PA X [e] ta) (hs : starEach [e] X.env = [(false, eval e X.env)] := by rfl) :
    PI X (.Tuple elts kk tpos) (.Call (.Name "enumerate" p) [e] [] pos) (iEnumT X.K ta) := by
  refine ⟨fun pins s σ H R I h => ?_⟩
  refine Call_ (ld_blt I hg hm boot_enumerate (PyProof.Rows.callWith_type1 (thn (ha.run pos pins s σ H _ I h) fun us s1 ⟨vs, H1, I1, r1, q1⟩ => ?_) hs rfl))
  obtain ⟨a, xs, ex, hq⟩ := q1
  subst ex
  cases r1 with
  | cons r rr =>
    cases rr
    cases r
    have fin : ∀ b ∈ [s1.heap.objs.size + 1, s1.heap.objs.size], FpOk X pins H1 b := fun b hb => by
      have e' : b = s1.heap.objs.size + 1 ∨ b = s1.heap.objs.size := by simpa using hb
      have hle : s1.heap.objs.size ≤ b := by
        rcases e' with z | z
        · rw [z]
          exact Nat.le_add_right _ _
        · rw [z]
          exact Nat.le_refl _
      exact I1.fpOk hle (I1.hok.fresh hle)
    rcases hq with ⟨hq, q⟩ | ⟨hq, q⟩
    · obtain ⟨its, rv, p', hz⟩ := I1.list hq
      refine call_enumerate_list p'.isList fun h' he hit hsz hk => wpAny_pyIter_enum he ?_
      have I2 : Inv X pins σ H1 { s1 with heap := h' } := I1.kept (t' := s1.toks) hk
      exact ⟨s1.heap.objs.size + 1, [s1.heap.objs.size + 1, s1.heap.objs.size], _, _, H1, rfl, I2, turn_enum a (s1.heap.objs.size + 1) s1.heap.objs.size, ⟨⟨.none, he⟩, hit, Nat.succ_ne_self _⟩, fin, q⟩
    · obtain ⟨its, rv, p', hz⟩ := I1.tuple hq
      refine enum_call p' fun h' he hit hsz hk => wpAny_pyIter_enum he ?_
      have I2 : Inv X pins σ H1 { s1 with heap := h' } := I1.kept (t' := s1.toks) hk
      exact ⟨s1.heap.objs.size + 1, [s1.heap.objs.size + 1, s1.heap.objs.size], _, _, H1, rfl, I2, turn_enumT a (s1.heap.objs.size + 1) s1.heap.objs.size, ⟨⟨.none, he⟩, hit, Nat.succ_ne_self _⟩, fin, q⟩
end NS
end

section
set_option Elab.async false
set_option linter.all false
set_option maxRecDepth 100000
set_option maxHeartbeats 4000000
namespace DL
open PySem PySem.Spec PyProof.Rows L2
open Evl (Ex)
/-- enumerate over a list or a tuple -/
def dEnumA (m : DM) : DIM := fun env Q => dKeep m env fun env' r => match r with
  | .val (.lst l) => Q env' (enumD 0 l)
  | .val (.tup l) => Q env' (enumD 0 l)
  | _ => False
theorem di_enumA {elts : List Expr} {kk : Nat} {p tpos : Pos} (hg : Gl X "enumerate") (hm : X.mg "enumerate" = none) (ha : DE X a ma ta) (hs : starEach [a] X.env = [(false, eval a X.env)] := by rfl) :
    DI X (.Tuple elts kk tpos) (.Call (.Name "enumerate" p) [a] [] pos) (dEnumA ma) (NS.iEnumT X.K (tCons ta tNil)) := by
  obtain ⟨h1, h2⟩ := de_keep ha
  refine ⟨NS.pi_enumT hg hm (pa_cons h1 pa_nil (by rw [hs] <;> rfl)) hs, fun B S H env σ Q R s q k => h2 B S H env σ _ _ s q fun v H' S' env' r z q' => ?_⟩
  split at q'
  · rename_i l
    have zr : Rep X.K S' v (.lst l) := z.res
    cases zr with
    | lst h r =>
      rename_i p0 vs
      refine ⟨_, vs, rfl, .inl ⟨SqL.of (z.sr.ex _ _ h), k _ H' S' env' _ z.t ⟨fun i hi S2 H2 e1 e2 => ?_, fun i d hd S2 H2 x H3 e1 e2 y => ?_, fun S2 H2 e1 e2 => ?_⟩ q'⟩⟩
      · rw [enumD_length] at hi
        have hi' : i < vs.length := by rw [r.length]; exact hi
        exact ⟨vs, vs[i], SqL.of (e2 _ _ (e1 _ _ h)), List.getElem?_eq_getElem _⟩
      · obtain ⟨T, x', rfl, hT, rfl, y⟩ := y
        rw [enumD_get, Nat.zero_add] at hd
        cases q : l[i]? with
        | none => rw [q] at hd; cases hd
        | some d0 =>
          rw [q] at hd
          cases hd
          obtain ⟨w, w1, w2⟩ := r.get q
          have q2 := y vs (SqL.of (e2 _ _ (e1 _ _ h)))
          rw [w1] at q2
          cases q2
          exact ⟨_, (nwr_tup (K := X.K) e2 hT (.cons (.int _) (.cons (w2.mono e1) .nil))).1, (nwr_tup (K := X.K) e2 hT (.cons (.int _) (.cons (w2.mono e1) .nil))).2⟩
      · rw [enumD_length]
        exact ⟨vs, SqL.of (e2 _ _ (e1 _ _ h)), by rw [r.length]; exact Nat.le_refl _⟩
  · rename_i l
    have zr : Rep X.K S' v (.tup l) := z.res
    cases zr with
    | tup h r =>
      rename_i p0 vs
      refine ⟨_, vs, rfl, .inr ⟨h.ext z.sr.ex, k _ H' S' env' _ z.t ⟨fun i hi S2 H2 e1 e2 => ?_, fun i d hd S2 H2 x H3 e1 e2 y => ?_, fun S2 H2 e1 e2 => ?_⟩ q'⟩⟩
      · rw [enumD_length] at hi
        have hi' : i < vs.length := by rw [r.length]; exact hi
        exact ⟨vs, vs[i], (h.ext e1).ext e2, List.getElem?_eq_getElem _⟩
      · obtain ⟨T, x', rfl, hT, rfl, y⟩ := y
        rw [enumD_get, Nat.zero_add] at hd
        cases q : l[i]? with
        | none => rw [q] at hd; cases hd
        | some d0 =>
          rw [q] at hd
          cases hd
          obtain ⟨w, w1, w2⟩ := r.get q
          have q2 := y vs ((h.ext e1).ext e2)
          rw [w1] at q2
          cases q2
          exact ⟨_, (nwr_tup (K := X.K) e2 hT (.cons (.int _) (.cons (w2.mono e1) .nil))).1, (nwr_tup (K := X.K) e2 hT (.cons (.int _) (.cons (w2.mono e1) .nil))).2⟩
      · rw [enumD_length]
        exact ⟨vs, (h.ext e1).ext e2, by rw [r.length]⟩
  · exact q'.elim
end DL
end

section
set_option Elab.async false
set_option linter.all false
set_option maxRecDepth 100000
set_option maxHeartbeats 4000000
namespace G
open PySem PySem.Spec PyProof.Rows L2 DL
def top (i : Nat) : Stmt := PySem.Challenge.pw_someobjects_k10_who_objects.main.body.getD i (.Pass ⟨0, 0, 0, 0⟩)
abbrev s_people_of : Stmt := top 5
abbrev N_people_of : List Str := ["tree", "told", "roots", "letter", "many", "own", "children"]
theorem sc_people_of : FnScope N_people_of ["tree"] (defScope s_people_of) := ⟨rfl, rfl, rfl, by decide +kernel, rfl, by decide +kernel, by decide +kernel⟩
abbrev s_nodes_from_below : Stmt := top 6
abbrev N_nodes_from_below : List Str := ["tree", "nodes", "waiting", "letter", "children"]
theorem sc_nodes_from_below : FnScope N_nodes_from_below ["tree"] (defScope s_nodes_from_below) := ⟨rfl, rfl, rfl, by decide +kernel, rfl, by decide +kernel, by decide +kernel⟩
abbrev s_move_fits : Stmt := top 17
abbrev N_move_fits : List Str := ["letters", "labels", "letter", "children", "label", "told"]
theorem sc_move_fits : FnScope N_move_fits ["letters", "labels", "letter", "children", "label"] (defScope s_move_fits) := ⟨rfl, rfl, rfl, by decide +kernel, rfl, by decide +kernel, by decide +kernel⟩
abbrev s_check_parts : Stmt := top 16
abbrev N_check_parts : List Str := ["letters", "labels", "moves", "ends", "letter", "children", "label"]
theorem sc_check_parts : FnScope N_check_parts ["letters", "labels", "moves", "ends"] (defScope s_check_parts) := ⟨rfl, rfl, rfl, by decide +kernel, rfl, by decide +kernel, by decide +kernel⟩
abbrev s_Machine_initdd : Stmt := inClass (top 15) 0
abbrev N_Machine_initdd : List Str := ["self", "letters", "labels", "moves", "ends", "letter", "children", "label"]
theorem sc_Machine_initdd : FnScope N_Machine_initdd ["self", "letters", "labels", "moves", "ends"] (defScope s_Machine_initdd) := ⟨rfl, rfl, rfl, by decide +kernel, rfl, by decide +kernel, by decide +kernel⟩
abbrev s_Machine_eqdd : Stmt := inClass (top 15) 1
abbrev N_Machine_eqdd : List Str := ["self", "other"]
theorem sc_Machine_eqdd : FnScope N_Machine_eqdd ["self", "other"] (defScope s_Machine_eqdd) := ⟨rfl, rfl, rfl, by decide +kernel, rfl, by decide +kernel, by decide +kernel⟩
abbrev s_known_moves : Stmt := top 11
abbrev N_known_moves : List Str := ["machine", "move"]
theorem sc_known_moves : FnScope N_known_moves ["machine"] (defScope s_known_moves) := ⟨rfl, rfl, rfl, by decide +kernel, rfl, by decide +kernel, by decide +kernel⟩
abbrev s_without_move : Stmt := top 10
abbrev N_without_move : List Str := ["machine", "people", "labels", "moves", "told", "at", "letter", "children", "below", "child"]
theorem sc_without_move : FnScope N_without_move ["machine", "people", "labels"] (defScope s_without_move) := ⟨rfl, rfl, rfl, by decide +kernel, rfl, by decide +kernel, by decide +kernel⟩
abbrev s_objectors : Stmt := top 8
abbrev N_objectors : List Str := ["machine", "tree", "labels", "people", "told", "root"]
theorem sc_objectors : FnScope N_objectors ["machine", "tree", "labels"] (defScope s_objectors) := ⟨rfl, rfl, rfl, by decide +kernel, rfl, by decide +kernel, by decide +kernel⟩
abbrev s_ring_objectors : Stmt := top 9
abbrev N_ring_objectors : List Str := ["machine", "ring", "labels", "at", "letter"]
theorem sc_ring_objectors : FnScope N_ring_objectors ["machine", "ring", "labels"] (defScope s_ring_objectors) := ⟨rfl, rfl, rfl, by decide +kernel, rfl, by decide +kernel, by decide +kernel⟩
abbrev s_law_draw : Stmt := top 20
abbrev N_law_draw : List Str := ["pool", "size", "cell", "value"]
theorem sc_law_draw : FnScope N_law_draw ["pool", "size"] (defScope s_law_draw) := ⟨rfl, rfl, rfl, by decide +kernel, rfl, by decide +kernel, by decide +kernel⟩
abbrev s_law_same : Stmt := top 21
abbrev N_law_same : List Str := ["actual", "due", "k"]
theorem sc_law_same : FnScope N_law_same ["actual", "due"] (defScope s_law_same) := ⟨rfl, rfl, rfl, by decide +kernel, rfl, by decide +kernel, by decide +kernel⟩
abbrev s_law_machine : Stmt := top 22
abbrev N_law_machine : List Str := ["pool", "letters", "labels", "many", "moves", "k", "count", "children", "ends", "label", "turn"]
theorem sc_law_machine : FnScope N_law_machine ["pool", "letters", "labels", "many"] (defScope s_law_machine) := ⟨rfl, rfl, rfl, by decide +kernel, rfl, by decide +kernel, by decide +kernel⟩
abbrev s_law_tree : Stmt := top 23
abbrev N_law_tree : List Str := ["pool", "letters", "left", "letter", "count", "children", "k"]
theorem sc_law_tree : FnScope N_law_tree ["pool", "letters", "left"] (defScope s_law_tree) := ⟨rfl, rfl, rfl, by decide +kernel, rfl, by decide +kernel, by decide +kernel⟩
abbrev s_law_nodes : Stmt := top 24
abbrev N_law_nodes : List Str := ["tree", "found", "places", "child", "below", "shift", "letter", "children", "own"]
theorem sc_law_nodes : FnScope N_law_nodes ["tree"] (defScope s_law_nodes) := ⟨rfl, rfl, rfl, by decide +kernel, rfl, by decide +kernel, by decide +kernel⟩
abbrev s_law_row_tree : Stmt := top 25
abbrev N_law_row_tree : List Str := ["row", "tree", "letter"]
theorem sc_law_row_tree : FnScope N_law_row_tree ["row"] (defScope s_law_row_tree) := ⟨rfl, rfl, rfl, by decide +kernel, rfl, by decide +kernel, by decide +kernel⟩
abbrev s_law_shape : Stmt := top 26
abbrev N_law_shape : List Str := ["pool", "letters", "most", "k"]
theorem sc_law_shape : FnScope N_law_shape ["pool", "letters", "most"] (defScope s_law_shape) := ⟨rfl, rfl, rfl, by decide +kernel, rfl, by decide +kernel, by decide +kernel⟩
abbrev s_law_objects : Stmt := top 27
abbrev N_law_objects : List Str := ["machine", "nodes", "labels", "found", "at", "letter", "children", "good", "child"]
theorem sc_law_objects : FnScope N_law_objects ["machine", "nodes", "labels"] (defScope s_law_objects) := ⟨rfl, rfl, rfl, by decide +kernel, rfl, by decide +kernel, by decide +kernel⟩
abbrev s_law_made : Stmt := top 28
abbrev N_law_made : List Str := ["machine"]
theorem sc_law_made : FnScope N_law_made ["machine"] (defScope s_law_made) := ⟨rfl, rfl, rfl, by decide +kernel, rfl, by decide +kernel, by decide +kernel⟩
abbrev s_law_pool : Stmt := top 19
abbrev N_law_pool : List Str := ["script", "budget"]
theorem sc_law_pool : FnScope N_law_pool ["script", "budget"] (defScope s_law_pool) := ⟨rfl, rfl, rfl, by decide +kernel, rfl, by decide +kernel, by decide +kernel⟩
abbrev s_law : Stmt := top 29
abbrev N_law : List Str := ["script", "pool", "machine", "made", "turn", "tree", "nodes", "labels", "passed", "due", "found", "ring", "k"]
theorem sc_law : FnScope N_law ["script"] (defScope s_law) := ⟨rfl, rfl, rfl, by decide +kernel, rfl, by decide +kernel, by decide +kernel⟩
structure Ad where
  f_people_of : Addr
  d_people_of : FuncData
  f_nodes_from_below : Addr
  d_nodes_from_below : FuncData
  f_move_fits : Addr
  d_move_fits : FuncData
  f_check_parts : Addr
  d_check_parts : FuncData
  f_Machine_initdd : Addr
  d_Machine_initdd : FuncData
  f_Machine_eqdd : Addr
  d_Machine_eqdd : FuncData
  f_known_moves : Addr
  d_known_moves : FuncData
  f_without_move : Addr
  d_without_move : FuncData
  f_objectors : Addr
  d_objectors : FuncData
  f_ring_objectors : Addr
  d_ring_objectors : FuncData
  f_law_draw : Addr
  d_law_draw : FuncData
  f_law_same : Addr
  d_law_same : FuncData
  f_law_machine : Addr
  d_law_machine : FuncData
  f_law_tree : Addr
  d_law_tree : FuncData
  f_law_nodes : Addr
  d_law_nodes : FuncData
  f_law_row_tree : Addr
  d_law_row_tree : FuncData
  f_law_shape : Addr
  d_law_shape : FuncData
  f_law_objects : Addr
  d_law_objects : FuncData
  f_law_made : Addr
  d_law_made : FuncData
  f_law_pool : Addr
  d_law_pool : FuncData
  f_law : Addr
  d_law : FuncData
  t_MOST_CHILDREN : Tok
  t_MOST_LETTERS : Tok
  t_MOST_LABELS : Tok
  Machine : Addr
  i_BadMachine : Addr
  x_BadMachine : Addr
def m_people_of (F_nodes_from_below : FM) : DSM :=
  (dSeq (dSet 1 (dLst dNil))
  (dSeq (dSet 2 (dLst dNil))
  (dSeq (dFor (dOver (dCall F_nodes_from_below (dCons (dKeep (dVar 0)) dNil))) (dTg 2 (dTCons (dName 3) (dTCons (dName 4) dTNil)))
  (dSeq (dSet 5 (dOp mSub (dCB mLen (dCons (dVar 2) dNil)) (dVar 4)))
  (dSeq (dSet 6 (dCB mTuple (dCons (dSl (dVar 2) (dPart (dVar 5)) dNoPart) dNil)))
  (dSeq (dDelT 2 (dVar 5))
  (dSeq (dApp 2 (dCB mLen (dCons (dVar 1) dNil)))
  (dApp 1 (dTup (dCons (dKeep (dVar 3)) (dCons (dKeep (dVar 6)) dNil)))))))))
  (dRet (dVar 1)))))
def m_nodes_from_below : DSM :=
  (dSeq (dSet 1 (dLst dNil))
  (dSeq (dSet 2 (dLst (dCons (dKeep (dVar 0)) dNil)))
  (dSeq (dWhile (dTru (dVar 2))
  (dSeq (dAsgP (dTg 2 (dTCons (dName 3) (dTCons (dName 4) dTNil))) (dPopL 2))
  (dSeq (dApp 1 (dTup (dCons (dKeep (dVar 3)) (dCons (dKeep (dCB mLen (dCons (dVar 4) dNil))) dNil))))
  (dExtA 2 (dVar 4)))))
  (dRet (dRevA (dVar 1))))))
def m_move_fits : DSM :=
  (dSeq (dIfS (dOr (dNot (dB (dChain mLeA mLtA (dC (.int 0)) (dVar 2) (dVar 0)))) (dB (dOp mGtA (dCB mLen (dCons (dVar 3) dNil)) (dC (.int 2)))))
  (dRet (dC (.bl false)))
  dNext)
  (dRet (dCB mAll (dCons (dLc (dOver (dLst (dStar (dVar 3) (dCons (dKeep (dVar 4)) dNil)))) [5] (dName 5) dYes (dChain mLeA mLtA (dC (.int 0)) (dVar 5) (dVar 1))) dNil))))
def m_check_parts (a : Ad) (F_move_fits : FM) : DSM :=
  (dSeq (dIfS (dNot (dB (dChain mLeA mLeA (dC (.int 1)) (dVar 0) (dC (.int 4)))))
  (dRaise a.x_BadMachine "what" (dC (.str "letters")))
  dNext)
  (dSeq (dIfS (dNot (dB (dChain mLeA mLeA (dC (.int 1)) (dVar 1) (dC (.int 8)))))
  (dRaise a.x_BadMachine "what" (dC (.str "labels")))
  dNext)
  (dSeq (dFor (dOver (dVar 2)) (dTg 3 (dTCons (dName 4) (dTCons (dName 5) (dTCons (dName 6) dTNil))))
  (dIfS (dNot (dTru (dCall F_move_fits (dCons (dKeep (dVar 0)) (dCons (dKeep (dVar 1)) (dCons (dKeep (dVar 4)) (dCons (dKeep (dVar 5)) (dCons (dKeep (dVar 6)) dNil))))))))
  (dRaise a.x_BadMachine "what" (dC (.str "moves")))
  dNext))
  (dFor (dOver (dVar 3)) (dName 6)
  (dIfS (dNot (dB (dChain mLeA mLtA (dC (.int 0)) (dVar 6) (dVar 1))))
  (dRaise a.x_BadMachine "what" (dC (.str "ends")))
  dNext)))))
def m_Machine_initdd (a : Ad) (F_check_parts : FME) : DSM :=
  (dSeq (dDropP (dCallE F_check_parts (dCons (dKeep (dVar 1)) (dCons (dKeep (dVar 2)) (dCons (dKeep (dVar 3)) (dCons (dKeep (dVar 4)) dNil))))))
  (dSeq (dPutA a.Machine 0 "letters" (dVar 1))
  (dSeq (dPutA a.Machine 0 "labels" (dVar 2))
  (dSeq (dPutA a.Machine 0 "moves" (dCB mTuple (dCons (dSortSc [.int, .row .int, .int] (dOver (dVar 3)) [5, 6, 7] (dTg 3 (dTCons (dName 5) (dTCons (dName 6) (dTCons (dName 7) dTNil)))) (dTup (dCons (dKeep (dVar 5)) (dCons (dKeep (dCB mTuple (dCons (dVar 6) dNil))) (dCons (dKeep (dVar 7)) dNil))))) dNil)))
  (dPutA a.Machine 0 "ends" (dCB mTuple (dCons (dSortSet (dVar 4)) dNil)))))))
def m_Machine_eqdd (a : Ad) : DSM :=
  (dRet (dAndV (dIsO a.Machine (dVar 1)) (dAndV (dOp mEq (dFld a.Machine "letters" (dVar 0)) (dFld a.Machine "letters" (dVar 1))) (dAndV (dOp mEq (dFld a.Machine "labels" (dVar 0)) (dFld a.Machine "labels" (dVar 1))) (dAndV (dOp mEq (dFld a.Machine "moves" (dVar 0)) (dFld a.Machine "moves" (dVar 1))) (dOp mEq (dFld a.Machine "ends" (dVar 0)) (dFld a.Machine "ends" (dVar 1))))))))
def m_known_moves (a : Ad) : DSM :=
  (dRet (dDc (dOver (dFld a.Machine "moves" (dVar 0))) [1] (dName 1) dYes (dVar 1) (dC (.bl true))))
def m_without_move (F_known_moves : FM) : DSM :=
  (dSeq (dSet 3 (dCall F_known_moves (dCons (dKeep (dVar 0)) dNil)))
  (dSeq (dSet 4 (dLst dNil))
  (dSeq (dFor (dEnumA (dVar 1)) (dTg 2 (dTCons (dName 5) (dTCons (dTg 2 (dTCons (dName 6) (dTCons (dName 7) dTNil))) dTNil)))
  (dSeq (dSet 8 (dCB mTuple (dCons (dLc (dOver (dVar 7)) [9] (dName 9) dYes (dOp mIx (dVar 2) (dVar 9))) dNil)))
  (dIfS (dB (dOp mNotInX (dTup (dCons (dKeep (dVar 6)) (dCons (dKeep (dVar 8)) (dCons (dKeep (dOp mIx (dVar 2) (dVar 5))) dNil)))) (dVar 3)))
  (dApp 4 (dVar 5))
  dNext)))
  (dRet (dVar 4)))))
def m_objectors (a : Ad) (F_people_of : FM) (F_without_move : FM) : DSM :=
  (dSeq (dSet 3 (dCall F_people_of (dCons (dKeep (dVar 1)) dNil)))
  (dSeq (dSet 4 (dCall F_without_move (dCons (dKeep (dVar 0)) (dCons (dKeep (dVar 3)) (dCons (dKeep (dVar 2)) dNil)))))
  (dSeq (dSet 5 (dOp mSub (dCB mLen (dCons (dVar 3) dNil)) (dC (.int 1))))
  (dSeq (dIfS (dAnd (dB (dOp mNotIn (dOp mIx (dVar 2) (dVar 5)) (dFld a.Machine "ends" (dVar 0)))) (dB (dOp mNotIn (dVar 5) (dVar 4))))
  (dApp 4 (dVar 5))
  dNext)
  (dRet (dVar 4))))))
def m_ring_objectors (F_without_move : FM) : DSM :=
  (dRet (dCall F_without_move (dCons (dKeep (dVar 0)) (dCons (dKeep (dLc (dEnumA (dVar 1)) [3, 4] (dTg 2 (dTCons (dName 3) (dTCons (dName 4) dTNil))) dYes (dTup (dCons (dKeep (dVar 4)) (dCons (dKeep (dTup (dCons (dKeep (dOp mSub (dVar 3) (dC (.int 1)))) dNil))) dNil))))) (dCons (dKeep (dVar 2)) dNil)))))
def m_law_draw : DSM :=
  (dSeq (dIfS (dAnd (dB (dOp mLeA (dOp mIx (dVar 0) (dC (.int 2))) (dC (.int 0)))) (dAnd (dB (dOp mLeA (dOp mIx (dVar 0) (dC (.int 4))) (dC (.int 0)))) (dB (dOp mLtA (dOp mIx (dVar 0) (dC (.int 1))) (dCB mLen (dCons (dOp mIx (dVar 0) (dC (.int 0))) dNil))))))
  (dSeq (dSet 2 (dOp mIx (dOp mIx (dVar 0) (dC (.int 0))) (dOp mIx (dVar 0) (dC (.int 1)))))
  (dSeq (dPut 0 (dC (.int 1)) (dOp mAdd (dOp mIx (dVar 0) (dC (.int 1))) (dC (.int 1))))
  (dSeq (dPut 0 (dC (.int 3)) (dOp mMod (dCB mInt (dCons (dOp mAdd (dOp mMul (dOp mIx (dVar 0) (dC (.int 3))) (dC (.int 31))) (dVar 2)) dNil)) (dC (.int 2147483647))))
  (dSeq (dPut 0 (dC (.int 4)) (dC (.int 7)))
  (dIfS (dB (dOp mGeA (dVar 2) (dOp mPow (dC (.int 10)) (dC (.int 18)))))
  (dPut 0 (dC (.int 2)) (dVar 2))
  dNext)))))
  dNext)
  (dSeq (dIfS (dB (dOp mGtA (dOp mIx (dVar 0) (dC (.int 2))) (dC (.int 0))))
  (dSeq (dSet 3 (dOp mMod (dCB mInt (dCons (dOp mIx (dVar 0) (dC (.int 2))) dNil)) (dVar 1)))
  (dSeq (dPut 0 (dC (.int 2)) (dOp mDiv (dOp mIx (dVar 0) (dC (.int 2))) (dVar 1)))
  (dSeq (dPut 0 (dC (.int 4)) (dC (.int 0)))
  (dRet (dVar 3)))))
  dNext)
  (dSeq (dPut 0 (dC (.int 4)) (dOp mSub (dOp mIx (dVar 0) (dC (.int 4))) (dC (.int 1))))
  (dSeq (dPut 0 (dC (.int 3)) (dOp mMod (dCB mInt (dCons (dOp mAdd (dOp mMul (dOp mIx (dVar 0) (dC (.int 3))) (dC (.int 48271))) (dC (.int 12345))) dNil)) (dC (.int 2147483647))))
  (dRet (dOp mMod (dOp mMod (dCB mInt (dCons (dOp mAdd (dOp mMul (dOp mIx (dVar 0) (dC (.int 3))) (dC (.int 69621))) (dC (.int 7919))) dNil)) (dC (.int 2147483647))) (dVar 1)))))))
def m_law_same (F_law_same : FM) : DSM :=
  (dSeq (dIfS (dOr (dTru (dIsi .tuple (dVar 1))) (dTru (dIsi .list (dVar 1))))
  (dSeq (dIfS (dOr (dB (dOp mNe (dIsi .tuple (dVar 1)) (dIsi .tuple (dVar 0)))) (dB (dOp mNe (dIsi .list (dVar 1)) (dIsi .list (dVar 0)))))
  (dRet (dC (.bl false)))
  dNext)
  (dSeq (dIfS (dB (dOp mNe (dCB mLen (dCons (dVar 0) dNil)) (dCB mLen (dCons (dVar 1) dNil))))
  (dRet (dC (.bl false)))
  dNext)
  (dSeq (dFor (dRng1 (dCB mLen (dCons (dVar 1) dNil))) (dName 2)
  (dIfS (dNot (dTru (dCall F_law_same (dCons (dKeep (dOp mIx (dVar 0) (dVar 2))) (dCons (dKeep (dOp mIx (dVar 1) (dVar 2))) dNil)))))
  (dRet (dC (.bl false)))
  dNext))
  (dRet (dC (.bl true))))))
  dNext)
  (dSeq (dIfS (dOr (dB (dOp mIs (dVar 1) (dC .non))) (dTru (dIsi .bool (dVar 1))))
  (dRet (dAndV (dOp mEq (dOp mIs (dVar 0) (dC .non)) (dOp mIs (dVar 1) (dC .non))) (dAndV (dOrV (dOp mIs (dVar 1) (dC .non)) (dIsi .bool (dVar 0))) (dOp mEq (dVar 0) (dVar 1)))))
  dNext)
  (dSeq (dIfS (dTru (dIsi .int (dVar 1)))
  (dRet (dAndV (dIsi .int (dVar 0)) (dAndV (dNotV (dIsi .bool (dVar 0))) (dOp mEq (dVar 0) (dVar 1)))))
  dNext)
  (dRet (dAndV (dIsi .str (dVar 0)) (dOp mEq (dVar 0) (dVar 1)))))))
def m_law_machine (F_law_draw : FM) : DSM :=
  (dSeq (dSet 4 (dLst dNil))
  (dSeq (dFor (dRng1 (dCall F_law_draw (dCons (dKeep (dVar 0)) (dCons (dKeep (dOp mAdd (dVar 3) (dC (.int 1)))) dNil)))) (dName 5)
  (dSeq (dSet 6 (dOp mIx (dTup (dCons (dKeep (dC (.int 0))) (dCons (dKeep (dC (.int 1))) (dCons (dKeep (dC (.int 1))) (dCons (dKeep (dC (.int 2))) dNil))))) (dCall F_law_draw (dCons (dKeep (dVar 0)) (dCons (dKeep (dC (.int 4))) dNil)))))
  (dSeq (dSet 7 (dCB mTuple (dCons (dLc (dRng1 (dVar 6)) [10] (dName 10) dYes (dCall F_law_draw (dCons (dKeep (dVar 0)) (dCons (dKeep (dVar 2)) dNil)))) dNil)))
  (dApp 4 (dTup (dCons (dKeep (dCall F_law_draw (dCons (dKeep (dVar 0)) (dCons (dKeep (dVar 1)) dNil)))) (dCons (dKeep (dVar 7)) (dCons (dKeep (dCall F_law_draw (dCons (dKeep (dVar 0)) (dCons (dKeep (dVar 2)) dNil)))) dNil))))))))
  (dSeq (dSet 8 (dLc (dRng1 (dVar 2)) [9] (dName 9) (dB (dOp mEq (dCall F_law_draw (dCons (dKeep (dVar 0)) (dCons (dKeep (dC (.int 2))) dNil))) (dC (.int 0)))) (dVar 9)))
  (dRet (dTup (dCons (dKeep (dVar 1)) (dCons (dKeep (dVar 2)) (dCons (dKeep (dVar 4)) (dCons (dKeep (dVar 8)) dNil)))))))))
def m_law_tree (F_law_draw : FM) (F_law_tree : FMI) : DSM :=
  (dSeq (dSet 3 (dCall F_law_draw (dCons (dKeep (dVar 0)) (dCons (dKeep (dVar 1)) dNil))))
  (dSeq (dSet 4 (dOp mIx (dTup (dCons (dKeep (dC (.int 0))) (dCons (dKeep (dC (.int 1))) (dCons (dKeep (dC (.int 1))) (dCons (dKeep (dC (.int 2))) (dCons (dKeep (dC (.int 2))) dNil)))))) (dCall F_law_draw (dCons (dKeep (dVar 0)) (dCons (dKeep (dC (.int 5))) dNil)))))
  (dSeq (dSet 5 (dLst dNil))
  (dSeq (dFor (dRng1 (dVar 4)) (dName 6)
  (dIfS (dB (dOp mGtA (dIxF 2 (dC (.int 0))) (dC (.int 0))))
  (dSeq (dPutF 2 (dC (.int 0)) (dOp mSub (dIxF 2 (dC (.int 0))) (dC (.int 1))))
  (dAppP 5 (dCallF 2 F_law_tree (dConsF (dKeep (dVar 0)) (dConsF (dKeep (dVar 1)) (dEndF 2))))))
  dNext))
  (dRet (dTup (dCons (dKeep (dVar 3)) (dCons (dKeep (dCB mTuple (dCons (dVar 5) dNil))) dNil))))))))
def m_law_nodes (F_law_nodes : FM) : DSM :=
  (dSeq (dSet 1 (dLst dNil))
  (dSeq (dSet 2 (dLst dNil))
  (dSeq (dFor (dOver (dOp mIx (dVar 0) (dC (.int 1)))) (dName 3)
  (dSeq (dSet 4 (dCall F_law_nodes (dCons (dKeep (dVar 3)) dNil)))
  (dSeq (dSet 5 (dCB mLen (dCons (dVar 1) dNil)))
  (dSeq (dSet 1 (dOp mAdd (dVar 1) (dLc (dOver (dVar 4)) [6, 7] (dTg 2 (dTCons (dName 6) (dTCons (dName 7) dTNil))) dYes (dTup (dCons (dKeep (dVar 6)) (dCons (dKeep (dCB mTuple (dCons (dLc (dOver (dVar 7)) [8] (dName 8) dYes (dOp mAdd (dVar 8) (dVar 5))) dNil))) dNil))))))
  (dApp 2 (dOp mSub (dCB mLen (dCons (dVar 1) dNil)) (dC (.int 1))))))))
  (dRet (dOp mAdd (dVar 1) (dLst (dCons (dKeep (dTup (dCons (dKeep (dOp mIx (dVar 0) (dC (.int 0)))) (dCons (dKeep (dCB mTuple (dCons (dVar 2) dNil))) dNil)))) dNil)))))))
def m_law_row_tree : DSM :=
  (dSeq (dSet 1 (dTup (dCons (dKeep (dOp mIx (dVar 0) (dC (.int 0)))) (dCons (dKeep (dTup dNil)) dNil))))
  (dSeq (dFor (dOver (dSl (dVar 0) (dPart (dC (.int 1))) dNoPart)) (dName 2)
  (dSet 1 (dTup (dCons (dKeep (dVar 2)) (dCons (dKeep (dTup (dCons (dKeep (dVar 1)) dNil))) dNil)))))
  (dRet (dVar 1))))
def m_law_shape (F_law_draw : FM) (F_law_row_tree : FM) (F_law_tree : FML) : DSM :=
  (dSeq (dIfS (dB (dOp mEq (dCall F_law_draw (dCons (dKeep (dVar 0)) (dCons (dKeep (dC (.int 3))) dNil))) (dC (.int 0))))
  (dRet (dCall F_law_row_tree (dCons (dKeep (dLc (dRng1 (dOp mAdd (dC (.int 1)) (dCall F_law_draw (dCons (dKeep (dVar 0)) (dCons (dKeep (dVar 2)) dNil))))) [3] (dName 3) dYes (dCall F_law_draw (dCons (dKeep (dVar 0)) (dCons (dKeep (dVar 1)) dNil))))) dNil)))
  dNext)
  (dRet (dCallL F_law_tree (dConsO (dKeep (dVar 0)) (dConsO (dKeep (dVar 1)) (dEndO (dLst (dCons (dKeep (dCall F_law_draw (dCons (dKeep (dVar 0)) (dCons (dKeep (dVar 2)) dNil)))) dNil))))))))
def m_law_objects : DSM :=
  (dSeq (dSet 3 (dLst dNil))
  (dSeq (dFor (dRng1 (dCB mLen (dCons (dVar 1) dNil))) (dName 4)
  (dSeq (dAsg (dTg 2 (dTCons (dName 5) (dTCons (dName 6) dTNil))) (dOp mIx (dVar 1) (dVar 4)))
  (dSeq (dSet 7 (dOp mIn (dTup (dCons (dKeep (dVar 5)) (dCons (dKeep (dCB mTuple (dCons (dLc (dOver (dVar 6)) [8] (dName 8) dYes (dOp mIx (dVar 2) (dVar 8))) dNil))) (dCons (dKeep (dOp mIx (dVar 2) (dVar 4))) dNil)))) (dOp mIx (dVar 0) (dC (.int 2)))))
  (dSeq (dIfS (dAnd (dB (dOp mEq (dVar 4) (dOp mSub (dCB mLen (dCons (dVar 1) dNil)) (dC (.int 1))))) (dB (dOp mNotIn (dOp mIx (dVar 2) (dVar 4)) (dOp mIx (dVar 0) (dC (.int 3))))))
  (dSet 7 (dC (.bl false)))
  dNext)
  (dIfS (dNot (dTru (dVar 7)))
  (dApp 3 (dVar 4))
  dNext)))))
  (dRet (dVar 3))))
def m_law_made (a : Ad) (F_Machine_initdd : FMM) : DSM :=
  (dRet (dMake a.Machine F_Machine_initdd (dCons (dKeep (dOp mIx (dVar 0) (dC (.int 0)))) (dCons (dKeep (dOp mIx (dVar 0) (dC (.int 1)))) (dCons (dKeep (dOp mIx (dVar 0) (dC (.int 2)))) (dCons (dKeep (dOp mIx (dVar 0) (dC (.int 3)))) dNil))))))
def m_law_pool : DSM :=
  (dRet (dLst (dCons (dKeep (dCB mList (dCons (dVar 0) dNil))) (dCons (dKeep (dC (.int 0))) (dCons (dKeep (dC (.int 0))) (dCons (dKeep (dC (.int 1))) (dCons (dKeep (dC (.int 0))) (dCons (dKeep (dVar 1)) dNil))))))))
def m_law (a : Ad) (F_law_pool : FM) (F_law_draw : FM) (F_law_machine : FM) (F_law_made : FM) (F_law_shape : FM) (F_law_nodes : FM) (F_law_objects : FM) (F_objectors : FM) (F_law_same : FM) (F_ring_objectors : FM) (F_Machine_eqdd : FM) : DSM :=
  (dPool 1 (dCall F_law_pool (dCons (dKeep (dVar 0)) (dCons (dKeep (dC (.int 0))) dNil)))
  (dSeq (dSet 2 (dCall F_law_machine (dCons (dKeep (dVar 1)) (dCons (dKeep (dOp mAdd (dC (.int 1)) (dCall F_law_draw (dCons (dKeep (dVar 1)) (dCons (dKeep (dC (.int 4))) dNil))))) (dCons (dKeep (dOp mAdd (dC (.int 1)) (dCall F_law_draw (dCons (dKeep (dVar 1)) (dCons (dKeep (dC (.int 5))) dNil))))) (dCons (dKeep (dC (.int 12))) dNil))))))
  (dSeq (dSet 3 (dCall F_law_made (dCons (dKeep (dVar 2)) dNil)))
  (dSeq (dFor (dRng1 (dC (.int 3))) (dName 4)
  (dSeq (dSet 5 (dCall F_law_shape (dCons (dKeep (dVar 1)) (dCons (dKeep (dOp mAdd (dOp mIx (dVar 2) (dC (.int 0))) (dCB mInt (dCons (dOp mEq (dCall F_law_draw (dCons (dKeep (dVar 1)) (dCons (dKeep (dC (.int 6))) dNil))) (dC (.int 0))) dNil)))) (dCons (dKeep (dC (.int 9))) dNil)))))
  (dSeq (dSet 6 (dCall F_law_nodes (dCons (dKeep (dVar 5)) dNil)))
  (dSeq (dSet 7 (dLc (dRng1 (dCB mLen (dCons (dVar 6) dNil))) [12] (dName 12) dYes (dCall F_law_draw (dCons (dKeep (dVar 1)) (dCons (dKeep (dOp mIx (dVar 2) (dC (.int 1)))) dNil)))))
  (dSeq (dSet 8 (dPick (dCB mList (dCons (dVar 7) dNil)) (dCB mTuple (dCons (dVar 7) dNil)) (dCall F_law_draw (dCons (dKeep (dVar 1)) (dCons (dKeep (dC (.int 2))) dNil)))))
  (dSeq (dSet 9 (dEither 7 (dCallN F_law_objects (dConsN (dKeep (dVar 2)) (dConsN (dKeep (dVar 6)) (dEndN 7)))) (dCall F_law_objects (dCons (dKeep (dVar 2)) (dCons (dKeep (dVar 6)) (dCons (dKeep (dVar 7)) dNil))))))
  (dSeq (dSet 10 (dEither 8 (dCallN F_objectors (dConsN (dKeep (dVar 3)) (dConsN (dKeep (dVar 5)) (dEndN 8)))) (dCall F_objectors (dCons (dKeep (dVar 3)) (dCons (dKeep (dVar 5)) (dCons (dKeep (dVar 8)) dNil))))))
  (dSeq (dIfS (dOr (dNot (dTru (dCallN1 F_law_same 10 (dKeep (dVar 9))))) (dB (dOp mNe (dCB mList (dCons (dVar 8) dNil)) (dVar 7))))
  (dRet (dC (.bl false)))
  dNext)
  (dSeq (dApp 10 (dC (.int 99)))
  (dSeq (dIfS (dNot (dTru (dCall F_law_same (dCons (dKeep (dEither 8 (dCallN F_objectors (dConsN (dKeep (dVar 3)) (dConsN (dKeep (dVar 5)) (dEndN 8)))) (dCall F_objectors (dCons (dKeep (dVar 3)) (dCons (dKeep (dVar 5)) (dCons (dKeep (dVar 8)) dNil)))))) (dCons (dKeep (dVar 9)) dNil)))))
  (dRet (dC (.bl false)))
  dNext)
  (dSeq (dIfS (dTru (dIsi .list (dVar 8)))
  (dSeq (dPut 7 (dC (.int 0)) (dOp mMod (dCB mInt (dCons (dOp mAdd (dOp mIx (dVar 7) (dC (.int 0))) (dC (.int 1))) dNil)) (dOp mIx (dVar 2) (dC (.int 1)))))
  (dPut 8 (dC (.int 0)) (dOp mIx (dVar 7) (dC (.int 0)))))
  dNext)
  (dSeq (dIfS (dNot (dTru (dCall F_law_same (dCons (dKeep (dEither 8 (dCallN F_objectors (dConsN (dKeep (dVar 3)) (dConsN (dKeep (dVar 5)) (dEndN 8)))) (dCall F_objectors (dCons (dKeep (dVar 3)) (dCons (dKeep (dVar 5)) (dCons (dKeep (dVar 8)) dNil)))))) (dCons (dKeep (dEither 7 (dCallN F_law_objects (dConsN (dKeep (dVar 2)) (dConsN (dKeep (dVar 6)) (dEndN 7)))) (dCall F_law_objects (dCons (dKeep (dVar 2)) (dCons (dKeep (dVar 6)) (dCons (dKeep (dVar 7)) dNil)))))) dNil)))))
  (dRet (dC (.bl false)))
  dNext)
  (dSeq (dSet 11 (dLc (dRng1 (dOp mAdd (dC (.int 1)) (dCall F_law_draw (dCons (dKeep (dVar 1)) (dCons (dKeep (dC (.int 8))) dNil))))) [12] (dName 12) dYes (dCall F_law_draw (dCons (dKeep (dVar 1)) (dCons (dKeep (dOp mAdd (dOp mIx (dVar 2) (dC (.int 0))) (dCB mInt (dCons (dOp mEq (dCall F_law_draw (dCons (dKeep (dVar 1)) (dCons (dKeep (dC (.int 6))) dNil))) (dC (.int 0))) dNil)))) dNil)))))
  (dSeq (dSet 7 (dLc (dRng1 (dCB mLen (dCons (dVar 11) dNil))) [12] (dName 12) dYes (dCall F_law_draw (dCons (dKeep (dVar 1)) (dCons (dKeep (dOp mIx (dVar 2) (dC (.int 1)))) dNil)))))
  (dSeq (dSet 9 (dLc (dRng1 (dCB mLen (dCons (dVar 11) dNil))) [12] (dName 12) (dB (dOp mNotIn (dTup (dCons (dKeep (dOp mIx (dVar 11) (dVar 12))) (dCons (dKeep (dTup (dCons (dKeep (dOp mIx (dVar 7) (dOp mSub (dVar 12) (dC (.int 1))))) dNil))) (dCons (dKeep (dOp mIx (dVar 7) (dVar 12))) dNil)))) (dOp mIx (dVar 2) (dC (.int 2))))) (dVar 12)))
  (dSeq (dSet 8 (dLst (dCons (dKeep (dPick (dCB mList (dCons (dVar 11) dNil)) (dCB mTuple (dCons (dVar 11) dNil)) (dCall F_law_draw (dCons (dKeep (dVar 1)) (dCons (dKeep (dC (.int 2))) dNil))))) (dCons (dKeep (dPick (dCB mList (dCons (dVar 7) dNil)) (dCB mTuple (dCons (dVar 7) dNil)) (dCall F_law_draw (dCons (dKeep (dVar 1)) (dCons (dKeep (dC (.int 2))) dNil))))) dNil))))
  (dSeq (dSet 10 (dCall F_ring_objectors (dCons (dKeep (dVar 3)) (dCons (dKeep (dOp mIx (dVar 8) (dC (.int 0)))) (dCons (dKeep (dOp mIx (dVar 8) (dC (.int 1)))) dNil)))))
  (dSeq (dIfS (dOr (dNot (dTru (dCallN1 F_law_same 10 (dKeep (dVar 9))))) (dOr (dB (dOp mNe (dCB mList (dCons (dOp mIx (dVar 8) (dC (.int 0))) dNil)) (dVar 11))) (dB (dOp mNe (dCB mList (dCons (dOp mIx (dVar 8) (dC (.int 1))) dNil)) (dVar 7)))))
  (dRet (dC (.bl false)))
  dNext)
  (dSeq (dApp 10 (dC (.int 99)))
  (dIfS (dNot (dTru (dCall F_law_same (dCons (dKeep (dCall F_ring_objectors (dCons (dKeep (dVar 3)) (dCons (dKeep (dOp mIx (dVar 8) (dC (.int 0)))) (dCons (dKeep (dOp mIx (dVar 8) (dC (.int 1)))) dNil))))) (dCons (dKeep (dVar 9)) dNil)))))
  (dRet (dC (.bl false)))
  dNext))))))))))))))))))))
  (dRet (dOp (mEqO a.Machine F_Machine_eqdd) (dVar 3) (dCall F_law_made (dCons (dKeep (dVar 2)) dNil))))))))
def mh_law_same : DSM :=
  (dSeq (dIfS (dOr (dTru (dIsi .tuple (dVar 1))) (dTru (dIsi .list (dVar 1))))
  (dSeq (dIfS (dOr (dB (dOp mNe (dIsi .tuple (dVar 1)) (dIsi .tuple (dVar 0)))) (dB (dOp mNe (dIsi .list (dVar 1)) (dIsi .list (dVar 0)))))
  (dRet (dC (.bl false)))
  dNext)
  (dSeq (dIfS (dB (dOp mNe (dCB mLen (dCons (dVar 0) dNil)) (dCB mLen (dCons (dVar 1) dNil))))
  (dRet (dC (.bl false)))
  dNext)
  (dSeq dNever
  (dRet (dC (.bl true))))))
  dNext)
  (dSeq (dIfS (dOr (dB (dOp mIs (dVar 1) (dC .non))) (dTru (dIsi .bool (dVar 1))))
  (dRet (dAndV (dOp mEq (dOp mIs (dVar 0) (dC .non)) (dOp mIs (dVar 1) (dC .non))) (dAndV (dOrV (dOp mIs (dVar 1) (dC .non)) (dIsi .bool (dVar 0))) (dOp mEq (dVar 0) (dVar 1)))))
  dNext)
  (dSeq (dIfS (dTru (dIsi .int (dVar 1)))
  (dRet (dAndV (dIsi .int (dVar 0)) (dAndV (dNotV (dIsi .bool (dVar 0))) (dOp mEq (dVar 0) (dVar 1)))))
  dNext)
  (dRet (dAndV (dIsi .str (dVar 0)) (dOp mEq (dVar 0) (dVar 1)))))))
structure Tx (K : PySem.W.Frag) (mg : Str → Option Value) (a : Ad) : Prop where
  n_all : mg "all" = none
  n_bool : mg "bool" = none
  n_enumerate : mg "enumerate" = none
  n_int : mg "int" = none
  n_isinstance : mg "isinstance" = none
  n_len : mg "len" = none
  n_list : mg "list" = none
  n_range : mg "range" = none
  n_set : mg "set" = none
  n_sorted : mg "sorted" = none
  n_str : mg "str" = none
  n_super : mg "super" = none
  n_tuple : mg "tuple" = none
  f_people_of : FnAt K mg "people_of" "people_of" s_people_of a.f_people_of a.d_people_of ["tree"]
  f_nodes_from_below : FnAt K mg "nodes_from_below" "nodes_from_below" s_nodes_from_below a.f_nodes_from_below a.d_nodes_from_below ["tree"]
  f_move_fits : FnAt K mg "move_fits" "move_fits" s_move_fits a.f_move_fits a.d_move_fits ["letters", "labels", "letter", "children", "label"]
  f_check_parts : FnAt K mg "check_parts" "check_parts" s_check_parts a.f_check_parts a.d_check_parts ["letters", "labels", "moves", "ends"]
  f_Machine_initdd : MeAt K a.Machine "__init__" "Machine.__init__" s_Machine_initdd a.f_Machine_initdd a.d_Machine_initdd ["self", "letters", "labels", "moves", "ends"]
  f_Machine_eqdd : MeAt K a.Machine "__eq__" "Machine.__eq__" s_Machine_eqdd a.f_Machine_eqdd a.d_Machine_eqdd ["self", "other"]
  f_known_moves : FnAt K mg "known_moves" "known_moves" s_known_moves a.f_known_moves a.d_known_moves ["machine"]
  f_without_move : FnAt K mg "without_move" "without_move" s_without_move a.f_without_move a.d_without_move ["machine", "people", "labels"]
  f_objectors : FnAt K mg "objectors" "objectors" s_objectors a.f_objectors a.d_objectors ["machine", "tree", "labels"]
  f_ring_objectors : FnAt K mg "ring_objectors" "ring_objectors" s_ring_objectors a.f_ring_objectors a.d_ring_objectors ["machine", "ring", "labels"]
  f_law_draw : FnAt K mg "_law_draw" "_law_draw" s_law_draw a.f_law_draw a.d_law_draw ["pool", "size"]
  f_law_same : FnAt K mg "_law_same" "_law_same" s_law_same a.f_law_same a.d_law_same ["actual", "due"]
  f_law_machine : FnAt K mg "_law_machine" "_law_machine" s_law_machine a.f_law_machine a.d_law_machine ["pool", "letters", "labels", "many"]
  f_law_tree : FnAt K mg "_law_tree" "_law_tree" s_law_tree a.f_law_tree a.d_law_tree ["pool", "letters", "left"]
  f_law_nodes : FnAt K mg "_law_nodes" "_law_nodes" s_law_nodes a.f_law_nodes a.d_law_nodes ["tree"]
  f_law_row_tree : FnAt K mg "_law_row_tree" "_law_row_tree" s_law_row_tree a.f_law_row_tree a.d_law_row_tree ["row"]
  f_law_shape : FnAt K mg "_law_shape" "_law_shape" s_law_shape a.f_law_shape a.d_law_shape ["pool", "letters", "most"]
  f_law_objects : FnAt K mg "_law_objects" "_law_objects" s_law_objects a.f_law_objects a.d_law_objects ["machine", "nodes", "labels"]
  f_law_made : FnAt K mg "_law_made" "_law_made" s_law_made a.f_law_made a.d_law_made ["machine"]
  f_law_pool : FnAt K mg "_law_pool" "_law_pool" s_law_pool a.f_law_pool a.d_law_pool ["script", "budget"]
  f_law : FnAt K mg "law" "law" s_law a.f_law a.d_law ["script"]
  c_MOST_CHILDREN : mg "MOST_CHILDREN" = some (.int 2 a.t_MOST_CHILDREN)
  c_MOST_LETTERS : mg "MOST_LETTERS" = some (.int 4 a.t_MOST_LETTERS)
  c_MOST_LABELS : mg "MOST_LABELS" = some (.int 8 a.t_MOST_LABELS)
  cl_Machine : Cls K a.Machine
  no_Machine_ends : NoAttr K a.Machine "ends"
  no_Machine_labels : NoAttr K a.Machine "labels"
  no_Machine_letters : NoAttr K a.Machine "letters"
  no_Machine_moves : NoAttr K a.Machine "moves"
  mk_Machine : Mk K a.Machine a.f_Machine_initdd
  gC_Machine : mg "Machine" = some (.ref a.Machine)
  o_Machine : IsOwn K a.Machine
  gX_BadMachine : mg "BadMachine" = some (.ref a.x_BadMachine)
  x_BadMachine : EX.ErrTxt PySem.Challenge.pw_someobjects_k10_who_objects K a.x_BadMachine a.i_BadMachine "what" "a machine cannot have these "
section
variable {P : Program} {w : World} {K : PySem.W.Frag} {mg : Str → Option Value} {base : Heap} {a : Ad}
theorem b_people_of (T : Tx K mg a) {k : Nat} {F_nodes_from_below : FM} (h_nodes_from_below : FnOk P w K mg base CX0 k a.f_nodes_from_below a.d_nodes_from_below ["tree"] (spF K 1 F_nodes_from_below)) : FnOk P w K mg base CX0 (k + 1) a.f_people_of a.d_people_of ["tree"] (spF K 1 (bodyF 7 (m_people_of F_nodes_from_below))) := by
  exact fn_d T.f_people_of.fn sc_people_of fun cdv A outer s H E hr => ⟨_, (dss_cons (ds_set (i := 1) sc_people_of.nd rfl (Or.inl rfl) (de_lst da_nil))
  (dss_cons (ds_set (i := 2) sc_people_of.nd rfl (Or.inl rfl) (de_lst da_nil))
  (dss_cons (ds_for PassesOwn.never rfl (di_over (de_call h_nodes_from_below hr (by rfl) T.f_nodes_from_below.g T.f_nodes_from_below.k T.f_nodes_from_below.b (da_cons (de_keep (de_var 0 (pv 0))) da_nil) rfl)) (dg_tup rfl (dgs_cons (dg_name (i := 3) sc_people_of.nd rfl (Or.inl rfl)) (dgs_cons (dg_name (i := 4) sc_people_of.nd rfl (Or.inl rfl)) dgs_nil)))
  (dss_cons (ds_set (i := 5) sc_people_of.nd rfl (Or.inl rfl) (de_op op_sub opd_sub (de_callB call_len cd_len (by rfl) T.n_len (by decide +kernel) (da_cons (de_var 2 (pv 2)) da_nil)) (de_var 4 (pv 4))))
  (dss_cons (ds_set (i := 6) sc_people_of.nd rfl (Or.inl rfl) (de_callTy call_tuple_of cd_tuple (by rfl) T.n_tuple (by decide +kernel) (da_cons (de_slice (de_var 2 (pv 2)) (do_some (de_var 5 (pv 5))) do_none) da_nil)))
  (dss_cons (ds_delT (i := 2) (pv 2) (de_var 5 (pv 5)))
  (dss_cons (ds_app (i := 2) (pv 2) (de_callB call_len cd_len (by rfl) T.n_len (by decide +kernel) (da_cons (de_var 1 (pv 1)) da_nil)))
  (dss_one (ds_app (i := 1) (pv 1) (de_tup (da_cons (de_keep (de_var 3 (pv 3))) (da_cons (de_keep (de_var 6 (pv 6))) da_nil))))))))))
  (dss_one (ds_ret (de_var 1 (pv 1)))))))⟩
theorem b_nodes_from_below (T : Tx K mg a) {k : Nat} : FnOk P w K mg base CX0 (k + 1) a.f_nodes_from_below a.d_nodes_from_below ["tree"] (spF K 1 (bodyF 5 (m_nodes_from_below))) := by
  exact fn_d T.f_nodes_from_below.fn sc_nodes_from_below fun cdv A outer s H E hr => ⟨_, (dss_cons (ds_set (i := 1) sc_nodes_from_below.nd rfl (Or.inl rfl) (de_lst da_nil))
  (dss_cons (ds_set (i := 2) sc_nodes_from_below.nd rfl (Or.inl rfl) (de_lst (da_cons (de_keep (de_var 0 (pv 0))) da_nil)))
  (dss_cons (ds_while PassesOwn.never (dt_tru (de_var 2 (pv 2)))
  (dss_cons (ds_asgP (dp_popL (i := 2) (pv 2)) (dg_tup rfl (dgs_cons (dg_name (i := 3) sc_nodes_from_below.nd rfl (Or.inl rfl)) (dgs_cons (dg_name (i := 4) sc_nodes_from_below.nd rfl (Or.inl rfl)) dgs_nil))))
  (dss_cons (ds_app (i := 1) (pv 1) (de_tup (da_cons (de_keep (de_var 3 (pv 3))) (da_cons (de_keep (de_callB call_len cd_len (by rfl) T.n_len (by decide +kernel) (da_cons (de_var 4 (pv 4)) da_nil))) da_nil))))
  (dss_one (ds_extA (i := 2) (pv 2) (de_var 4 (pv 4)))))))
  (dss_one (ds_ret (de_revA (de_var 1 (pv 1))))))))⟩
theorem b_move_fits (T : Tx K mg a) {k : Nat} : FnOk P w K mg base CX0 (k + 1) a.f_move_fits a.d_move_fits ["letters", "labels", "letter", "children", "label"] (spF K 5 (bodyF 6 (m_move_fits))) := by
  exact fn_d T.f_move_fits.fn sc_move_fits fun cdv A outer s H E hr => ⟨_, (dss_cons (ds_if (DW.dt (dw_or (dt_not (dt_chain op_leA opd_S op_ltA opd_S de_int (de_var 2 (pv 2)) (de_var 0 (pv 0)))) (dw_or1 (dt_cmp op_gtA opd_S (de_callB call_len cd_len (by rfl) T.n_len (by decide +kernel) (da_cons (de_var 3 (pv 3)) da_nil)) (de_gint rfl T.c_MOST_CHILDREN) (nomark _)))))
  (dss_one (ds_ret de_bl))
  dss_nil)
  (dss_one (ds_ret (de_callB (cr_all (by rfl)) cd_all (by rfl) T.n_all (by decide +kernel) (da_cons (de_lc [("told", 5)] rfl sc_move_fits.nd (di_over (de_lstS (das_star (de_var 3 (pv 3)) (das_cons (de_keep (de_var 4 (pv 4))) (das_of da_nil))))) (blkOk_by (own := [("told", 5)]) (N := N_move_fits) (sc := defScope s_move_fits) (by decide +kernel)) (fun _ _ _ _ _ => (dg_name (i := 5) sc_move_fits.nd rfl (Or.inl rfl))) (fun _ _ _ _ _ => dts_nil) (fun _ _ _ _ _ => (de_chain op_leA opd_S op_ltA opd_S de_int (de_var 5 (pv 5)) (de_var 1 (pv 1)))) (tgin_name (by decide)) (gin_name (by decide))) da_nil)))))⟩
theorem b_check_parts (T : Tx K mg a) {k : Nat} {F_move_fits : FM} (h_move_fits : FnOk PySem.Challenge.pw_someobjects_k10_who_objects w K mg base CX0 k a.f_move_fits a.d_move_fits ["letters", "labels", "letter", "children", "label"] (spF K 5 F_move_fits)) : FnOk PySem.Challenge.pw_someobjects_k10_who_objects w K mg base (L2N.CX PySem.Challenge.pw_someobjects_k10_who_objects w) (k + 1) a.f_check_parts a.d_check_parts ["letters", "labels", "moves", "ends"] (spE K 4 (bodyE 7 (m_check_parts a F_move_fits))) := by
  exact fn_dE T.f_check_parts.fn sc_check_parts fun cdv A outer s H E hr => ⟨_, (dss_cons (ds_if (dt_not (dt_chain op_leA opd_S op_leA opd_S de_int (de_var 0 (pv 0)) (de_gint rfl T.c_MOST_LETTERS)))
  (dss_one (ds_raise rfl T.x_BadMachine (Nat.le_of_ble_eq_true rfl) (Or.inr rfl) T.n_super T.gX_BadMachine hr de_str (by rfl)))
  dss_nil)
  (dss_cons (ds_if (dt_not (dt_chain op_leA opd_S op_leA opd_S de_int (de_var 1 (pv 1)) (de_gint rfl T.c_MOST_LABELS)))
  (dss_one (ds_raise rfl T.x_BadMachine (Nat.le_of_ble_eq_true rfl) (Or.inr rfl) T.n_super T.gX_BadMachine hr de_str (by rfl)))
  dss_nil)
  (dss_cons (ds_for (passes_of rfl) rfl (di_over (de_var 2 (pv 2))) (dg_tup rfl (dgs_cons (dg_name (i := 4) sc_check_parts.nd rfl (Or.inl rfl)) (dgs_cons (dg_name (i := 5) sc_check_parts.nd rfl (Or.inl rfl)) (dgs_cons (dg_name (i := 6) sc_check_parts.nd rfl (Or.inl rfl)) dgs_nil))))
  (dss_one (ds_if (dt_not (dt_tru (de_call h_move_fits hr (by rfl) T.f_move_fits.g T.f_move_fits.k T.f_move_fits.b (da_cons (de_keep (de_var 0 (pv 0))) (da_cons (de_keep (de_var 1 (pv 1))) (da_cons (de_keep (de_var 4 (pv 4))) (da_cons (de_keep (de_var 5 (pv 5))) (da_cons (de_keep (de_var 6 (pv 6))) da_nil))))) rfl)))
  (dss_one (ds_raise rfl T.x_BadMachine (Nat.le_of_ble_eq_true rfl) (Or.inr rfl) T.n_super T.gX_BadMachine hr de_str (by rfl)))
  dss_nil)))
  (dss_one (ds_for (passes_of rfl) rfl (di_over (de_var 3 (pv 3))) (dg_name (i := 6) sc_check_parts.nd rfl (Or.inl rfl))
  (dss_one (ds_if (dt_not (dt_chain op_leA opd_S op_ltA opd_S de_int (de_var 6 (pv 6)) (de_var 1 (pv 1))))
  (dss_one (ds_raise rfl T.x_BadMachine (Nat.le_of_ble_eq_true rfl) (Or.inr rfl) T.n_super T.gX_BadMachine hr de_str (by rfl)))
  dss_nil)))))))⟩
theorem b_Machine_initdd (T : Tx K mg a) {k : Nat} {F_check_parts : FME} (h_check_parts : FnOk PySem.Challenge.pw_someobjects_k10_who_objects w K mg base (L2N.CX PySem.Challenge.pw_someobjects_k10_who_objects w) k a.f_check_parts a.d_check_parts ["letters", "labels", "moves", "ends"] (spE K 4 F_check_parts)) : FnOk PySem.Challenge.pw_someobjects_k10_who_objects w K mg base (L2N.CX PySem.Challenge.pw_someobjects_k10_who_objects w) (k + 1) a.f_Machine_initdd a.d_Machine_initdd ["self", "letters", "labels", "moves", "ends"] (spM K 5 (bodyM 8 (m_Machine_initdd a F_check_parts))) := by
  exact fn_dM T.f_Machine_initdd.fn sc_Machine_initdd fun cdv A outer s H E hr => ⟨_, (dss_cons (ds_exprP (de_callE h_check_parts hr (by rfl) T.f_check_parts.g T.f_check_parts.k T.f_check_parts.b (da_cons (de_keep (de_var 1 (pv 1))) (da_cons (de_keep (de_var 2 (pv 2))) (da_cons (de_keep (de_var 3 (pv 3))) (da_cons (de_keep (de_var 4 (pv 4))) da_nil)))) rfl))
  (dss_cons (ds_putA (i := 0) T.cl_Machine T.no_Machine_letters (pv 0) (de_var 1 (pv 1)))
  (dss_cons (ds_putA (i := 0) T.cl_Machine T.no_Machine_labels (pv 0) (de_var 2 (pv 2)))
  (dss_cons (ds_putA (i := 0) T.cl_Machine T.no_Machine_moves (pv 0) (de_callTy call_tuple_of cd_tuple (by rfl) T.n_tuple (by decide +kernel) (da_cons (de_sortSc .int [.row .int, .int] [("letter", 5), ("children", 6), ("label", 7)] hr.units (by rfl) T.n_sorted (by decide +kernel) rfl sc_Machine_initdd.nd (di_over (de_var 3 (pv 3))) (blkOk_by (own := [("letter", 5), ("children", 6), ("label", 7)]) (N := N_Machine_initdd) (sc := defScope s_Machine_initdd) (by decide +kernel)) (fun _ _ _ _ _ => (dg_tup rfl (dgs_cons (dg_name (i := 5) sc_Machine_initdd.nd rfl (Or.inl rfl)) (dgs_cons (dg_name (i := 6) sc_Machine_initdd.nd rfl (Or.inl rfl)) (dgs_cons (dg_name (i := 7) sc_Machine_initdd.nd rfl (Or.inl rfl)) dgs_nil))))) (fun _ _ _ _ _ => (de_tup (da_cons (de_keep (de_var 5 (pv 5))) (da_cons (de_keep (de_callTy call_tuple_of cd_tuple (by rfl) T.n_tuple (by decide +kernel) (da_cons (de_var 6 (pv 6)) da_nil))) (da_cons (de_keep (de_var 7 (pv 7))) da_nil))))) (tgin_tup (tgsin_cons (tgin_name (by decide)) (tgsin_cons (tgin_name (by decide)) (tgsin_cons (tgin_name (by decide)) tgsin_nil)))) (gin_tup (gsin_cons (gin_name (by decide)) (gsin_cons (gin_name (by decide)) (gsin_cons (gin_name (by decide)) gsin_nil))))) da_nil)))
  (dss_one (ds_putA (i := 0) T.cl_Machine T.no_Machine_ends (pv 0) (de_callTy call_tuple_of cd_tuple (by rfl) T.n_tuple (by decide +kernel) (da_cons (de_sortSet rfl hr.units (by rfl) T.n_sorted (by decide +kernel) (by rfl) T.n_set (by decide +kernel) (de_var 4 (pv 4))) da_nil))))))))⟩
theorem b_Machine_eqdd (T : Tx K mg a) {k : Nat} : FnOk P w K mg base CX0 (k + 1) a.f_Machine_eqdd a.d_Machine_eqdd ["self", "other"] (spF K 2 (bodyF 2 (m_Machine_eqdd a))) := by
  exact fn_d T.f_Machine_eqdd.fn sc_Machine_eqdd fun cdv A outer s H E hr => ⟨_, (dss_one (ds_ret (de_and (de_isO T.cl_Machine T.o_Machine (by rfl) T.n_isinstance (by decide +kernel) (by rfl) T.gC_Machine (de_var 1 (pv 1))) (de_and (de_cmp (op_eqD hr.units) opd_eq (de_fld T.cl_Machine T.no_Machine_letters (de_var 0 (pv 0))) (de_fld T.cl_Machine T.no_Machine_letters (de_var 1 (pv 1))) (nomark _)) (de_and (de_cmp (op_eqD hr.units) opd_eq (de_fld T.cl_Machine T.no_Machine_labels (de_var 0 (pv 0))) (de_fld T.cl_Machine T.no_Machine_labels (de_var 1 (pv 1))) (nomark _)) (de_and (de_cmp (op_eqD hr.units) opd_eq (de_fld T.cl_Machine T.no_Machine_moves (de_var 0 (pv 0))) (de_fld T.cl_Machine T.no_Machine_moves (de_var 1 (pv 1))) (nomark _)) (de_one (de_cmp (op_eqD hr.units) opd_eq (de_fld T.cl_Machine T.no_Machine_ends (de_var 0 (pv 0))) (de_fld T.cl_Machine T.no_Machine_ends (de_var 1 (pv 1))) (nomark _)))))))))⟩
theorem b_known_moves (T : Tx K mg a) {k : Nat} : FnOk P w K mg base CX0 (k + 1) a.f_known_moves a.d_known_moves ["machine"] (spF K 1 (bodyF 2 (m_known_moves a))) := by
  exact fn_d T.f_known_moves.fn sc_known_moves fun cdv A outer s H E hr => ⟨_, (dss_one (ds_ret (de_dc [("move", 1)] hr.units rfl sc_known_moves.nd (di_over (de_fld T.cl_Machine T.no_Machine_moves (de_var 0 (pv 0)))) (blkOk_by (own := [("move", 1)]) (N := N_known_moves) (sc := defScope s_known_moves) (by decide +kernel)) (fun _ _ _ _ _ => (dg_name (i := 1) sc_known_moves.nd rfl (Or.inl rfl))) (fun _ _ _ _ _ => dts_nil) (fun _ _ _ _ _ => (de_var 1 (pv 1))) (fun _ _ _ _ _ => de_bl) (tgin_name (by decide)) (gin_name (by decide)))))⟩
theorem b_without_move (T : Tx K mg a) {k : Nat} {F_known_moves : FM} (h_known_moves : FnOk P w K mg base CX0 k a.f_known_moves a.d_known_moves ["machine"] (spF K 1 F_known_moves)) : FnOk P w K mg base CX0 (k + 1) a.f_without_move a.d_without_move ["machine", "people", "labels"] (spF K 3 (bodyF 10 (m_without_move F_known_moves))) := by
  exact fn_d T.f_without_move.fn sc_without_move fun cdv A outer s H E hr => ⟨_, (dss_cons (ds_set (i := 3) sc_without_move.nd rfl (Or.inl rfl) (de_call h_known_moves hr (by rfl) T.f_known_moves.g T.f_known_moves.k T.f_known_moves.b (da_cons (de_keep (de_var 0 (pv 0))) da_nil) rfl))
  (dss_cons (ds_set (i := 4) sc_without_move.nd rfl (Or.inl rfl) (de_lst da_nil))
  (dss_cons (ds_for PassesOwn.never rfl (di_enumA rfl T.n_enumerate (de_var 1 (pv 1))) (dg_tup rfl (dgs_cons (dg_name (i := 5) sc_without_move.nd rfl (Or.inl rfl)) (dgs_cons (dg_tup rfl (dgs_cons (dg_name (i := 6) sc_without_move.nd rfl (Or.inl rfl)) (dgs_cons (dg_name (i := 7) sc_without_move.nd rfl (Or.inl rfl)) dgs_nil))) dgs_nil)))
  (dss_cons (ds_set (i := 8) sc_without_move.nd rfl (Or.inl rfl) (de_callTy call_tuple_of cd_tuple (by rfl) T.n_tuple (by decide +kernel) (da_cons (de_lc [("child", 9)] rfl sc_without_move.nd (di_over (de_var 7 (pv 7))) (blkOk_by (own := [("child", 9)]) (N := N_without_move) (sc := defScope s_without_move) (by decide +kernel)) (fun _ _ _ _ _ => (dg_name (i := 9) sc_without_move.nd rfl (Or.inl rfl))) (fun _ _ _ _ _ => dts_nil) (fun _ _ _ _ _ => (de_ix ix_seq opd_ix (de_var 2 (pv 2)) (de_var 9 (pv 9)) (fun _ _ => rfl))) (tgin_name (by decide)) (gin_name (by decide))) da_nil)))
  (dss_one (ds_if (dt_cmp (op_notInX hr.units1) opd_notInX (de_tup (da_cons (de_keep (de_var 6 (pv 6))) (da_cons (de_keep (de_var 8 (pv 8))) (da_cons (de_keep (de_ix ix_seq opd_ix (de_var 2 (pv 2)) (de_var 5 (pv 5)) (fun _ _ => rfl))) da_nil)))) (de_var 3 (pv 3)) rfl)
  (dss_one (ds_app (i := 4) (pv 4) (de_var 5 (pv 5))))
  dss_nil))))
  (dss_one (ds_ret (de_var 4 (pv 4)))))))⟩
theorem b_objectors (T : Tx K mg a) {k : Nat} {F_people_of : FM} (h_people_of : FnOk P w K mg base CX0 k a.f_people_of a.d_people_of ["tree"] (spF K 1 F_people_of)) {F_without_move : FM} (h_without_move : FnOk P w K mg base CX0 k a.f_without_move a.d_without_move ["machine", "people", "labels"] (spF K 3 F_without_move)) : FnOk P w K mg base CX0 (k + 1) a.f_objectors a.d_objectors ["machine", "tree", "labels"] (spF K 3 (bodyF 6 (m_objectors a F_people_of F_without_move))) := by
  exact fn_d T.f_objectors.fn sc_objectors fun cdv A outer s H E hr => ⟨_, (dss_cons (ds_set (i := 3) sc_objectors.nd rfl (Or.inl rfl) (de_call h_people_of hr (by rfl) T.f_people_of.g T.f_people_of.k T.f_people_of.b (da_cons (de_keep (de_var 1 (pv 1))) da_nil) rfl))
  (dss_cons (ds_set (i := 4) sc_objectors.nd rfl (Or.inl rfl) (de_call h_without_move hr (by rfl) T.f_without_move.g T.f_without_move.k T.f_without_move.b (da_cons (de_keep (de_var 0 (pv 0))) (da_cons (de_keep (de_var 3 (pv 3))) (da_cons (de_keep (de_var 2 (pv 2))) da_nil))) rfl))
  (dss_cons (ds_set (i := 5) sc_objectors.nd rfl (Or.inl rfl) (de_op op_sub opd_sub (de_callB call_len cd_len (by rfl) T.n_len (by decide +kernel) (da_cons (de_var 3 (pv 3)) da_nil)) de_int))
  (dss_cons (ds_if (DW.dt (dw_and (dt_cmp (op_notInA hr.units1) opd_notIn (de_ix ix_seq opd_ix (de_var 2 (pv 2)) (de_var 5 (pv 5)) (fun _ _ => rfl)) (de_fld T.cl_Machine T.no_Machine_ends (de_var 0 (pv 0))) rfl) (dw_and1 (dt_cmp (op_notInA hr.units1) opd_notIn (de_var 5 (pv 5)) (de_var 4 (pv 4)) rfl))))
  (dss_one (ds_app (i := 4) (pv 4) (de_var 5 (pv 5))))
  dss_nil)
  (dss_one (ds_ret (de_var 4 (pv 4))))))))⟩
theorem b_ring_objectors (T : Tx K mg a) {k : Nat} {F_without_move : FM} (h_without_move : FnOk P w K mg base CX0 k a.f_without_move a.d_without_move ["machine", "people", "labels"] (spF K 3 F_without_move)) : FnOk P w K mg base CX0 (k + 1) a.f_ring_objectors a.d_ring_objectors ["machine", "ring", "labels"] (spF K 3 (bodyF 5 (m_ring_objectors F_without_move))) := by
  exact fn_d T.f_ring_objectors.fn sc_ring_objectors fun cdv A outer s H E hr => ⟨_, (dss_one (ds_ret (de_call h_without_move hr (by rfl) T.f_without_move.g T.f_without_move.k T.f_without_move.b (da_cons (de_keep (de_var 0 (pv 0))) (da_cons (de_keep (de_lc [("at", 3), ("letter", 4)] rfl sc_ring_objectors.nd (di_enumA rfl T.n_enumerate (de_var 1 (pv 1))) (blkOk_by (own := [("at", 3), ("letter", 4)]) (N := N_ring_objectors) (sc := defScope s_ring_objectors) (by decide +kernel)) (fun _ _ _ _ _ => (dg_tup rfl (dgs_cons (dg_name (i := 3) sc_ring_objectors.nd rfl (Or.inl rfl)) (dgs_cons (dg_name (i := 4) sc_ring_objectors.nd rfl (Or.inl rfl)) dgs_nil)))) (fun _ _ _ _ _ => dts_nil) (fun _ _ _ _ _ => (de_tup (da_cons (de_keep (de_var 4 (pv 4))) (da_cons (de_keep (de_tup (da_cons (de_keep (de_op op_sub opd_sub (de_var 3 (pv 3)) de_int)) da_nil))) da_nil)))) (tgin_tup (tgsin_cons (tgin_name (by decide)) (tgsin_cons (tgin_name (by decide)) tgsin_nil))) (gin_tup (gsin_cons (gin_name (by decide)) (gsin_cons (gin_name (by decide)) gsin_nil))))) (da_cons (de_keep (de_var 2 (pv 2))) da_nil))) rfl)))⟩
theorem b_law_draw (T : Tx K mg a) {k : Nat} : FnOk P w K mg base CX0 (k + 1) a.f_law_draw a.d_law_draw ["pool", "size"] (spF K 2 (bodyF 4 (m_law_draw))) := by
  exact fn_d T.f_law_draw.fn sc_law_draw fun cdv A outer s H E hr => ⟨_, (dss_cons (ds_if (DW.dt (dw_and (dt_cmp op_leA opd_S (de_ix ix_seq opd_ix (de_var 0 (pv 0)) de_int (fun _ _ => rfl)) de_int (nomark _)) (dw_and (dt_cmp op_leA opd_S (de_ix ix_seq opd_ix (de_var 0 (pv 0)) de_int (fun _ _ => rfl)) de_int (nomark _)) (dw_and1 (dt_cmp op_ltA opd_S (de_ix ix_seq opd_ix (de_var 0 (pv 0)) de_int (fun _ _ => rfl)) (de_callB call_len cd_len (by rfl) T.n_len (by decide +kernel) (da_cons (de_ix ix_seq opd_ix (de_var 0 (pv 0)) de_int (fun _ _ => rfl)) da_nil)) (nomark _))))))
  (dss_cons (ds_set (i := 2) sc_law_draw.nd rfl (Or.inl rfl) (de_ix ix_seq opd_ix (de_ix ix_seq opd_ix (de_var 0 (pv 0)) de_int (fun _ _ => rfl)) (de_ix ix_seq opd_ix (de_var 0 (pv 0)) de_int (fun _ _ => rfl)) (fun _ _ => rfl)))
  (dss_cons (ds_put (i := 0) (pv 0) de_int (de_op op_addA opd_add (de_ix ix_seq opd_ix (de_var 0 (pv 0)) de_int (fun _ _ => rfl)) de_int))
  (dss_cons (ds_put (i := 0) (pv 0) de_int (de_op op_mod opd_mod (de_callTy call_intA cd_int (by rfl) T.n_int (by decide +kernel) (da_cons (de_op op_addA opd_add (de_op op_mul opd_mul (de_ix ix_seq opd_ix (de_var 0 (pv 0)) de_int (fun _ _ => rfl)) de_int) (de_var 2 (pv 2))) da_nil)) de_int))
  (dss_cons (ds_put (i := 0) (pv 0) de_int de_int)
  (dss_one (ds_if (dt_cmp op_geA opd_S (de_var 2 (pv 2)) (de_op op_pow opd_pow de_int de_int) (nomark _))
  (dss_one (ds_put (i := 0) (pv 0) de_int (de_var 2 (pv 2))))
  dss_nil))))))
  dss_nil)
  (dss_cons (ds_if (dt_cmp op_gtA opd_S (de_ix ix_seq opd_ix (de_var 0 (pv 0)) de_int (fun _ _ => rfl)) de_int (nomark _))
  (dss_cons (ds_set (i := 3) sc_law_draw.nd rfl (Or.inl rfl) (de_op op_mod opd_mod (de_callTy call_intA cd_int (by rfl) T.n_int (by decide +kernel) (da_cons (de_ix ix_seq opd_ix (de_var 0 (pv 0)) de_int (fun _ _ => rfl)) da_nil)) (de_var 1 (pv 1))))
  (dss_cons (ds_put (i := 0) (pv 0) de_int (de_op op_fdivW opd_div (de_ix ix_seq opd_ix (de_var 0 (pv 0)) de_int (fun _ _ => rfl)) (de_var 1 (pv 1))))
  (dss_cons (ds_put (i := 0) (pv 0) de_int de_int)
  (dss_one (ds_ret (de_var 3 (pv 3)))))))
  dss_nil)
  (dss_cons (ds_put (i := 0) (pv 0) de_int (de_op op_sub opd_sub (de_ix ix_seq opd_ix (de_var 0 (pv 0)) de_int (fun _ _ => rfl)) de_int))
  (dss_cons (ds_put (i := 0) (pv 0) de_int (de_op op_mod opd_mod (de_callTy call_intA cd_int (by rfl) T.n_int (by decide +kernel) (da_cons (de_op op_addA opd_add (de_op op_mul opd_mul (de_ix ix_seq opd_ix (de_var 0 (pv 0)) de_int (fun _ _ => rfl)) de_int) de_int) da_nil)) de_int))
  (dss_one (ds_ret (de_op op_mod opd_mod (de_op op_mod opd_mod (de_callTy call_intA cd_int (by rfl) T.n_int (by decide +kernel) (da_cons (de_op op_addA opd_add (de_op op_mul opd_mul (de_ix ix_seq opd_ix (de_var 0 (pv 0)) de_int (fun _ _ => rfl)) de_int) de_int) da_nil)) de_int) (de_var 1 (pv 1)))))))))⟩
theorem b_law_same (T : Tx K mg a) {k : Nat} {F_law_same : FM} (h_law_same : FnOk P w K mg base CX0 k a.f_law_same a.d_law_same ["actual", "due"] (spF K 2 F_law_same)) : FnOk P w K mg base CX0 (k + 1) a.f_law_same a.d_law_same ["actual", "due"] (spF K 2 (bodyF 3 (m_law_same F_law_same))) := by
  exact fn_d T.f_law_same.fn sc_law_same fun cdv A outer s H E hr => ⟨_, (dss_cons (ds_if (DW.dt (dw_or (dt_tru (de_isi rfl T.n_isinstance (by decide +kernel) rfl T.n_tuple (by decide +kernel) (de_var 1 (pv 1)))) (dw_or1 (dt_tru (de_isi rfl T.n_isinstance (by decide +kernel) rfl T.n_list (by decide +kernel) (de_var 1 (pv 1)))))))
  (dss_cons (ds_if (DW.dt (dw_or (dt_cmp (op_neD hr.units) opd_ne (de_isi rfl T.n_isinstance (by decide +kernel) rfl T.n_tuple (by decide +kernel) (de_var 1 (pv 1))) (de_isi rfl T.n_isinstance (by decide +kernel) rfl T.n_tuple (by decide +kernel) (de_var 0 (pv 0))) (nomark _)) (dw_or1 (dt_cmp (op_neD hr.units) opd_ne (de_isi rfl T.n_isinstance (by decide +kernel) rfl T.n_list (by decide +kernel) (de_var 1 (pv 1))) (de_isi rfl T.n_isinstance (by decide +kernel) rfl T.n_list (by decide +kernel) (de_var 0 (pv 0))) (nomark _)))))
  (dss_one (ds_ret de_bl))
  dss_nil)
  (dss_cons (ds_if (dt_cmp (op_neD hr.units) opd_ne (de_callB call_len cd_len (by rfl) T.n_len (by decide +kernel) (da_cons (de_var 0 (pv 0)) da_nil)) (de_callB call_len cd_len (by rfl) T.n_len (by decide +kernel) (da_cons (de_var 1 (pv 1)) da_nil)) (nomark _))
  (dss_one (ds_ret de_bl))
  dss_nil)
  (dss_cons (ds_for PassesOwn.never rfl (di_rng1 rfl T.n_range (de_callB call_len cd_len (by rfl) T.n_len (by decide +kernel) (da_cons (de_var 1 (pv 1)) da_nil))) (dg_name (i := 2) sc_law_same.nd rfl (Or.inl rfl))
  (dss_one (ds_if (dt_not (dt_tru (de_call h_law_same hr (by rfl) T.f_law_same.g T.f_law_same.k T.f_law_same.b (da_cons (de_keep (de_ix ix_seq opd_ix (de_var 0 (pv 0)) (de_var 2 (pv 2)) (fun _ _ => rfl))) (da_cons (de_keep (de_ix ix_seq opd_ix (de_var 1 (pv 1)) (de_var 2 (pv 2)) (fun _ _ => rfl))) da_nil)) rfl)))
  (dss_one (ds_ret de_bl))
  dss_nil)))
  (dss_one (ds_ret de_bl)))))
  dss_nil)
  (dss_cons (ds_if (DW.dt (dw_or (dt_cmp op_isN opd_is (de_var 1 (pv 1)) de_non (nomark _)) (dw_or1 (dt_tru (de_isi rfl T.n_isinstance (by decide +kernel) rfl T.n_bool (by decide +kernel) (de_var 1 (pv 1)))))))
  (dss_one (ds_ret (de_and (de_cmp (op_eqD hr.units) opd_eq (de_cmp op_isN opd_is (de_var 0 (pv 0)) de_non (nomark _)) (de_cmp op_isN opd_is (de_var 1 (pv 1)) de_non (nomark _)) (nomark _)) (de_and (de_or (de_cmp op_isN opd_is (de_var 1 (pv 1)) de_non (nomark _)) (de_one (de_isi rfl T.n_isinstance (by decide +kernel) rfl T.n_bool (by decide +kernel) (de_var 0 (pv 0))))) (de_one (de_cmp (op_eqD hr.units) opd_eq (de_var 0 (pv 0)) (de_var 1 (pv 1)) (nomark _)))))))
  dss_nil)
  (dss_cons (ds_if (dt_tru (de_isi rfl T.n_isinstance (by decide +kernel) rfl T.n_int (by decide +kernel) (de_var 1 (pv 1))))
  (dss_one (ds_ret (de_and (de_isi rfl T.n_isinstance (by decide +kernel) rfl T.n_int (by decide +kernel) (de_var 0 (pv 0))) (de_and (de_not (de_isi rfl T.n_isinstance (by decide +kernel) rfl T.n_bool (by decide +kernel) (de_var 0 (pv 0)))) (de_one (de_cmp (op_eqD hr.units) opd_eq (de_var 0 (pv 0)) (de_var 1 (pv 1)) (nomark _)))))))
  dss_nil)
  (dss_one (ds_ret (de_and (de_isi rfl T.n_isinstance (by decide +kernel) rfl T.n_str (by decide +kernel) (de_var 0 (pv 0))) (de_one (de_cmp (op_eqD hr.units) opd_eq (de_var 0 (pv 0)) (de_var 1 (pv 1)) (nomark _)))))))))⟩
theorem b_law_machine (T : Tx K mg a) {k : Nat} {F_law_draw : FM} (h_law_draw : FnOk P w K mg base CX0 k a.f_law_draw a.d_law_draw ["pool", "size"] (spF K 2 F_law_draw)) : FnOk P w K mg base CX0 (k + 1) a.f_law_machine a.d_law_machine ["pool", "letters", "labels", "many"] (spF K 4 (bodyF 11 (m_law_machine F_law_draw))) := by
  exact fn_d T.f_law_machine.fn sc_law_machine fun cdv A outer s H E hr => ⟨_, (dss_cons (ds_set (i := 4) sc_law_machine.nd rfl (Or.inl rfl) (de_lst da_nil))
  (dss_cons (ds_for PassesOwn.never rfl (di_rng1 rfl T.n_range (de_call h_law_draw hr (by rfl) T.f_law_draw.g T.f_law_draw.k T.f_law_draw.b (da_cons (de_keep (de_var 0 (pv 0))) (da_cons (de_keep (de_op op_addA opd_add (de_var 3 (pv 3)) de_int)) da_nil)) rfl)) (dg_name (i := 5) sc_law_machine.nd rfl (Or.inl rfl))
  (dss_cons (ds_set (i := 6) sc_law_machine.nd rfl (Or.inl rfl) (de_ix ix_seq opd_ix (de_tup (da_cons (de_keep de_int) (da_cons (de_keep de_int) (da_cons (de_keep de_int) (da_cons (de_keep de_int) da_nil))))) (de_call h_law_draw hr (by rfl) T.f_law_draw.g T.f_law_draw.k T.f_law_draw.b (da_cons (de_keep (de_var 0 (pv 0))) (da_cons (de_keep de_int) da_nil)) rfl) (fun _ _ => rfl)))
  (dss_cons (ds_set (i := 7) sc_law_machine.nd rfl (Or.inl rfl) (de_callTy call_tuple_of cd_tuple (by rfl) T.n_tuple (by decide +kernel) (da_cons (de_lc [("turn", 10)] rfl sc_law_machine.nd (di_rng1 rfl T.n_range (de_var 6 (pv 6))) (blkOk_by (own := [("turn", 10)]) (N := N_law_machine) (sc := defScope s_law_machine) (by decide +kernel)) (fun _ _ _ _ _ => (dg_name (i := 10) sc_law_machine.nd rfl (Or.inl rfl))) (fun _ _ _ _ _ => dts_nil) (fun _ _ _ _ _ => (de_call h_law_draw hr (by rfl) T.f_law_draw.g T.f_law_draw.k T.f_law_draw.b (da_cons (de_keep (de_var 0 (pv 0))) (da_cons (de_keep (de_var 2 (pv 2))) da_nil)) rfl)) (tgin_name (by decide)) (gin_name (by decide))) da_nil)))
  (dss_one (ds_app (i := 4) (pv 4) (de_tup (da_cons (de_keep (de_call h_law_draw hr (by rfl) T.f_law_draw.g T.f_law_draw.k T.f_law_draw.b (da_cons (de_keep (de_var 0 (pv 0))) (da_cons (de_keep (de_var 1 (pv 1))) da_nil)) rfl)) (da_cons (de_keep (de_var 7 (pv 7))) (da_cons (de_keep (de_call h_law_draw hr (by rfl) T.f_law_draw.g T.f_law_draw.k T.f_law_draw.b (da_cons (de_keep (de_var 0 (pv 0))) (da_cons (de_keep (de_var 2 (pv 2))) da_nil)) rfl)) da_nil)))))))))
  (dss_cons (ds_setLc (i := 8) [("label", 9)] rfl rfl (sw_true rfl rfl rfl (by decide +kernel)) rfl sc_law_machine.nd (di_rng1 rfl T.n_range (de_var 2 (pv 2))) (blkOk_by (own := [("label", 9)]) (N := N_law_machine) (sc := defScope s_law_machine) (by decide +kernel)) (fun _ _ _ _ _ => (dg_name (i := 9) sc_law_machine.nd rfl (Or.inl rfl))) (fun _ _ _ _ _ => (dts_one (dt_cmp (op_eqD hr.units) opd_eq (de_call h_law_draw hr (by rfl) T.f_law_draw.g T.f_law_draw.k T.f_law_draw.b (da_cons (de_keep (de_var 0 (pv 0))) (da_cons (de_keep de_int) da_nil)) rfl) de_int (nomark _)))) (fun _ _ _ _ _ => (de_var 9 (pv 9))) (tgin_name (by decide)) (gin_name (by decide)))
  (dss_one (ds_ret (de_tup (da_cons (de_keep (de_var 1 (pv 1))) (da_cons (de_keep (de_var 2 (pv 2))) (da_cons (de_keep (de_var 4 (pv 4))) (da_cons (de_keep (de_var 8 (pv 8))) da_nil))))))))))⟩
theorem b_law_tree (T : Tx K mg a) {k : Nat} {F_law_draw : FM} (h_law_draw : FnOk P w K mg base CX0 k a.f_law_draw a.d_law_draw ["pool", "size"] (spF K 2 F_law_draw)) {F_law_tree : FMI} (h_law_tree : FnOk P w K mg base CX0 k a.f_law_tree a.d_law_tree ["pool", "letters", "left"] (spI K 3 F_law_tree)) : FnOk P w K mg base CX0 (k + 1) a.f_law_tree a.d_law_tree ["pool", "letters", "left"] (spI K 3 (bodyI 7 (m_law_tree F_law_draw F_law_tree))) := by
  exact fn_dI T.f_law_tree.fn sc_law_tree fun cdv A outer s H E hr => ⟨_, (dss_cons (ds_set (i := 3) sc_law_tree.nd rfl (Or.inl rfl) (de_call h_law_draw hr (by rfl) T.f_law_draw.g T.f_law_draw.k T.f_law_draw.b (da_cons (de_keep (de_var 0 (pv 0))) (da_cons (de_keep (de_var 1 (pv 1))) da_nil)) rfl))
  (dss_cons (ds_set (i := 4) sc_law_tree.nd rfl (Or.inl rfl) (de_ix ix_seq opd_ix (de_tup (da_cons (de_keep de_int) (da_cons (de_keep de_int) (da_cons (de_keep de_int) (da_cons (de_keep de_int) (da_cons (de_keep de_int) da_nil)))))) (de_call h_law_draw hr (by rfl) T.f_law_draw.g T.f_law_draw.k T.f_law_draw.b (da_cons (de_keep (de_var 0 (pv 0))) (da_cons (de_keep de_int) da_nil)) rfl) (fun _ _ => rfl)))
  (dss_cons (ds_set (i := 5) sc_law_tree.nd rfl (Or.inl rfl) (de_lst da_nil))
  (dss_cons (ds_for PassesOwn.never rfl (di_rng1 rfl T.n_range (de_var 4 (pv 4))) (dg_name (i := 6) sc_law_tree.nd rfl (Or.inl rfl))
  (dss_one (ds_if (dt_cmp op_gtA opd_S (de_ixF (i := 2) (pv 2) de_int (fun _ _ => rfl)) de_int (nomark _))
  (dss_cons (ds_putF (i := 2) (pv 2) de_int (de_op op_sub opd_sub (de_ixF (i := 2) (pv 2) de_int (fun _ _ => rfl)) de_int))
  (dss_one (ds_appP (j := 5) (pv 5) (dp_callF h_law_tree hr (by rfl) T.f_law_tree.g T.f_law_tree.k T.f_law_tree.b (dfa_cons (de_keep (de_var 0 (pv 0))) (dfa_cons (de_keep (de_var 1 (pv 1))) (dfa_end (i := 2) (pv 2)))) rfl))))
  dss_nil)))
  (dss_one (ds_ret (de_tup (da_cons (de_keep (de_var 3 (pv 3))) (da_cons (de_keep (de_callTy call_tuple_of cd_tuple (by rfl) T.n_tuple (by decide +kernel) (da_cons (de_var 5 (pv 5)) da_nil))) da_nil)))))))))⟩
theorem b_law_nodes (T : Tx K mg a) {k : Nat} {F_law_nodes : FM} (h_law_nodes : FnOk P w K mg base CX0 k a.f_law_nodes a.d_law_nodes ["tree"] (spF K 1 F_law_nodes)) : FnOk P w K mg base CX0 (k + 1) a.f_law_nodes a.d_law_nodes ["tree"] (spF K 1 (bodyF 9 (m_law_nodes F_law_nodes))) := by
  exact fn_d T.f_law_nodes.fn sc_law_nodes fun cdv A outer s H E hr => ⟨_, (dss_cons (ds_set (i := 1) sc_law_nodes.nd rfl (Or.inl rfl) (de_lst da_nil))
  (dss_cons (ds_set (i := 2) sc_law_nodes.nd rfl (Or.inl rfl) (de_lst da_nil))
  (dss_cons (ds_for PassesOwn.never rfl (di_over (de_ix ix_seq opd_ix (de_var 0 (pv 0)) de_int (fun _ _ => rfl))) (dg_name (i := 3) sc_law_nodes.nd rfl (Or.inl rfl))
  (dss_cons (ds_set (i := 4) sc_law_nodes.nd rfl (Or.inl rfl) (de_call h_law_nodes hr (by rfl) T.f_law_nodes.g T.f_law_nodes.k T.f_law_nodes.b (da_cons (de_keep (de_var 3 (pv 3))) da_nil) rfl))
  (dss_cons (ds_set (i := 5) sc_law_nodes.nd rfl (Or.inr rfl) (de_callB call_len cd_len (by rfl) T.n_len (by decide +kernel) (da_cons (de_var 1 (pv 1)) da_nil)))
  (dss_cons (ds_set (i := 1) sc_law_nodes.nd rfl (Or.inl rfl) (de_op op_addA opd_add (de_var 1 (pv 1)) (de_lc [("letter", 6), ("children", 7)] rfl sc_law_nodes.nd (di_over (de_var 4 (pv 4))) (blkOk_by (own := [("letter", 6), ("children", 7)]) (N := N_law_nodes) (sc := defScope s_law_nodes) (by decide +kernel)) (fun _ _ _ _ _ => (dg_tup rfl (dgs_cons (dg_name (i := 6) sc_law_nodes.nd rfl (Or.inl rfl)) (dgs_cons (dg_name (i := 7) sc_law_nodes.nd rfl (Or.inl rfl)) dgs_nil)))) (fun _ _ _ _ _ => dts_nil) (fun _ _ _ _ _ => (de_tup (da_cons (de_keep (de_var 6 (pv 6))) (da_cons (de_keep (de_callTy call_tuple_of cd_tuple (by rfl) T.n_tuple (by decide +kernel) (da_cons (de_lc [("own", 8)] rfl sc_law_nodes.nd (di_over (de_var 7 (pv 7))) (blkOk_by (own := [("own", 8)]) (N := N_law_nodes) (sc := ({ kind := .function, names := [(".0", .local), ("letter", .local), ("children", .local), ("tuple", .globalImplicit), ("shift", .cell)], isGenerator := false, isCoroutine := false } : Scope)) (by decide +kernel)) (fun _ _ _ _ _ => (dg_name (i := 8) sc_law_nodes.nd rfl (Or.inl rfl))) (fun _ _ _ _ _ => dts_nil) (fun _ _ _ _ _ => (de_op op_addA opd_add (de_var 8 (pv 8)) (de_var 5 (pv 5)))) (tgin_name (by decide)) (gin_name (by decide))) da_nil))) da_nil)))) (tgin_tup (tgsin_cons (tgin_name (by decide)) (tgsin_cons (tgin_name (by decide)) tgsin_nil))) (gin_tup (gsin_cons (gin_name (by decide)) (gsin_cons (gin_name (by decide)) gsin_nil))))))
  (dss_one (ds_app (i := 2) (pv 2) (de_op op_sub opd_sub (de_callB call_len cd_len (by rfl) T.n_len (by decide +kernel) (da_cons (de_var 1 (pv 1)) da_nil)) de_int)))))))
  (dss_one (ds_ret (de_op op_addA opd_add (de_var 1 (pv 1)) (de_lst (da_cons (de_keep (de_tup (da_cons (de_keep (de_ix ix_seq opd_ix (de_var 0 (pv 0)) de_int (fun _ _ => rfl))) (da_cons (de_keep (de_callTy call_tuple_of cd_tuple (by rfl) T.n_tuple (by decide +kernel) (da_cons (de_var 2 (pv 2)) da_nil))) da_nil)))) da_nil))))))))⟩
theorem b_law_row_tree (T : Tx K mg a) {k : Nat} : FnOk P w K mg base CX0 (k + 1) a.f_law_row_tree a.d_law_row_tree ["row"] (spF K 1 (bodyF 3 (m_law_row_tree))) := by
  exact fn_d T.f_law_row_tree.fn sc_law_row_tree fun cdv A outer s H E hr => ⟨_, (dss_cons (ds_set (i := 1) sc_law_row_tree.nd rfl (Or.inl rfl) (de_tup (da_cons (de_keep (de_ix ix_seq opd_ix (de_var 0 (pv 0)) de_int (fun _ _ => rfl))) (da_cons (de_keep (de_tup da_nil)) da_nil))))
  (dss_cons (ds_for PassesOwn.never rfl (di_over (de_slice (de_var 0 (pv 0)) (do_some de_int) do_none)) (dg_name (i := 2) sc_law_row_tree.nd rfl (Or.inl rfl))
  (dss_one (ds_set (i := 1) sc_law_row_tree.nd rfl (Or.inl rfl) (de_tup (da_cons (de_keep (de_var 2 (pv 2))) (da_cons (de_keep (de_tup (da_cons (de_keep (de_var 1 (pv 1))) da_nil))) da_nil))))))
  (dss_one (ds_ret (de_var 1 (pv 1))))))⟩
theorem b_law_shape (T : Tx K mg a) {k : Nat} {F_law_draw : FM} (h_law_draw : FnOk P w K mg base CX0 k a.f_law_draw a.d_law_draw ["pool", "size"] (spF K 2 F_law_draw)) {F_law_row_tree : FM} (h_law_row_tree : FnOk P w K mg base CX0 k a.f_law_row_tree a.d_law_row_tree ["row"] (spF K 1 F_law_row_tree)) {F_law_tree : FML} (h_law_tree : FnOk P w K mg base CX0 k a.f_law_tree a.d_law_tree ["pool", "letters", "left"] (spL K 3 F_law_tree)) : FnOk P w K mg base CX0 (k + 1) a.f_law_shape a.d_law_shape ["pool", "letters", "most"] (spF K 3 (bodyF 4 (m_law_shape F_law_draw F_law_row_tree F_law_tree))) := by
  exact fn_d T.f_law_shape.fn sc_law_shape fun cdv A outer s H E hr => ⟨_, (dss_cons (ds_if (dt_cmp (op_eqD hr.units) opd_eq (de_call h_law_draw hr (by rfl) T.f_law_draw.g T.f_law_draw.k T.f_law_draw.b (da_cons (de_keep (de_var 0 (pv 0))) (da_cons (de_keep de_int) da_nil)) rfl) de_int (nomark _))
  (dss_one (ds_ret (de_call h_law_row_tree hr (by rfl) T.f_law_row_tree.g T.f_law_row_tree.k T.f_law_row_tree.b (da_cons (de_keep (de_lc [("k", 3)] rfl sc_law_shape.nd (di_rng1 rfl T.n_range (de_op op_addA opd_add de_int (de_call h_law_draw hr (by rfl) T.f_law_draw.g T.f_law_draw.k T.f_law_draw.b (da_cons (de_keep (de_var 0 (pv 0))) (da_cons (de_keep (de_var 2 (pv 2))) da_nil)) rfl))) (blkOk_by (own := [("k", 3)]) (N := N_law_shape) (sc := defScope s_law_shape) (by decide +kernel)) (fun _ _ _ _ _ => (dg_name (i := 3) sc_law_shape.nd rfl (Or.inl rfl))) (fun _ _ _ _ _ => dts_nil) (fun _ _ _ _ _ => (de_call h_law_draw hr (by rfl) T.f_law_draw.g T.f_law_draw.k T.f_law_draw.b (da_cons (de_keep (de_var 0 (pv 0))) (da_cons (de_keep (de_var 1 (pv 1))) da_nil)) rfl)) (tgin_name (by decide)) (gin_name (by decide)))) da_nil) rfl)))
  dss_nil)
  (dss_one (ds_ret (de_callL h_law_tree hr (by rfl) T.f_law_tree.g T.f_law_tree.k T.f_law_tree.b (dla_cons (de_keep (de_var 0 (pv 0))) (dla_cons (de_keep (de_var 1 (pv 1))) (dla_end (de_lst (da_cons (de_keep (de_call h_law_draw hr (by rfl) T.f_law_draw.g T.f_law_draw.k T.f_law_draw.b (da_cons (de_keep (de_var 0 (pv 0))) (da_cons (de_keep (de_var 2 (pv 2))) da_nil)) rfl)) da_nil))))) rfl))))⟩
theorem b_law_objects (T : Tx K mg a) {k : Nat} : FnOk P w K mg base CX0 (k + 1) a.f_law_objects a.d_law_objects ["machine", "nodes", "labels"] (spF K 3 (bodyF 9 (m_law_objects))) := by
  exact fn_d T.f_law_objects.fn sc_law_objects fun cdv A outer s H E hr => ⟨_, (dss_cons (ds_set (i := 3) sc_law_objects.nd rfl (Or.inl rfl) (de_lst da_nil))
  (dss_cons (ds_for PassesOwn.never rfl (di_rng1 rfl T.n_range (de_callB call_len cd_len (by rfl) T.n_len (by decide +kernel) (da_cons (de_var 1 (pv 1)) da_nil))) (dg_name (i := 4) sc_law_objects.nd rfl (Or.inl rfl))
  (dss_cons (ds_asg (de_ix ix_seq opd_ix (de_var 1 (pv 1)) (de_var 4 (pv 4)) (fun _ _ => rfl)) (dg_tup rfl (dgs_cons (dg_name (i := 5) sc_law_objects.nd rfl (Or.inl rfl)) (dgs_cons (dg_name (i := 6) sc_law_objects.nd rfl (Or.inl rfl)) dgs_nil))))
  (dss_cons (ds_set (i := 7) sc_law_objects.nd rfl (Or.inl rfl) (de_cmp (op_inA hr.units1) opd_in (de_tup (da_cons (de_keep (de_var 5 (pv 5))) (da_cons (de_keep (de_callTy call_tuple_of cd_tuple (by rfl) T.n_tuple (by decide +kernel) (da_cons (de_lc [("child", 8)] rfl sc_law_objects.nd (di_over (de_var 6 (pv 6))) (blkOk_by (own := [("child", 8)]) (N := N_law_objects) (sc := defScope s_law_objects) (by decide +kernel)) (fun _ _ _ _ _ => (dg_name (i := 8) sc_law_objects.nd rfl (Or.inl rfl))) (fun _ _ _ _ _ => dts_nil) (fun _ _ _ _ _ => (de_ix ix_seq opd_ix (de_var 2 (pv 2)) (de_var 8 (pv 8)) (fun _ _ => rfl))) (tgin_name (by decide)) (gin_name (by decide))) da_nil))) (da_cons (de_keep (de_ix ix_seq opd_ix (de_var 2 (pv 2)) (de_var 4 (pv 4)) (fun _ _ => rfl))) da_nil)))) (de_ix ix_seq opd_ix (de_var 0 (pv 0)) de_int (fun _ _ => rfl)) rfl))
  (dss_cons (ds_if (DW.dt (dw_and (dt_cmp (op_eqD hr.units) opd_eq (de_var 4 (pv 4)) (de_op op_sub opd_sub (de_callB call_len cd_len (by rfl) T.n_len (by decide +kernel) (da_cons (de_var 1 (pv 1)) da_nil)) de_int) (nomark _)) (dw_and1 (dt_cmp (op_notInA hr.units1) opd_notIn (de_ix ix_seq opd_ix (de_var 2 (pv 2)) (de_var 4 (pv 4)) (fun _ _ => rfl)) (de_ix ix_seq opd_ix (de_var 0 (pv 0)) de_int (fun _ _ => rfl)) rfl))))
  (dss_one (ds_set (i := 7) sc_law_objects.nd rfl (Or.inl rfl) de_bl))
  dss_nil)
  (dss_one (ds_if (dt_not (dt_tru (de_var 7 (pv 7))))
  (dss_one (ds_app (i := 3) (pv 3) (de_var 4 (pv 4))))
  dss_nil))))))
  (dss_one (ds_ret (de_var 3 (pv 3))))))⟩
theorem b_law_made (T : Tx K mg a) {k : Nat} {F_Machine_initdd : FMM} (h_Machine_initdd : FnOk PySem.Challenge.pw_someobjects_k10_who_objects w K mg base (L2N.CX PySem.Challenge.pw_someobjects_k10_who_objects w) k a.f_Machine_initdd a.d_Machine_initdd ["self", "letters", "labels", "moves", "ends"] (spM K 5 F_Machine_initdd)) : FnOk PySem.Challenge.pw_someobjects_k10_who_objects w K mg base CX0 (k + 2) a.f_law_made a.d_law_made ["machine"] (spF K 1 (bodyF 1 (m_law_made a F_Machine_initdd))) := by
  exact fn_d T.f_law_made.fn sc_law_made fun cdv A outer s H E hr => ⟨_, (dss_one (ds_ret (de_make T.mk_Machine h_Machine_initdd hr (by rfl) T.gC_Machine T.f_Machine_initdd.b (da_cons (de_keep (de_ix ix_seq opd_ix (de_var 0 (pv 0)) de_int (fun _ _ => rfl))) (da_cons (de_keep (de_ix ix_seq opd_ix (de_var 0 (pv 0)) de_int (fun _ _ => rfl))) (da_cons (de_keep (de_ix ix_seq opd_ix (de_var 0 (pv 0)) de_int (fun _ _ => rfl))) (da_cons (de_keep (de_ix ix_seq opd_ix (de_var 0 (pv 0)) de_int (fun _ _ => rfl))) da_nil)))) rfl)))⟩
theorem b_law_pool (T : Tx K mg a) {k : Nat} : FnOk P w K mg base CX0 (k + 1) a.f_law_pool a.d_law_pool ["script", "budget"] (spF K 2 (bodyF 2 (m_law_pool))) := by
  exact fn_d T.f_law_pool.fn sc_law_pool fun cdv A outer s H E hr => ⟨_, (dss_one (ds_ret (de_lst (da_cons (de_keep (de_callTy call_list_of cd_list (by rfl) T.n_list (by decide +kernel) (da_cons (de_var 0 (pv 0)) da_nil))) (da_cons (de_keep de_int) (da_cons (de_keep de_int) (da_cons (de_keep de_int) (da_cons (de_keep de_int) (da_cons (de_keep (de_var 1 (pv 1))) da_nil)))))))))⟩
theorem b_law (T : Tx K mg a) {k : Nat} {F_law_pool : FM} (h_law_pool : FnOk P w K mg base CX0 k a.f_law_pool a.d_law_pool ["script", "budget"] (spF K 2 F_law_pool)) {F_law_draw : FM} (h_law_draw : FnOk P w K mg base CX0 k a.f_law_draw a.d_law_draw ["pool", "size"] (spF K 2 F_law_draw)) {F_law_machine : FM} (h_law_machine : FnOk P w K mg base CX0 k a.f_law_machine a.d_law_machine ["pool", "letters", "labels", "many"] (spF K 4 F_law_machine)) {F_law_made : FM} (h_law_made : FnOk P w K mg base CX0 k a.f_law_made a.d_law_made ["machine"] (spF K 1 F_law_made)) {F_law_shape : FM} (h_law_shape : FnOk P w K mg base CX0 k a.f_law_shape a.d_law_shape ["pool", "letters", "most"] (spF K 3 F_law_shape)) {F_law_nodes : FM} (h_law_nodes : FnOk P w K mg base CX0 k a.f_law_nodes a.d_law_nodes ["tree"] (spF K 1 F_law_nodes)) {F_law_objects : FM} (h_law_objects : FnOk P w K mg base CX0 k a.f_law_objects a.d_law_objects ["machine", "nodes", "labels"] (spF K 3 F_law_objects)) {F_objectors : FM} (h_objectors : FnOk P w K mg base CX0 k a.f_objectors a.d_objectors ["machine", "tree", "labels"] (spF K 3 F_objectors)) {F_law_same : FM} (h_law_same : FnOk P w K mg base CX0 k a.f_law_same a.d_law_same ["actual", "due"] (spF K 2 F_law_same)) {F_ring_objectors : FM} (h_ring_objectors : FnOk P w K mg base CX0 k a.f_ring_objectors a.d_ring_objectors ["machine", "ring", "labels"] (spF K 3 F_ring_objectors)) {F_Machine_eqdd : FM} (h_Machine_eqdd : FnOk P w K mg base CX0 k a.f_Machine_eqdd a.d_Machine_eqdd ["self", "other"] (spF K 2 F_Machine_eqdd)) : FnOk P w K mg base CX0 (k + 1) a.f_law a.d_law ["script"] (spF K 1 (bodyF 13 (m_law a F_law_pool F_law_draw F_law_machine F_law_made F_law_shape F_law_nodes F_law_objects F_objectors F_law_same F_ring_objectors F_Machine_eqdd))) := by
  exact fn_d T.f_law.fn sc_law fun cdv A outer s H E hr => ⟨_, (dss_pool (i := 1) (de_call h_law_pool hr (by rfl) T.f_law_pool.g T.f_law_pool.k T.f_law_pool.b (da_cons (de_keep (de_var 0 (pv 0))) (da_cons (de_keep de_int) da_nil)) rfl)
  (dss_cons (ds_set (i := 2) sc_law.nd rfl (Or.inr rfl) (de_call h_law_machine hr (by rfl) T.f_law_machine.g T.f_law_machine.k T.f_law_machine.b (da_cons (de_keep (de_var 1 (pv 1))) (da_cons (de_keep (de_op op_addA opd_add de_int (de_call h_law_draw hr (by rfl) T.f_law_draw.g T.f_law_draw.k T.f_law_draw.b (da_cons (de_keep (de_var 1 (pv 1))) (da_cons (de_keep de_int) da_nil)) rfl))) (da_cons (de_keep (de_op op_addA opd_add de_int (de_call h_law_draw hr (by rfl) T.f_law_draw.g T.f_law_draw.k T.f_law_draw.b (da_cons (de_keep (de_var 1 (pv 1))) (da_cons (de_keep de_int) da_nil)) rfl))) (da_cons (de_keep de_int) da_nil)))) rfl))
  (dss_cons (ds_set (i := 3) sc_law.nd rfl (Or.inl rfl) (de_call h_law_made hr (by rfl) T.f_law_made.g T.f_law_made.k T.f_law_made.b (da_cons (de_keep (de_var 2 (pv 2))) da_nil) rfl))
  (dss_cons (ds_for PassesOwn.never rfl (di_rng1 rfl T.n_range de_int) (dg_name (i := 4) sc_law.nd rfl (Or.inl rfl))
  (dss_cons (ds_set (i := 5) sc_law.nd rfl (Or.inl rfl) (de_call h_law_shape hr (by rfl) T.f_law_shape.g T.f_law_shape.k T.f_law_shape.b (da_cons (de_keep (de_var 1 (pv 1))) (da_cons (de_keep (de_op op_addA opd_add (de_ix ix_seq opd_ix (de_var 2 (pv 2)) de_int (fun _ _ => rfl)) (de_callTy call_intA cd_int (by rfl) T.n_int (by decide +kernel) (da_cons (de_cmp (op_eqD hr.units) opd_eq (de_call h_law_draw hr (by rfl) T.f_law_draw.g T.f_law_draw.k T.f_law_draw.b (da_cons (de_keep (de_var 1 (pv 1))) (da_cons (de_keep de_int) da_nil)) rfl) de_int (nomark _)) da_nil)))) (da_cons (de_keep de_int) da_nil))) rfl))
  (dss_cons (ds_set (i := 6) sc_law.nd rfl (Or.inl rfl) (de_call h_law_nodes hr (by rfl) T.f_law_nodes.g T.f_law_nodes.k T.f_law_nodes.b (da_cons (de_keep (de_var 5 (pv 5))) da_nil) rfl))
  (dss_cons (ds_set (i := 7) sc_law.nd rfl (Or.inr rfl) (de_lc [("k", 12)] rfl sc_law.nd (di_rng1 rfl T.n_range (de_callB call_len cd_len (by rfl) T.n_len (by decide +kernel) (da_cons (de_var 6 (pv 6)) da_nil))) (blkOk_by (own := [("k", 12)]) (N := N_law) (sc := defScope s_law) (by decide +kernel)) (fun _ _ _ _ _ => (dg_name (i := 12) sc_law.nd rfl (Or.inl rfl))) (fun _ _ _ _ _ => dts_nil) (fun _ _ _ _ _ => (de_call h_law_draw hr (by rfl) T.f_law_draw.g T.f_law_draw.k T.f_law_draw.b (da_cons (de_keep (de_var 1 (pv 1))) (da_cons (de_keep (de_ix ix_seq opd_ix (de_var 2 (pv 2)) de_int (fun _ _ => rfl))) da_nil)) rfl)) (tgin_name (by decide)) (gin_name (by decide))))
  (dss_cons (ds_set (i := 8) sc_law.nd rfl (Or.inl rfl) (de_pick (de_callTy call_list_of cd_list (by rfl) T.n_list (by decide +kernel) (da_cons (de_var 7 (pv 7)) da_nil)) (de_callTy call_tuple_of cd_tuple (by rfl) T.n_tuple (by decide +kernel) (da_cons (de_var 7 (pv 7)) da_nil)) (de_call h_law_draw hr (by rfl) T.f_law_draw.g T.f_law_draw.k T.f_law_draw.b (da_cons (de_keep (de_var 1 (pv 1))) (da_cons (de_keep de_int) da_nil)) rfl) (fun _ _ => rfl)))
  (dss_cons (ds_set (i := 9) sc_law.nd rfl (Or.inl rfl) (de_either (i := 7) (de_callN h_law_objects hr (by rfl) T.f_law_objects.g T.f_law_objects.k T.f_law_objects.b (dna_cons (de_keep (de_var 2 (pv 2))) (dna_cons (de_keep (de_var 6 (pv 6))) (dna_end (i := 7) (pv 7)))) rfl) (de_call h_law_objects hr (by rfl) T.f_law_objects.g T.f_law_objects.k T.f_law_objects.b (da_cons (de_keep (de_var 2 (pv 2))) (da_cons (de_keep (de_var 6 (pv 6))) (da_cons (de_keep (de_var 7 (pv 7))) da_nil))) rfl)))
  (dss_cons (ds_set (i := 10) sc_law.nd rfl (Or.inl rfl) (de_either (i := 8) (de_callN h_objectors hr (by rfl) T.f_objectors.g T.f_objectors.k T.f_objectors.b (dna_cons (de_keep (de_var 3 (pv 3))) (dna_cons (de_keep (de_var 5 (pv 5))) (dna_end (i := 8) (pv 8)))) rfl) (de_call h_objectors hr (by rfl) T.f_objectors.g T.f_objectors.k T.f_objectors.b (da_cons (de_keep (de_var 3 (pv 3))) (da_cons (de_keep (de_var 5 (pv 5))) (da_cons (de_keep (de_var 8 (pv 8))) da_nil))) rfl)))
  (dss_cons (ds_if (DW.dt (dw_or (dt_not (dt_tru (de_callN1 (i := 10) h_law_same hr (by rfl) T.f_law_same.g T.f_law_same.k T.f_law_same.b (pv 10) (de_keep (de_var 9 (pv 9)))))) (dw_or1 (dt_cmp (op_neD hr.units) opd_ne (de_callTy call_list_of cd_list (by rfl) T.n_list (by decide +kernel) (da_cons (de_var 8 (pv 8)) da_nil)) (de_var 7 (pv 7)) (nomark _)))))
  (dss_one (ds_ret de_bl))
  dss_nil)
  (dss_cons (ds_app (i := 10) (pv 10) de_int)
  (dss_cons (ds_if (dt_not (dt_tru (de_call h_law_same hr (by rfl) T.f_law_same.g T.f_law_same.k T.f_law_same.b (da_cons (de_keep (de_either (i := 8) (de_callN h_objectors hr (by rfl) T.f_objectors.g T.f_objectors.k T.f_objectors.b (dna_cons (de_keep (de_var 3 (pv 3))) (dna_cons (de_keep (de_var 5 (pv 5))) (dna_end (i := 8) (pv 8)))) rfl) (de_call h_objectors hr (by rfl) T.f_objectors.g T.f_objectors.k T.f_objectors.b (da_cons (de_keep (de_var 3 (pv 3))) (da_cons (de_keep (de_var 5 (pv 5))) (da_cons (de_keep (de_var 8 (pv 8))) da_nil))) rfl))) (da_cons (de_keep (de_var 9 (pv 9))) da_nil)) rfl)))
  (dss_one (ds_ret de_bl))
  dss_nil)
  (dss_cons (ds_if (dt_tru (de_isi rfl T.n_isinstance (by decide +kernel) rfl T.n_list (by decide +kernel) (de_var 8 (pv 8))))
  (dss_cons (ds_put (i := 7) (pv 7) de_int (de_op op_mod opd_mod (de_callTy call_intA cd_int (by rfl) T.n_int (by decide +kernel) (da_cons (de_op op_addA opd_add (de_ix ix_seq opd_ix (de_var 7 (pv 7)) de_int (fun _ _ => rfl)) de_int) da_nil)) (de_ix ix_seq opd_ix (de_var 2 (pv 2)) de_int (fun _ _ => rfl))))
  (dss_one (ds_put (i := 8) (pv 8) de_int (de_ix ix_seq opd_ix (de_var 7 (pv 7)) de_int (fun _ _ => rfl)))))
  dss_nil)
  (dss_cons (ds_if (dt_not (dt_tru (de_call h_law_same hr (by rfl) T.f_law_same.g T.f_law_same.k T.f_law_same.b (da_cons (de_keep (de_either (i := 8) (de_callN h_objectors hr (by rfl) T.f_objectors.g T.f_objectors.k T.f_objectors.b (dna_cons (de_keep (de_var 3 (pv 3))) (dna_cons (de_keep (de_var 5 (pv 5))) (dna_end (i := 8) (pv 8)))) rfl) (de_call h_objectors hr (by rfl) T.f_objectors.g T.f_objectors.k T.f_objectors.b (da_cons (de_keep (de_var 3 (pv 3))) (da_cons (de_keep (de_var 5 (pv 5))) (da_cons (de_keep (de_var 8 (pv 8))) da_nil))) rfl))) (da_cons (de_keep (de_either (i := 7) (de_callN h_law_objects hr (by rfl) T.f_law_objects.g T.f_law_objects.k T.f_law_objects.b (dna_cons (de_keep (de_var 2 (pv 2))) (dna_cons (de_keep (de_var 6 (pv 6))) (dna_end (i := 7) (pv 7)))) rfl) (de_call h_law_objects hr (by rfl) T.f_law_objects.g T.f_law_objects.k T.f_law_objects.b (da_cons (de_keep (de_var 2 (pv 2))) (da_cons (de_keep (de_var 6 (pv 6))) (da_cons (de_keep (de_var 7 (pv 7))) da_nil))) rfl))) da_nil)) rfl)))
  (dss_one (ds_ret de_bl))
  dss_nil)
  (dss_cons (ds_set (i := 11) sc_law.nd rfl (Or.inr rfl) (de_lc [("k", 12)] rfl sc_law.nd (di_rng1 rfl T.n_range (de_op op_addA opd_add de_int (de_call h_law_draw hr (by rfl) T.f_law_draw.g T.f_law_draw.k T.f_law_draw.b (da_cons (de_keep (de_var 1 (pv 1))) (da_cons (de_keep de_int) da_nil)) rfl))) (blkOk_by (own := [("k", 12)]) (N := N_law) (sc := defScope s_law) (by decide +kernel)) (fun _ _ _ _ _ => (dg_name (i := 12) sc_law.nd rfl (Or.inl rfl))) (fun _ _ _ _ _ => dts_nil) (fun _ _ _ _ _ => (de_call h_law_draw hr (by rfl) T.f_law_draw.g T.f_law_draw.k T.f_law_draw.b (da_cons (de_keep (de_var 1 (pv 1))) (da_cons (de_keep (de_op op_addA opd_add (de_ix ix_seq opd_ix (de_var 2 (pv 2)) de_int (fun _ _ => rfl)) (de_callTy call_intA cd_int (by rfl) T.n_int (by decide +kernel) (da_cons (de_cmp (op_eqD hr.units) opd_eq (de_call h_law_draw hr (by rfl) T.f_law_draw.g T.f_law_draw.k T.f_law_draw.b (da_cons (de_keep (de_var 1 (pv 1))) (da_cons (de_keep de_int) da_nil)) rfl) de_int (nomark _)) da_nil)))) da_nil)) rfl)) (tgin_name (by decide)) (gin_name (by decide))))
  (dss_cons (ds_set (i := 7) sc_law.nd rfl (Or.inr rfl) (de_lc [("k", 12)] rfl sc_law.nd (di_rng1 rfl T.n_range (de_callB call_len cd_len (by rfl) T.n_len (by decide +kernel) (da_cons (de_var 11 (pv 11)) da_nil))) (blkOk_by (own := [("k", 12)]) (N := N_law) (sc := defScope s_law) (by decide +kernel)) (fun _ _ _ _ _ => (dg_name (i := 12) sc_law.nd rfl (Or.inl rfl))) (fun _ _ _ _ _ => dts_nil) (fun _ _ _ _ _ => (de_call h_law_draw hr (by rfl) T.f_law_draw.g T.f_law_draw.k T.f_law_draw.b (da_cons (de_keep (de_var 1 (pv 1))) (da_cons (de_keep (de_ix ix_seq opd_ix (de_var 2 (pv 2)) de_int (fun _ _ => rfl))) da_nil)) rfl)) (tgin_name (by decide)) (gin_name (by decide))))
  (dss_cons (ds_setLc (i := 9) [("k", 12)] rfl rfl (sw_true rfl rfl rfl (by decide +kernel)) rfl sc_law.nd (di_rng1 rfl T.n_range (de_callB call_len cd_len (by rfl) T.n_len (by decide +kernel) (da_cons (de_var 11 (pv 11)) da_nil))) (blkOk_by (own := [("k", 12)]) (N := N_law) (sc := defScope s_law) (by decide +kernel)) (fun _ _ _ _ _ => (dg_name (i := 12) sc_law.nd rfl (Or.inl rfl))) (fun _ _ _ _ _ => (dts_one (dt_cmp (op_notInA hr.units1) opd_notIn (de_tup (da_cons (de_keep (de_ix ix_seq opd_ix (de_var 11 (pv 11)) (de_var 12 (pv 12)) (fun _ _ => rfl))) (da_cons (de_keep (de_tup (da_cons (de_keep (de_ix ix_seq opd_ix (de_var 7 (pv 7)) (de_op op_sub opd_sub (de_var 12 (pv 12)) de_int) (fun _ _ => rfl))) da_nil))) (da_cons (de_keep (de_ix ix_seq opd_ix (de_var 7 (pv 7)) (de_var 12 (pv 12)) (fun _ _ => rfl))) da_nil)))) (de_ix ix_seq opd_ix (de_var 2 (pv 2)) de_int (fun _ _ => rfl)) rfl))) (fun _ _ _ _ _ => (de_var 12 (pv 12))) (tgin_name (by decide)) (gin_name (by decide)))
  (dss_cons (ds_set (i := 8) sc_law.nd rfl (Or.inl rfl) (de_lst (da_cons (de_keep (de_pick (de_callTy call_list_of cd_list (by rfl) T.n_list (by decide +kernel) (da_cons (de_var 11 (pv 11)) da_nil)) (de_callTy call_tuple_of cd_tuple (by rfl) T.n_tuple (by decide +kernel) (da_cons (de_var 11 (pv 11)) da_nil)) (de_call h_law_draw hr (by rfl) T.f_law_draw.g T.f_law_draw.k T.f_law_draw.b (da_cons (de_keep (de_var 1 (pv 1))) (da_cons (de_keep de_int) da_nil)) rfl) (fun _ _ => rfl))) (da_cons (de_keep (de_pick (de_callTy call_list_of cd_list (by rfl) T.n_list (by decide +kernel) (da_cons (de_var 7 (pv 7)) da_nil)) (de_callTy call_tuple_of cd_tuple (by rfl) T.n_tuple (by decide +kernel) (da_cons (de_var 7 (pv 7)) da_nil)) (de_call h_law_draw hr (by rfl) T.f_law_draw.g T.f_law_draw.k T.f_law_draw.b (da_cons (de_keep (de_var 1 (pv 1))) (da_cons (de_keep de_int) da_nil)) rfl) (fun _ _ => rfl))) da_nil))))
  (dss_cons (ds_set (i := 10) sc_law.nd rfl (Or.inl rfl) (de_call h_ring_objectors hr (by rfl) T.f_ring_objectors.g T.f_ring_objectors.k T.f_ring_objectors.b (da_cons (de_keep (de_var 3 (pv 3))) (da_cons (de_keep (de_ix ix_seq opd_ix (de_var 8 (pv 8)) de_int (fun _ _ => rfl))) (da_cons (de_keep (de_ix ix_seq opd_ix (de_var 8 (pv 8)) de_int (fun _ _ => rfl))) da_nil))) rfl))
  (dss_cons (ds_if (DW.dt (dw_or (dt_not (dt_tru (de_callN1 (i := 10) h_law_same hr (by rfl) T.f_law_same.g T.f_law_same.k T.f_law_same.b (pv 10) (de_keep (de_var 9 (pv 9)))))) (dw_or (dt_cmp (op_neD hr.units) opd_ne (de_callTy call_list_of cd_list (by rfl) T.n_list (by decide +kernel) (da_cons (de_ix ix_seq opd_ix (de_var 8 (pv 8)) de_int (fun _ _ => rfl)) da_nil)) (de_var 11 (pv 11)) (nomark _)) (dw_or1 (dt_cmp (op_neD hr.units) opd_ne (de_callTy call_list_of cd_list (by rfl) T.n_list (by decide +kernel) (da_cons (de_ix ix_seq opd_ix (de_var 8 (pv 8)) de_int (fun _ _ => rfl)) da_nil)) (de_var 7 (pv 7)) (nomark _))))))
  (dss_one (ds_ret de_bl))
  dss_nil)
  (dss_cons (ds_app (i := 10) (pv 10) de_int)
  (dss_one (ds_if (dt_not (dt_tru (de_call h_law_same hr (by rfl) T.f_law_same.g T.f_law_same.k T.f_law_same.b (da_cons (de_keep (de_call h_ring_objectors hr (by rfl) T.f_ring_objectors.g T.f_ring_objectors.k T.f_ring_objectors.b (da_cons (de_keep (de_var 3 (pv 3))) (da_cons (de_keep (de_ix ix_seq opd_ix (de_var 8 (pv 8)) de_int (fun _ _ => rfl))) (da_cons (de_keep (de_ix ix_seq opd_ix (de_var 8 (pv 8)) de_int (fun _ _ => rfl))) da_nil))) rfl)) (da_cons (de_keep (de_var 9 (pv 9))) da_nil)) rfl)))
  (dss_one (ds_ret de_bl))
  dss_nil)))))))))))))))))))))
  (dss_one (ds_ret (de_cmp (op_eqO h_Machine_eqdd T.f_Machine_eqdd.m T.f_Machine_eqdd.b hr) opd_eqO (de_var 3 (pv 3)) (de_call h_law_made hr (by rfl) T.f_law_made.g T.f_law_made.k T.f_law_made.b (da_cons (de_keep (de_var 2 (pv 2))) da_nil) rfl) (nomark _))))))) sc_law.nd rfl (Or.inr rfl))⟩
theorem hb_law_same (T : Tx K mg a) {k : Nat} : L2H.FnH P w K mg base CX0 (k + 1) a.f_law_same a.d_law_same ["actual", "due"] (spF K 2 (bodyF 3 mh_law_same)) := by
  exact fn_dH T.f_law_same.fn sc_law_same fun cdv A outer s H E p hot hr => ⟨_, (dss_cons (ds_if (DW.dt (dw_or (dt_tru (de_isi rfl T.n_isinstance (by decide +kernel) rfl T.n_tuple (by decide +kernel) (de_var 1 (pv 1)))) (dw_or1 (dt_tru (de_isi rfl T.n_isinstance (by decide +kernel) rfl T.n_list (by decide +kernel) (de_var 1 (pv 1)))))))
  (dss_cons (ds_if (DW.dt (dw_or (dt_cmp (op_neD hr.units) opd_ne (de_isi rfl T.n_isinstance (by decide +kernel) rfl T.n_tuple (by decide +kernel) (de_var 1 (pv 1))) (de_isi rfl T.n_isinstance (by decide +kernel) rfl T.n_tuple (by decide +kernel) (de_var 0 (pv 0))) (nomark _)) (dw_or1 (dt_cmp (op_neD hr.units) opd_ne (de_isi rfl T.n_isinstance (by decide +kernel) rfl T.n_list (by decide +kernel) (de_var 1 (pv 1))) (de_isi rfl T.n_isinstance (by decide +kernel) rfl T.n_list (by decide +kernel) (de_var 0 (pv 0))) (nomark _)))))
  (dss_one (ds_ret de_bl))
  dss_nil)
  (dss_cons (ds_if (dt_cmp (op_neD hr.units) opd_ne (de_callB call_len cd_len (by rfl) T.n_len (by decide +kernel) (da_cons (de_var 0 (pv 0)) da_nil)) (de_callB call_len cd_len (by rfl) T.n_len (by decide +kernel) (da_cons (de_var 1 (pv 1)) da_nil)) (nomark _))
  (dss_one (ds_ret de_bl))
  dss_nil)
  (dss_cons ds_never
  (dss_one (ds_ret de_bl)))))
  dss_nil)
  (dss_cons (ds_if (DW.dt (dw_or (dt_cmp op_isN opd_is (de_var 1 (pv 1)) de_non (nomark _)) (dw_or1 (dt_tru (de_isi rfl T.n_isinstance (by decide +kernel) rfl T.n_bool (by decide +kernel) (de_var 1 (pv 1)))))))
  (dss_one (ds_ret (de_and (de_cmp (op_eqD hr.units) opd_eq (de_cmp op_isN opd_is (de_var 0 (pv 0)) de_non (nomark _)) (de_cmp op_isN opd_is (de_var 1 (pv 1)) de_non (nomark _)) (nomark _)) (de_and (de_or (de_cmp op_isN opd_is (de_var 1 (pv 1)) de_non (nomark _)) (de_one (de_isi rfl T.n_isinstance (by decide +kernel) rfl T.n_bool (by decide +kernel) (de_var 0 (pv 0))))) (de_one (de_cmp (op_eqD hr.units) opd_eq (de_var 0 (pv 0)) (de_var 1 (pv 1)) (nomark _)))))))
  dss_nil)
  (dss_cons (ds_if (dt_tru (de_isi rfl T.n_isinstance (by decide +kernel) rfl T.n_int (by decide +kernel) (de_var 1 (pv 1))))
  (dss_one (ds_ret (de_and (de_isi rfl T.n_isinstance (by decide +kernel) rfl T.n_int (by decide +kernel) (de_var 0 (pv 0))) (de_and (de_not (de_isi rfl T.n_isinstance (by decide +kernel) rfl T.n_bool (by decide +kernel) (de_var 0 (pv 0)))) (de_one (de_cmp (op_eqD hr.units) opd_eq (de_var 0 (pv 0)) (de_var 1 (pv 1)) (nomark _)))))))
  dss_nil)
  (dss_one (ds_ret (de_and (de_isi rfl T.n_isinstance (by decide +kernel) rfl T.n_str (by decide +kernel) (de_var 0 (pv 0))) (de_one (de_cmp (op_eqD hr.units) opd_eq (de_var 0 (pv 0)) (de_var 1 (pv 1)) (nomark _)))))))))⟩
end
end G
end

section
set_option Elab.async false
set_option linter.all false
set_option maxRecDepth 100000
set_option maxHeartbeats 4000000
namespace G
open PySem PySem.Spec PyProof.Rows L2 DL
abbrev s_dr : Stmt := s_law_draw
theorem sc_dr : FnScope ["pool", "size", "cell", "value"] ["pool", "size"] (defScope s_dr) := ⟨rfl, rfl, rfl, by decide +kernel, rfl, by decide +kernel, by decide +kernel⟩
section
variable {P : Program} {w : World} {K : PySem.W.Frag} {mg : Str → Option Value} {base : Heap}
theorem dr_ok {f : Addr} {fd : FuncData} (F : Fun K "_law_draw" "_law_draw" s_dr f fd) (hlen : mg "len" = none) (hint : mg "int" = none) : FnOk P w K mg base CX0 1 f fd ["pool", "size"] (spF K 2 F_draw) := by
  refine draw_ok F sc_dr hlen hint fun cdv A outer s H0 E => ⟨_, Evl.pss_cut (ps_if (PW.pt (pw_and (pt_cmpR op_le (pe_ix ix_list (pv 0) pe_int (fun _ _ => rfl)) pe_int (nomark _))
      (pw_and (pt_cmpR op_le (pe_ix ix_list (pv 0) pe_int (fun _ _ => rfl)) pe_int (nomark _)) (pw_and1 (pt_cmpR op_lt (pe_ix ix_list (pv 0) pe_int (fun _ _ => rfl)) (pe_callB call_len_seq (by rfl) hlen PySem.boot_len (pa_cons (pe_ix ix_list (pv 0) pe_int (fun _ _ => rfl)) pa_nil)) (nomark _))))))
      (pss_cons (ps_set (i := 2) sc_dr.nd rfl (Or.inl rfl) (pe_ix ix_list (pe_ix ix_list (pv 0) pe_int (fun _ _ => rfl)) (pe_ix ix_list (pv 0) pe_int (fun _ _ => rfl)) (fun _ _ => rfl)))
      (pss_cons (ps_asg (pe_op op_add (pe_ix ix_list (pv 0) pe_int (fun _ _ => rfl)) pe_int) (pg_sub (pv 0) pe_int set_list))
      (pss_cons (ps_asg (pe_op op_mod (pe_callTy call_int1 (by rfl) hint (by decide +kernel) (pa_cons (pe_op op_add (pe_op op_mul (pe_ix ix_list (pv 0) pe_int (fun _ _ => rfl)) pe_int) (pv 2)) pa_nil)) pe_int) (pg_sub (pv 0) pe_int set_list))
      (pss_cons (ps_asg pe_int (pg_sub (pv 0) pe_int set_list))
      (pss_one (ps_if (pt_cmpR op_ge (pv 2) (pe_op op_pow pe_int pe_int) (nomark _)) (pss_one (ps_asg (pv 2) (pg_sub (pv 0) pe_int set_list))) pss_nil)))))) pss_nil)
    (pss_cons (ps_if (pt_cmpR op_gt (pe_ix ix_list (pv 0) pe_int (fun _ _ => rfl)) pe_int (nomark _))
      (pss_cons (ps_set (i := 3) sc_dr.nd rfl (Or.inl rfl) (pe_op op_mod (pe_callTy call_int1 (by rfl) hint (by decide +kernel) (pa_cons (pe_ix ix_list (pv 0) pe_int (fun _ _ => rfl)) pa_nil)) (pv 1)))
      (pss_cons (ps_asg (pe_op op_fdivW (pe_ix ix_list (pv 0) pe_int (fun _ _ => rfl)) (pv 1)) (pg_sub (pv 0) pe_int set_list))
      (pss_cons (ps_asg pe_int (pg_sub (pv 0) pe_int set_list)) (pss_one (ps_ret (pv 3)))))) pss_nil)
    (pss_cons (ps_asg (pe_op op_sub (pe_ix ix_list (pv 0) pe_int (fun _ _ => rfl)) pe_int) (pg_sub (pv 0) pe_int set_list))
    (pss_cons (ps_asg (pe_op op_mod (pe_callTy call_int1 (by rfl) hint (by decide +kernel) (pa_cons (pe_op op_add (pe_op op_mul (pe_ix ix_list (pv 0) pe_int (fun _ _ => rfl)) pe_int) pe_int) pa_nil)) pe_int) (pg_sub (pv 0) pe_int set_list))
    (pss_one (ps_ret (pe_op op_mod (pe_op op_mod (pe_callTy call_int1 (by rfl) hint (by decide +kernel) (pa_cons (pe_op op_add (pe_op op_mul (pe_ix ix_list (pv 0) pe_int (fun _ _ => rfl)) pe_int) pe_int) pa_nil)) pe_int) (pv 1))))))), ?_⟩
  intro H a l cells pos big seed cnt bud n D ha hl la hp hn hk
  have hn0 : 0 < n := hn.1
  refine ⟨fun σ' H' => ∃ (x : Option V) (pos big seed cnt : Int), σ' = [some (.ref a), some (.int n), x, none] ∧ 0 ≤ pos ∧ H' a = some (.lst (pl l pos big seed cnt bud)) ∧ ∀ o, upd H' a o = upd H a o, ?_, ?_⟩
  · have no : ∃ (x : Option V) (pos' big' seed' cnt' : Int), ([some (.ref a), some (.int n), none, none] : L2.St) = [some (.ref a), some (.int n), x, none] ∧ 0 ≤ pos' ∧ H a = some (.lst (pl l pos' big' seed' cnt' bud)) ∧ ∀ o, upd H a o = upd H a o := ⟨none, pos, big, seed, cnt, rfl, hp, ha, fun _ => rfl⟩
    refine rd_at rfl ha rfl ⟨_, _, rfl, rfl, _, rfl, ?_⟩
    refine ite2 (fun _ => ?_) fun _ => iteF no
    refine rd_at rfl ha rfl ⟨_, _, rfl, rfl, _, rfl, ?_⟩
    refine ite2 (fun _ => ?_) fun _ => iteF no
    refine rd_at rfl ha rfl ?_
    refine rd_at rfl ha rfl ⟨l, _, rfl, .inl (SqL.of hl), _, _, rfl, rfl, _, rfl, ?_⟩
    refine ite2 (fun h3 => ?_) fun _ => no
    have h3 : pos < (cells.length : Nat) := by
      have := of_decide_eq_true h3
      rwa [List.length_map] at this
    have hc : pos.toNat < cells.length := by omega
    refine rd_at rfl ha rfl ?_
    refine rd_at rfl ha rfl ⟨l, _, _, .int cells[pos.toNat], rfl, rfl, SqL.of hl, ?_, ?_⟩
    · unfold atI ixN
      rw [if_pos hp, if_pos (by rw [List.length_map]; exact h3)]
      show (cells.map V.int)[pos.toNat]? = _
      rw [List.getElem?_map, List.getElem?_eq_getElem hc]
      rfl
    generalize cells[pos.toNat] = c
    -- pool[1], pool[3], pool[4]
    refine rd_at rfl ha rfl ⟨_, _, rfl, rfl, ?_⟩
    refine ⟨_, rfl, a, _, _, 1, rfl, rfl, ha, rfl, ?_⟩
    refine rd_at rfl upd_same rfl ⟨_, _, rfl, rfl, .inr (by decide), ?_⟩
    refine ⟨_, rfl, _, _, rfl, rfl, .inl ⟨_, rfl, ?_⟩⟩
    refine ⟨_, _, rfl, rfl, (show (0 : Int) < 2147483647 by decide), ?_⟩
    refine ⟨_, rfl, a, _, _, 3, rfl, rfl, upd_same, rfl, ?_⟩
    refine ⟨_, rfl, a, _, _, 4, rfl, rfl, upd_same, rfl, ?_⟩
    refine ⟨_, rfl, _, _, rfl, rfl, (show CPow 10 18 from ⟨by decide, by decide, by decide⟩), _, _, rfl, rfl, _, rfl, ?_⟩
    rw [upd_upd, upd_upd]
    refine ite2 (fun _ => ?_) fun _ => ?_
    · refine ⟨_, rfl, _, rfl, a, _, _, 2, rfl, rfl, upd_same, rfl, ?_⟩
      rw [upd_upd]
      exact ⟨_, pos + 1, c, _, _, rfl, by omega, upd_same, fun o => upd_upd⟩
    · exact ⟨_, pos + 1, big, _, _, rfl, by omega, upd_same, fun o => upd_upd⟩
  · rintro σ' H' ⟨x, pos, big, seed, cnt, rfl, hp, ha', hu⟩
    refine rd_at rfl ha' rfl ⟨_, _, rfl, rfl, _, rfl, ?_⟩
    refine ite2 (fun _ => ?_) fun _ => ?_
    · refine rd_at rfl ha' rfl (.inl ⟨_, rfl, ?_⟩)
      refine ⟨_, rfl, _, _, rfl, rfl, hn0, ?_⟩
      refine rd_at rfl ha' rfl ⟨_, rfl, _, _, rfl, rfl, hn, ?_⟩
      refine ⟨_, rfl, a, _, _, 2, rfl, rfl, ha', rfl, ?_⟩
      refine ⟨_, rfl, a, _, _, 4, rfl, rfl, upd_same, rfl, ?_⟩
      refine ⟨_, rfl, ?_⟩
      rw [upd_upd, hu]
      exact hk _ _ _ _ _ (Int.emod_nonneg _ (by omega)) (Int.emod_lt_of_pos _ hn0) hp
    · refine rd_at rfl ha' rfl ⟨_, _, rfl, rfl, ?_⟩
      refine ⟨_, rfl, a, _, _, 4, rfl, rfl, ha', rfl, ?_⟩
      refine rd_at rfl upd_same rfl ⟨_, _, rfl, rfl, .inr (by decide), ?_⟩
      refine ⟨_, _, rfl, rfl, .inl ⟨_, rfl, ?_⟩⟩
      refine ⟨_, _, rfl, rfl, (show (0 : Int) < 2147483647 by decide), ?_⟩
      refine ⟨_, rfl, a, _, _, 3, rfl, rfl, upd_same, rfl, ?_⟩
      rw [upd_upd, hu]
      refine rd_at rfl upd_same rfl ⟨_, _, rfl, rfl, .inr (by decide), ?_⟩
      refine ⟨_, _, rfl, rfl, .inl ⟨_, rfl, ?_⟩⟩
      refine ⟨_, _, rfl, rfl, (show (0 : Int) < 2147483647 by decide), ?_⟩
      refine ⟨_, rfl, _, _, rfl, rfl, hn0, ?_⟩
      exact hk _ _ _ _ _ (Int.emod_nonneg _ (by omega)) (Int.emod_lt_of_pos _ hn0) hp
end
end G
end

section
set_option Elab.async false
set_option linter.all false
set_option maxRecDepth 100000
set_option maxHeartbeats 4000000
namespace G
open PySem PySem.Spec PyProof.Rows L2 DL
local macro_rules | `(tactic| walk_at "ok1") => `(tactic| first | exact okD_int _ | exact okD_bl _ | exact okD_non | exact okD_str (by assumption) | assumption)
local macro_rules | `(tactic| walk_at "go1") => `(tactic| ((conv => whnf); first
  | refine s_iteT ?_ | refine s_iteF ?_
  | refine ⟨⟨by walk_at "ok1", by walk_at "ok1"⟩, ?_⟩
  | refine ⟨_, rfl, ?_⟩
  | refine ⟨rfl, ?_⟩
  | refine ⟨Nat.le_of_ble_eq_true rfl, ?_⟩
  | refine ⟨_, isB_tuple (by assumption), ?_⟩
  | refine ⟨_, isB_list (by assumption), ?_⟩
  | refine ⟨_, isB_bool (by assumption), ?_⟩
  | refine ⟨_, isB_int (by assumption), ?_⟩
  | refine ⟨_, isB_str (by assumption), ?_⟩
  | refine ⟨_, by assumption, ?_⟩
  | refine s_ite1 (by assumption) ?_ | refine s_ite0 (by assumption) ?_))
local macro_rules | `(tactic| walk_at "go") => `(tactic| repeat walk_at "go1")
/-! ### the drawn tree -/
def okL (n : Int) (x : Option Int × Nat) : Prop := ∃ a : Int, x.1 = some a ∧ 0 ≤ a ∧ a < n ∧ x.2 ≤ 2
def F_ltree (k : Nat) : FMI := fun rs l Qd => ∃ n i : Int, rs = [.pool, .val (.int n)] ∧ l = [.int i] ∧ CDivW 0 n ∧ 0 ≤ i ∧ i < k ∧
  ∀ (t : Tr) (i' : Int), 0 ≤ i' → (t.size : Int) + i' ≤ i + 1 → (∀ x ∈ t.pre, okL n x) → Qd (.val t.d) [.int i']
theorem ltree_loop {k : Nat} {D : FM} {F : FMI} (hF : ∀ rs l Q, F_ltree k rs l Q → F rs l Q) {E : DEn} {n i0 : Int} {p : Addr} {z3 z4 : Option Nv} (hn : CDivW 0 n) (hi0 : i0 < k + 1)
    (q : ∀ (ts : List Tr) (i : Int) y, 0 ≤ i → (Tr.sizes ts : Int) + i ≤ i0 → ts.length ≤ 2 → (∀ x ∈ Tr.pres ts, okL n x) → E.nx [some .pool, some (.val (.int n)), some (.fix p (.lst [.int i])), z3, z4, some (.own (Tr.ds ts)), y]) :
    ∀ (rg : List DL.D) (ts : List Tr) (i : Int) (y : Option Nv), 0 ≤ i → (Tr.sizes ts : Int) + i ≤ i0 → ts.length + rg.length ≤ 2 → (∀ x ∈ Tr.pres ts, okL n x) →
    dLoop (dName 6) (dIfS (dB (dOp mGtA (dIxF 2 (dC (.int 0))) (dC (.int 0))))
  (dSeq (dPutF 2 (dC (.int 0)) (dOp mSub (dIxF 2 (dC (.int 0))) (dC (.int 1))))
  (dAppP 5 (dCallF 2 F (dConsF (dKeep (dVar 0)) (dConsF (dKeep (dVar 1)) (dEndF 2))))))
  dNext) E rg [some .pool, some (.val (.int n)), some (.fix p (.lst [.int i])), z3, z4, some (.own (Tr.ds ts)), y]
  | [], ts, i, y, h1, h2, h3, h4 => q ts i y h1 h2 h3 h4
  | d :: rg, ts, i, y, h1, h2, h3, h4 => by
    rw [List.length_cons] at h3
    refine ⟨⟨_, _, rfl⟩, ?_⟩
    walk_at "go"
    by_cases c : 0 < i
    · have hc : decide (0 < i) = true := decide_eq_true c
      walk_at "go"
      refine ⟨⟨_, _, rfl⟩, ?_⟩
      walk_at "go"
      refine ⟨⟨_, _, rfl⟩, ?_⟩
      walk_at "go"
      refine ⟨⟨_, rfl⟩, rfl, hF _ _ _ ⟨n, i - 1, rfl, rfl, hn, by omega, by omega, fun t i' k1 k2 k3 => ?_⟩⟩
      have hl := Tr.ds_length ts
      show (Tr.ds ts).length < sizeLine ∧ _
      refine ⟨by unfold sizeLine; omega, ?_⟩
      have key := ltree_loop (D := D) (z3 := z3) (z4 := z4) hF hn hi0 q rg (ts ++ [t]) i' (some (.val d)) k1 (by rw [Tr.sizes_append, Tr.sizes, Tr.sizes]; omega) (by rw [List.length_append, List.length_singleton]; omega) (by
        rw [Tr.pres_append, Tr.pres, Tr.pres, List.append_nil]
        intro x hx
        exact (List.mem_append.mp hx).elim (h4 x) (k3 x))
      rw [Tr.ds_append, Tr.ds, Tr.ds] at key
      exact key
    · have hc : decide (0 < i) = false := decide_eq_false c
      walk_at "go"
      exact ltree_loop (D := D) hF hn hi0 q rg ts i (some (.val d)) h1 h2 (by omega) h4
theorem ltree_body {k : Nat} {D : FM} {F : FMI} (hD : ∀ rs Q, F_draw rs Q → D rs Q) (hF : ∀ rs l Q, F_ltree k rs l Q → F rs l Q) : ∀ rs l Q, F_ltree (k + 1) rs l Q → bodyI 7 (m_law_tree D F) rs l Q := by
  rintro rs l Qd ⟨n, i, rfl, rfl, hn, hi, hk, q⟩ p
  unfold m_law_tree
  show dSeq _ _ _ [some .pool, some (.val (.int n)), some (.fix p (.lst [.int i])), none, none, none, none]
  walk_at "go"
  refine hD _ _ ⟨n, rfl, hn, fun a a1 a2 => ?_⟩
  walk_at "go"
  refine hD _ _ ⟨5, rfl, ⟨by decide, by decide +kernel⟩, fun c c1 c2 => ?_⟩
  obtain ⟨m, hm, hx⟩ : ∃ m : Nat, m ≤ 2 ∧ atI ([.int 0, .int 1, .int 1, .int 2, .int 2] : List DL.D) c = some (.int (m : Int)) := by
    have : c = 0 ∨ c = 1 ∨ c = 2 ∨ c = 3 ∨ c = 4 := by omega
    rcases this with rfl | rfl | rfl | rfl | rfl
    · exact ⟨0, by decide, rfl⟩
    · exact ⟨1, by decide, rfl⟩
    · exact ⟨1, by decide, rfl⟩
    · exact ⟨2, by decide, rfl⟩
    · exact ⟨2, by decide, rfl⟩
  refine ⟨_, hx, ?_⟩
  have hh : 0 ≤ i ∧ i < ((k + 1 : Nat) : Int) ∧ 0 ≤ a ∧ a < n := ⟨hi, hk, a1, a2⟩
  clear hx c1 c2 a1 a2 hi hk
  walk_at "go"
  obtain ⟨hi, hk, a1, a2⟩ := hh
  refine ⟨by omega, by omega, ?_⟩
  show dLoop _ _ _ (rangeD 0 (m : Int)) _
  have hl : (rangeD 0 (m : Int)).length ≤ 2 := by
    rw [rangeD_nat', List.length_map, List.length_range']
    exact hm
  refine ltree_loop (D := D) hF hn (i0 := i) (by omega) (fun ts i' y h1 h2 h3 h4 => ?_) (rangeD 0 (m : Int)) [] i none hi (by rw [Tr.sizes]; omega) (by rw [List.length_nil]; omega) (by rw [Tr.pres]; intro x hx; cases hx)
  walk_at "go"
  have k := q (.nd (some a) ts) i' h1 (by rw [Tr.size]; omega) (by
    rw [Tr.pre]
    intro x hx
    rcases List.mem_cons.mp hx with rfl | hx
    · exact ⟨a, rfl, a1, a2, h3⟩
    · exact h4 x hx)
  rw [Tr.d] at k
  exact k
section
variable {P : Program} {w : World} {K : PySem.W.Frag} {mg : Str → Option Value} {base : Heap} {a : Ad}
theorem ltree_ok (T : Tx K mg a) (hd : FnOk P w K mg base CX0 1 a.f_law_draw a.d_law_draw ["pool", "size"] (spF K 2 F_draw)) : ∀ k, FnOk P w K mg base CX0 (k + 1) a.f_law_tree a.d_law_tree ["pool", "letters", "left"] (spI K 3 (F_ltree k))
  | 0 => ⟨fun vs H Q E h => by obtain ⟨S, pa, vs0, p, rs, l, Qd, h0, h1, h2, h3, h4, h5⟩ := h; exact h4, fun A outer s H args us vs Q E hr he hb hv h => by
    obtain ⟨S, pa, vs0, p, rs, l, Qd, h0, h1, h2, h3, h4, h5, ⟨n, i, e1, e2, e3, e4, e5, _⟩, _⟩ := h
    omega⟩
  | k + 1 => (b_law_tree T (k := k + 1) (hd.mono (Nat.succ_le_succ (Nat.zero_le k))) (ltree_ok T hd k)).imp (spI.imp (ltree_body (fun _ _ h => h) fun _ _ _ h => h))
end
end G
end

section
set_option Elab.async false
set_option linter.all false
set_option maxRecDepth 100000
set_option maxHeartbeats 4000000
namespace G
open PySem PySem.Spec PyProof.Rows L2 DL
local macro_rules | `(tactic| walk_at "ok1") => `(tactic| first | exact okD_int _ | exact okD_bl _ | exact okD_non | exact okD_str (by assumption) | assumption)
local macro_rules | `(tactic| walk_at "go1") => `(tactic| ((conv => whnf); first
  | refine s_iteT ?_ | refine s_iteF ?_
  | refine ⟨⟨by walk_at "ok1", by walk_at "ok1"⟩, ?_⟩
  | refine ⟨_, rfl, ?_⟩
  | refine ⟨rfl, ?_⟩
  | refine ⟨Nat.le_of_ble_eq_true rfl, ?_⟩
  | refine ⟨_, isB_tuple (by assumption), ?_⟩
  | refine ⟨_, isB_list (by assumption), ?_⟩
  | refine ⟨_, isB_bool (by assumption), ?_⟩
  | refine ⟨_, isB_int (by assumption), ?_⟩
  | refine ⟨_, isB_str (by assumption), ?_⟩
  | refine ⟨_, by assumption, ?_⟩
  | refine s_ite1 (by assumption) ?_ | refine s_ite0 (by assumption) ?_))
local macro_rules | `(tactic| walk_at "go") => `(tactic| repeat walk_at "go1")
/-! ### a row as a tree, a drawn tree or row -/
def chainT (t : Tr) (ls : List Int) : Tr := ls.foldl (fun t l => Tr.nd (some l) [t]) t
def F_lrow : FM := fun rs Qd => ∃ (a : Int) (ls : List Int), rs = [.val (.lst (.int a :: ls.map DL.D.int))] ∧ ls.length ≤ 1000 ∧ Qd (.val (chainT (.nd (some a) []) ls).d)
theorem lrow_loop {E : DEn} {x : Option Nv} : ∀ (ls : List Int) (t : Tr) (y : Option Nv), (∀ y, E.nx [x, some (.val (chainT t ls).d), y]) →
    dLoop (dName 2) (dSet 1 (dTup (dCons (dKeep (dVar 2)) (dCons (dKeep (dTup (dCons (dKeep (dVar 1)) dNil))) dNil)))) E (ls.map DL.D.int) [x, some (.val t.d), y]
  | [], t, y, q => q y
  | l :: ls, t, y, q => by
    walk_at "go"
    have key := lrow_loop (E := E) (x := x) ls (.nd (some l) [t]) (some (.val (.int l))) q
    rw [Tr.d, Tr.ds, Tr.ds] at key
    exact key
theorem lrow_body : ∀ rs Qd, F_lrow rs Qd → bodyF 3 m_law_row_tree rs Qd := by
  rintro rs Qd ⟨a, ls, rfl, hl, q⟩
  unfold m_law_row_tree
  show dSeq _ _ _ [some (.val (.lst (.int a :: ls.map DL.D.int))), none, none]
  have h0 := atI_head (.int a) (ls.map DL.D.int)
  walk_at "go"
  show dLoop _ _ _ (DL.cutD (.int a :: ls.map DL.D.int) (some 1) none) _
  rw [cutFrom1]
  have key := lrow_loop (E := { nx := dRet (dVar 1) { nx := fun x => Qd (R.val .non), rt := fun x r => Qd r }, rt := fun x r => Qd r }) (x := some (.val (.lst (.int a :: ls.map DL.D.int)))) ls (.nd (some a) []) none fun y => q
  rw [Tr.d, Tr.ds] at key
  exact key
/-- letters below n, at most two children -/
def okT (n : Int) (t : Tr) : Prop := ∀ x ∈ t.pre, okL n x
theorem chain_ok {n : Int} : ∀ (ls : List Int) (t : Tr), (∀ l ∈ ls, 0 ≤ l ∧ l < n) → okT n t → okT n (chainT t ls) ∧ (chainT t ls).size = t.size + ls.length
  | [], t, _, h => ⟨h, rfl⟩
  | l :: ls, t, hl, h => by
    have ih := chain_ok (n := n) ls (.nd (some l) [t]) (fun x hx => hl x (List.mem_cons_of_mem _ hx)) (by
      intro x hx
      rw [Tr.pre, Tr.pres, Tr.pres, List.append_nil] at hx
      rcases List.mem_cons.mp hx with rfl | hx
      · exact ⟨l, rfl, (hl l (List.mem_cons_self ..)).1, (hl l (List.mem_cons_self ..)).2, by show 1 ≤ 2; decide⟩
      · exact h x hx)
    refine ⟨ih.1, ?_⟩
    have e : (chainT t (l :: ls)).size = (chainT (.nd (some l) [t]) ls).size := rfl
    rw [e, ih.2, Tr.size, Tr.sizes, Tr.sizes, List.length_cons]
    omega
def F_shape (k : Nat) : FM := fun rs Qd => ∃ n most : Int, rs = [.pool, .val (.int n), .val (.int most)] ∧ CDivW 0 n ∧ CDivW 0 most ∧ most ≤ k ∧ most ≤ 1000 ∧ ∀ t : Tr, okT n t → (t.size : Int) ≤ most → Qd (.val t.d)
theorem draws_loop {D : FM} (hD : ∀ rs Q, F_draw rs Q → D rs Q) {n : Int} (hn : CDivW 0 n) {z : Option Nv} {Ql : En → List DL.D → Prop} : ∀ (rg : List DL.D) (acc : List Int) (y : Option Nv), acc.length + rg.length ≤ 1000 → (∀ a ∈ acc, 0 ≤ a ∧ a < n) →
    (∀ (ls : List Int) y, ls.length = acc.length + rg.length → (∀ a ∈ ls, 0 ≤ a ∧ a < n) → Ql [some .pool, some (.val (.int n)), z, y] (ls.map DL.D.int)) →
    dLcL [3] (dName 3) dYes (dCall D (dCons (dKeep (dVar 0)) (dCons (dKeep (dVar 1)) dNil))) rg [some .pool, some (.val (.int n)), z, y] (acc.map DL.D.int) Ql
  | [], acc, y, hl, h, q => q acc y rfl h
  | d :: rg, acc, y, hl, h, q => by
    rw [List.length_cons] at hl
    refine ⟨fun _ => ⟨rfl, hD _ _ ⟨n, rfl, hn, fun a a1 a2 => ?_⟩⟩, fun e => nomatch e⟩
    refine ⟨by rw [List.length_map]; unfold sizeLine; omega, ?_⟩
    have key := draws_loop hD hn (z := z) (Ql := Ql) rg (acc ++ [a]) none (by rw [List.length_append, List.length_singleton]; omega) (fun b hb => by
      rcases List.mem_append.mp hb with hb | hb
      · exact h b hb
      · rcases List.mem_cons.mp hb with rfl | hb
        · exact ⟨a1, a2⟩
        · cases hb) fun ls y e => q ls y (by rw [e, List.length_append, List.length_singleton, List.length_cons]; omega)
    rw [List.map_append] at key
    exact key
theorem shape_body {k : Nat} {D R1 : FM} {T1 : FML} (hD : ∀ rs Q, F_draw rs Q → D rs Q) (hR : ∀ rs Q, F_lrow rs Q → R1 rs Q) (hT : ∀ rs l Q, F_ltree k rs l (fun r _ => Q r) → T1 rs l Q) : ∀ rs Q, F_shape k rs Q → bodyF 4 (m_law_shape D R1 T1) rs Q := by
  rintro rs Qd ⟨n, most, rfl, hn, hm, hk, h1000, q⟩
  unfold m_law_shape
  show dSeq _ _ _ [some .pool, some (.val (.int n)), some (.val (.int most)), none]
  walk_at "go"
  refine hD _ _ ⟨3, rfl, ⟨by decide, by decide +kernel⟩, fun c c1 c2 => ?_⟩
  clear c1 c2
  rcases Bool.eq_false_or_eq_true (eqD (.int c) (.int 0)) with hc | hc
  · walk_at "go"
    refine hD _ _ ⟨most, rfl, hm, fun r r1 r2 => ?_⟩
    have hr : ∃ m : Nat, 1 + r = (m : Int) ∧ 1 ≤ m ∧ (m : Int) ≤ most := ⟨(1 + r).toNat, by omega, by omega, by omega⟩
    obtain ⟨m, e, m1, m2⟩ := hr
    show -(2 ^ 62) ≤ (1 + r) ∧ (1 + r) < 2 ^ 62 ∧ _
    refine ⟨by omega, by omega, ?_⟩
    show plainAt _ _ = true ∧ dLcL _ _ _ _ (rangeD 0 (1 + r)) _ _ _
    refine ⟨rfl, ?_⟩
    have hl : (rangeD 0 (1 + r)).length = m := by
      rw [e, rangeD_nat', List.length_map, List.length_range']
    refine draws_loop hD hn (rangeD 0 (1 + r)) [] none (by rw [hl, List.length_nil]; omega) (fun a ha => by cases ha) fun ls y h1 h2 => ?_
    rw [hl, List.length_nil] at h1
    cases ls with
    | nil => exact absurd h1 (by rw [List.length_nil]; omega)
    | cons a ls =>
      rw [List.length_cons] at h1
      refine ⟨rfl, hR _ _ ⟨a, ls, rfl, by omega, ?_⟩⟩
      obtain ⟨k1, k2⟩ := chain_ok (n := n) ls (.nd (some a) []) (fun l hl => h2 l (List.mem_cons_of_mem _ hl)) (by
        intro x hx
        rw [Tr.pre, Tr.pres] at hx
        rcases List.mem_cons.mp hx with rfl | hx
        · exact ⟨a, rfl, (h2 a (List.mem_cons_self ..)).1, (h2 a (List.mem_cons_self ..)).2, Nat.zero_le _⟩
        · cases hx)
      rw [Tr.size, Tr.sizes] at k2
      exact q _ k1 (by rw [k2]; omega)
  · walk_at "go"
    refine hD _ _ ⟨most, rfl, hm, fun r r1 r2 => ?_⟩
    walk_at "go"
    exact hT _ _ _ ⟨n, r, rfl, rfl, hn, r1, by omega, fun t i' k1 k2 k3 => q t k3 (by omega)⟩
section
variable {P : Program} {w : World} {K : PySem.W.Frag} {mg : Str → Option Value} {base : Heap} {a : Ad}
theorem lrow_ok (T : Tx K mg a) : FnOk P w K mg base CX0 1 a.f_law_row_tree a.d_law_row_tree ["row"] (spF K 1 F_lrow) := (b_law_row_tree T (k := 0)).imp (spF.imp lrow_body)
theorem shape_ok (T : Tx K mg a) (hd : FnOk P w K mg base CX0 1 a.f_law_draw a.d_law_draw ["pool", "size"] (spF K 2 F_draw)) (k : Nat) : FnOk P w K mg base CX0 (k + 2) a.f_law_shape a.d_law_shape ["pool", "letters", "most"] (spF K 3 (F_shape k)) :=
  (b_law_shape T (k := k + 1) (hd.mono (by omega)) ((lrow_ok T).mono (by omega)) ((ltree_ok T hd k).imp (spI.last (G := fun rs l Q => F_ltree k rs l fun r _ => Q r) fun rs l Q h => h))).imp (spF.imp (shape_body (fun _ _ h => h) (fun _ _ h => h) fun _ _ _ h => h))
end
end G
end

section
set_option Elab.async false
set_option linter.all false
set_option maxRecDepth 100000
set_option maxHeartbeats 4000000
namespace G
open PySem PySem.Spec PyProof.Rows L2 DL
local macro_rules | `(tactic| walk_at "ok1") => `(tactic| first | exact okD_int _ | exact okD_bl _ | exact okD_non | exact okD_str (by assumption) | assumption)
local macro_rules | `(tactic| walk_at "go1") => `(tactic| ((conv => whnf); first
  | refine s_iteT ?_ | refine s_iteF ?_
  | refine ⟨⟨by walk_at "ok1", by walk_at "ok1"⟩, ?_⟩
  | refine ⟨_, rfl, ?_⟩
  | refine ⟨rfl, ?_⟩
  | refine ⟨Nat.le_of_ble_eq_true rfl, ?_⟩
  | refine ⟨_, isB_tuple (by assumption), ?_⟩
  | refine ⟨_, isB_list (by assumption), ?_⟩
  | refine ⟨_, isB_bool (by assumption), ?_⟩
  | refine ⟨_, isB_int (by assumption), ?_⟩
  | refine ⟨_, isB_str (by assumption), ?_⟩
  | refine ⟨_, by assumption, ?_⟩
  | refine s_ite1 (by assumption) ?_ | refine s_ite0 (by assumption) ?_))
local macro_rules | `(tactic| walk_at "go") => `(tactic| repeat walk_at "go1")
/-! ### the people of a tree, with the places of those below -/
def plD (x : Option Int × List Int) : DL.D := .tup [optD x.1, .tup (x.2.map DL.D.int)]
def shiftP (s : Int) (x : Option Int × List Int) : Option Int × List Int := (x.1, x.2.map fun o => o + s)
mutual
def Tr.places : Tr → List (Option Int × List Int)
  | .nd a cs => (Tr.placesL cs [] []).1 ++ [(a, (Tr.placesL cs [] []).2)]
def Tr.placesL : List Tr → List (Option Int × List Int) → List Int → List (Option Int × List Int) × List Int
  | [], f, p => (f, p)
  | c :: cs, f, p => Tr.placesL cs (f ++ (Tr.places c).map (shiftP f.length)) (p ++ [((f ++ (Tr.places c).map (shiftP f.length)).length : Int) - 1])
end
mutual
theorem Tr.places_length : ∀ t : Tr, (Tr.places t).length = t.size
  | .nd a cs => by rw [Tr.places, Tr.size, List.length_append, List.length_singleton, Tr.placesL_length cs [] [], List.length_nil]; omega
theorem Tr.placesL_length : ∀ (cs : List Tr) (f : List (Option Int × List Int)) (p : List Int), (Tr.placesL cs f p).1.length = f.length + Tr.sizes cs
  | [], f, p => by rw [Tr.placesL, Tr.sizes]; rfl
  | c :: cs, f, p => by rw [Tr.placesL, Tr.placesL_length cs, Tr.sizes, List.length_append, List.length_map, Tr.places_length c]; omega
end
def F_lnodes (k : Nat) : FM := fun rs Qd => ∃ t : Tr, rs = [.val t.d] ∧ t.size ≤ k ∧ t.size ≤ 1000 ∧ Qd (.own ((Tr.places t).map plD))
/-- own + shift for each of the children -/
theorem shift_in {s : Int} {a0 a1 a2 a3 a4 a6 a7 : Option Nv} {Ql : En → List DL.D → Prop} : ∀ (os acc : List Int) (y : Option Nv), acc.length + os.length ≤ 2000 →
    (∀ y, Ql [a0, a1, a2, a3, a4, some (.val (.int s)), a6, a7, y] ((acc ++ os.map fun o => o + s).map DL.D.int)) →
    dLcL [8] (dName 8) dYes (dOp mAdd (dVar 8) (dVar 5)) (os.map DL.D.int) [a0, a1, a2, a3, a4, some (.val (.int s)), a6, a7, y] (acc.map DL.D.int) Ql
  | [], acc, y, h, q => by
    have q := q y
    rw [List.map_nil, List.append_nil] at q
    exact q
  | o :: os, acc, y, h, q => by
    rw [List.length_cons] at h
    refine ⟨fun _ => ?_, fun e => nomatch e⟩
    refine ⟨by rw [List.length_map]; unfold sizeLine; omega, ?_⟩
    have key := shift_in (s := s) (a0 := a0) (a1 := a1) (a2 := a2) (a3 := a3) (a4 := a4) (a6 := a6) (a7 := a7) (Ql := Ql) os (acc ++ [o + s]) none (by rw [List.length_append, List.length_singleton]; omega) fun y => by
      have q := q y
      rw [List.append_assoc]
      exact q
    rw [List.map_append] at key
    exact key
theorem shift_all {s : Int} {a0 a1 a2 a3 a4 : Option Nv} {Ql : En → List DL.D → Prop} : ∀ (bs acc : List (Option Int × List Int)), acc.length + bs.length ≤ 2000 → (∀ x ∈ bs, x.2.length ≤ 1000) →
    Ql [a0, a1, a2, a3, a4, some (.val (.int s)), none, none, none] ((acc ++ bs.map (shiftP s)).map plD) →
    dLcL [6, 7] (dTg 2 (dTCons (dName 6) (dTCons (dName 7) dTNil))) dYes (dTup (dCons (dKeep (dVar 6)) (dCons (dKeep (dCB mTuple (dCons (dLc (dOver (dVar 7)) [8] (dName 8) dYes (dOp mAdd (dVar 8) (dVar 5))) dNil))) dNil))) (bs.map plD) [a0, a1, a2, a3, a4, some (.val (.int s)), none, none, none] (acc.map plD) Ql
  | [], acc, h, hb, q => by
    rw [List.map_nil, List.append_nil] at q
    exact q
  | (x, os) :: bs, acc, h, hb, q => by
    rw [List.length_cons] at h
    have ho : os.length ≤ 1000 := hb (x, os) (List.mem_cons_self ..)
    refine ⟨rfl, fun _ => ?_, fun e => nomatch e⟩
    refine ⟨rfl, ?_⟩
    refine shift_in os [] none (by rw [List.length_nil]; omega) fun y => ?_
    refine ⟨_, rfl, Nat.le_of_ble_eq_true rfl, ?_⟩
    refine ⟨by rw [List.length_map]; unfold sizeLine; omega, ?_⟩
    have key := shift_all (s := s) (a0 := a0) (a1 := a1) (a2 := a2) (a3 := a3) (a4 := a4) (Ql := Ql) bs (acc ++ [shiftP s (x, os)]) (by rw [List.length_append, List.length_singleton]; omega) (fun z hz => hb z (List.mem_cons_of_mem _ hz)) (by
      rw [List.append_assoc]
      exact q)
    rw [List.map_append] at key
    exact key
theorem placesL_2 : ∀ (cs : List Tr) (f : List (Option Int × List Int)) (p : List Int), (Tr.placesL cs f p).2.length = p.length + cs.length
  | [], f, p => by rw [Tr.placesL]; rfl
  | c :: cs, f, p => by rw [Tr.placesL, placesL_2 cs, List.length_append, List.length_singleton, List.length_cons]; omega
mutual
theorem places_few : ∀ (t : Tr) (x : Option Int × List Int), x ∈ Tr.places t → x.2.length ≤ t.size
  | .nd a cs, x, h => by
    rw [Tr.places] at h
    rw [Tr.size]
    rcases List.mem_append.mp h with h | h
    · rcases placesL_few cs [] [] x h with h | h
      · cases h
      · omega
    · rcases List.mem_cons.mp h with rfl | h
      · have h1 := placesL_2 cs [] []
        have h2 := Tr.len_sizes cs
        rw [List.length_nil] at h1
        show (Tr.placesL cs [] []).2.length ≤ _
        omega
      · cases h
theorem placesL_few : ∀ (cs : List Tr) (f : List (Option Int × List Int)) (p : List Int) (x : Option Int × List Int), x ∈ (Tr.placesL cs f p).1 → x ∈ f ∨ x.2.length ≤ Tr.sizes cs
  | [], f, p, x, h => by
    rw [Tr.placesL] at h
    exact .inl h
  | c :: cs, f, p, x, h => by
    rw [Tr.placesL] at h
    rw [Tr.sizes]
    rcases placesL_few cs _ _ x h with h | h
    · rcases List.mem_append.mp h with h | h
      · exact .inl h
      · obtain ⟨y, hy, rfl⟩ := List.mem_map.mp h
        have := places_few c y hy
        refine .inr ?_
        show (y.2.map _).length ≤ _
        rw [List.length_map]
        omega
    · exact .inr (by omega)
end
abbrev lnodes_bd (F : FM) : DSM := (dSeq (dSet 4 (dCall F (dCons (dKeep (dVar 3)) dNil)))
  (dSeq (dSet 5 (dCB mLen (dCons (dVar 1) dNil)))
  (dSeq (dSet 1 (dOp mAdd (dVar 1) (dLc (dOver (dVar 4)) [6, 7] (dTg 2 (dTCons (dName 6) (dTCons (dName 7) dTNil))) dYes (dTup (dCons (dKeep (dVar 6)) (dCons (dKeep (dCB mTuple (dCons (dLc (dOver (dVar 7)) [8] (dName 8) dYes (dOp mAdd (dVar 8) (dVar 5))) dNil))) dNil))))))
  (dApp 2 (dOp mSub (dCB mLen (dCons (dVar 1) dNil)) (dC (.int 1)))))))
theorem lnodes_loop {k : Nat} {F : FM} (hF : ∀ rs Q, F_lnodes k rs Q → F rs Q) {E : DEn} {x : Option Nv} : ∀ (cs : List Tr) (f : List (Option Int × List Int)) (p : List Int) (y3 y4 y5 : Option Nv), Tr.sizes cs ≤ k → f.length + Tr.sizes cs ≤ 1000 → p.length + cs.length ≤ 1000 →
    (∀ y3 y4 y5, E.nx [x, some (.own ((Tr.placesL cs f p).1.map plD)), some (.own ((Tr.placesL cs f p).2.map DL.D.int)), y3, y4, y5, none, none, none]) →
    dLoop (dName 3) (lnodes_bd F) E (Tr.ds cs) [x, some (.own (f.map plD)), some (.own (p.map DL.D.int)), y3, y4, y5, none, none, none]
  | [], f, p, y3, y4, y5, h, h1, h2, q => q y3 y4 y5
  | c :: cs, f, p, y3, y4, y5, h, h1, h2, q => by
    rw [Tr.sizes] at h h1
    rw [List.length_cons] at h2
    have hz : 1 ≤ c.size := by cases c; rw [Tr.size]; omega
    rw [Tr.ds]
    refine ⟨rfl, hF _ _ ⟨c, rfl, by omega, by omega, ?_⟩⟩
    have hc := Tr.places_length c
    have ef : (((f.map plD).length : Nat) : Int) = (f.length : Int) := by rw [List.length_map]
    show plainAt _ _ = true ∧ dLcL _ _ _ _ ((Tr.places c).map plD) [_, _, _, _, _, some (.val (.int (((f.map plD).length : Nat) : Int))), none, none, none] _ _
    rw [ef]
    refine ⟨rfl, ?_⟩
    refine shift_all (Tr.places c) [] (by rw [List.length_nil]; omega) (fun z hz => by have := places_few c z hz; omega) ?_
    rw [List.nil_append]
    have hs : ((Tr.places c).map (shiftP (f.length : Int))).length = c.size := by rw [List.length_map, hc]
    refine ⟨by rw [List.length_map, List.length_map, hs]; unfold sizeLine; omega, ?_⟩
    rw [← List.map_append]
    have e2 : (((((f ++ (Tr.places c).map (shiftP (f.length : Int))).map plD).length : Nat)) : Int) = ((f ++ (Tr.places c).map (shiftP (f.length : Int))).length : Int) := by rw [List.length_map]
    show (p.map DL.D.int).length < sizeLine ∧ dLoop (dName 3) (lnodes_bd F) E (Tr.ds cs) [x, some (.own ((f ++ (Tr.places c).map (shiftP (f.length : Int))).map plD)), some (.own (p.map DL.D.int ++ [.int (((((f ++ (Tr.places c).map (shiftP (f.length : Int))).map plD).length : Nat) : Int) - 1)])), some (.val c.d), some (.val (.lst ((Tr.places c).map plD))), some (.val (.int (f.length : Int))), none, none, none]
    rw [e2]
    refine ⟨by rw [List.length_map]; unfold sizeLine; omega, ?_⟩
    have key := lnodes_loop hF (E := E) (x := x) cs (f ++ (Tr.places c).map (shiftP (f.length : Int))) (p ++ [((f ++ (Tr.places c).map (shiftP (f.length : Int))).length : Int) - 1]) (some (.val c.d)) (some (.val (.lst ((Tr.places c).map plD)))) (some (.val (.int (f.length : Int)))) (by omega) (by rw [List.length_append, hs]; omega) (by rw [List.length_append, List.length_singleton]; omega) fun y3 y4 y5 => by
      have q := q y3 y4 y5
      rw [Tr.placesL] at q
      exact q
    rw [List.map_append (l₁ := p)] at key
    exact key
theorem lnodes_body {k : Nat} {F : FM} (hF : ∀ rs Q, F_lnodes k rs Q → F rs Q) : ∀ rs Q, F_lnodes (k + 1) rs Q → bodyF 9 (m_law_nodes F) rs Q := by
  rintro rs Qd ⟨t, rfl, h, h2, q⟩
  obtain ⟨a, cs⟩ := t
  rw [Tr.size] at h h2
  have hl := Tr.len_sizes cs
  unfold m_law_nodes
  rw [Tr.d]
  show dSeq _ _ _ [some (.val _), none, none, none, none, none, none, none, none]
  walk_at "go"
  refine lnodes_loop hF cs [] [] none none none (by omega) (by rw [List.length_nil]; omega) (by rw [List.length_nil]; omega) fun y3 y4 y5 => ?_
  have h3 := Tr.placesL_length cs [] []
  rw [List.length_nil] at h3
  walk_at "go"
  refine ⟨by rw [List.length_map]; show _ + 1 ≤ _; unfold sizeLine; omega, ?_⟩
  rw [Tr.places, List.map_append] at q
  exact q
section
variable {P : Program} {w : World} {K : PySem.W.Frag} {mg : Str → Option Value} {base : Heap} {a : Ad}
theorem lnodes_ok (T : Tx K mg a) : ∀ k, FnOk P w K mg base CX0 k a.f_law_nodes a.d_law_nodes ["tree"] (spF K 1 (F_lnodes k))
  | 0 => ⟨fun vs H Q E ⟨S, pa, rs, Qd, h1, h2, h3, h4, h5⟩ => h4, fun A outer s H args us vs Q E hr he hb hv ⟨S, pa, rs, Qd, h1, h2, h3, h4, ⟨t, _, h5, _⟩, _⟩ => by
    cases t
    rw [Tr.size] at h5
    omega⟩
  | k + 1 => (b_law_nodes T (lnodes_ok T k)).imp (spF.imp (lnodes_body fun _ _ h => h))
end
end G
end

section
set_option Elab.async false
set_option linter.all false
set_option maxRecDepth 100000
set_option maxHeartbeats 4000000
namespace G
open PySem PySem.Spec PyProof.Rows L2 DL
local macro_rules | `(tactic| walk_at "ok1") => `(tactic| first | exact okD_int _ | exact okD_bl _ | exact okD_non | exact okD_str (by assumption) | assumption)
local macro_rules | `(tactic| walk_at "go1") => `(tactic| ((conv => whnf); first
  | refine s_iteT ?_ | refine s_iteF ?_
  | refine ⟨⟨by walk_at "ok1", by walk_at "ok1"⟩, ?_⟩
  | refine ⟨_, rfl, ?_⟩
  | refine ⟨rfl, ?_⟩
  | refine ⟨Nat.le_of_ble_eq_true rfl, ?_⟩
  | refine ⟨_, isB_tuple (by assumption), ?_⟩
  | refine ⟨_, isB_list (by assumption), ?_⟩
  | refine ⟨_, isB_bool (by assumption), ?_⟩
  | refine ⟨_, isB_int (by assumption), ?_⟩
  | refine ⟨_, isB_str (by assumption), ?_⟩
  | refine ⟨_, by assumption, ?_⟩
  | refine s_ite1 (by assumption) ?_ | refine s_ite0 (by assumption) ?_))
local macro_rules | `(tactic| walk_at "go") => `(tactic| repeat walk_at "go1")
/-! ### a drawn machine's parts -/
def mvD (x : Int × List Int × Int) : DL.D := .tup [.int x.1, .tup (x.2.1.map DL.D.int), .int x.2.2]
def okMv (n m : Int) (x : Int × List Int × Int) : Prop := (0 ≤ x.1 ∧ x.1 < n) ∧ x.2.1.length ≤ 2 ∧ (∀ c ∈ x.2.1, 0 ≤ c ∧ c < m) ∧ 0 ≤ x.2.2 ∧ x.2.2 < m
def F_machine : FM := fun rs Qd => ∃ n m many : Int, rs = [.pool, .val (.int n), .val (.int m), .val (.int many)] ∧ CDivW 0 n ∧ CDivW 0 m ∧ m ≤ 1000 ∧ 0 ≤ many ∧ many ≤ 1000 ∧
  ∀ (mv : List (Int × List Int × Int)) (es : List Int), (mv.length : Int) ≤ many → (∀ x ∈ mv, okMv n m x) → (∀ e ∈ es, 0 ≤ e ∧ e < m) → es.Pairwise (· < ·) → Qd (.val (.tup [.int n, .int m, .lst (mv.map mvD), .lst (es.map DL.D.int)]))
theorem kids_loop {D : FM} (hD : ∀ rs Q, F_draw rs Q → D rs Q) {m : Int} (hm : CDivW 0 m) {a1 a3 a4 a5 a6 a7 a8 a9 : Option Nv} {Ql : En → List DL.D → Prop} : ∀ (rg : List DL.D) (acc : List Int) (y : Option Nv), acc.length + rg.length ≤ 1000 → (∀ a ∈ acc, 0 ≤ a ∧ a < m) →
    (∀ (ls : List Int) y, ls.length = acc.length + rg.length → (∀ a ∈ ls, 0 ≤ a ∧ a < m) → Ql [some .pool, a1, some (.val (.int m)), a3, a4, a5, a6, a7, a8, a9, y] (ls.map DL.D.int)) →
    dLcL [10] (dName 10) dYes (dCall D (dCons (dKeep (dVar 0)) (dCons (dKeep (dVar 2)) dNil))) rg [some .pool, a1, some (.val (.int m)), a3, a4, a5, a6, a7, a8, a9, y] (acc.map DL.D.int) Ql
  | [], acc, y, hl, h, q => q acc y rfl h
  | d :: rg, acc, y, hl, h, q => by
    rw [List.length_cons] at hl
    refine ⟨fun _ => ⟨rfl, hD _ _ ⟨m, rfl, hm, fun a k1 k2 => ?_⟩⟩, fun e => nomatch e⟩
    refine ⟨by rw [List.length_map]; unfold sizeLine; omega, ?_⟩
    have key := kids_loop hD hm (a1 := a1) (a3 := a3) (a4 := a4) (a5 := a5) (a6 := a6) (a7 := a7) (a8 := a8) (a9 := a9) (Ql := Ql) rg (acc ++ [a]) none (by rw [List.length_append, List.length_singleton]; omega) (fun b hb => by
      rcases List.mem_append.mp hb with hb | hb
      · exact h b hb
      · rcases List.mem_cons.mp hb with rfl | hb
        · exact ⟨k1, k2⟩
        · cases hb) fun ls y e => q ls y (by rw [e, List.length_append, List.length_singleton, List.length_cons]; omega)
    rw [List.map_append] at key
    exact key
theorem ends_loop {D : FM} (hD : ∀ rs Q, F_draw rs Q → D rs Q) {a1 a2 a3 a4 a5 a6 a7 a8 a10 : Option Nv} {Ql : En → List DL.D → Prop} : ∀ (r i : Nat) (acc : List Int) (y : Option Nv), acc.length + r ≤ 1000 → (∀ a ∈ acc, 0 ≤ a ∧ a < (i : Int)) → acc.Pairwise (· < ·) →
    (∀ (ls : List Int) y, (∀ a ∈ ls, 0 ≤ a ∧ a < ((i + r : Nat) : Int)) → ls.Pairwise (· < ·) → Ql [some .pool, a1, a2, a3, a4, a5, a6, a7, a8, y, a10] (ls.map DL.D.int)) →
    dLcL [9] (dName 9) (dB (dOp mEq (dCall D (dCons (dKeep (dVar 0)) (dCons (dKeep (dC (.int 2))) dNil))) (dC (.int 0)))) (dVar 9) ((List.range' i r).map fun k : Nat => DL.D.int (k : Int)) [some .pool, a1, a2, a3, a4, a5, a6, a7, a8, y, a10] (acc.map DL.D.int) Ql
  | 0, i, acc, y, hl, h, hp, q => q acc y h hp
  | r + 1, i, acc, y, hl, h, hp, q => by
    refine ⟨rfl, hD _ _ ⟨2, rfl, ⟨by decide, by decide +kernel⟩, fun c k1 k2 => ?_⟩⟩
    clear k1 k2
    refine ⟨⟨okD_int _, okD_int _⟩, ?_⟩
    have up : ∀ x : Int, x < (i : Int) → x < ((i + 1 : Nat) : Int) := fun x hx => by omega
    refine dIte_of (fun _ => ?_) fun _ => ?_
    · refine ⟨by rw [List.length_map]; unfold sizeLine; omega, ?_⟩
      have key := ends_loop hD (a1 := a1) (a2 := a2) (a3 := a3) (a4 := a4) (a5 := a5) (a6 := a6) (a7 := a7) (a8 := a8) (a10 := a10) (Ql := Ql) r (i + 1) (acc ++ [(i : Int)]) none (by rw [List.length_append, List.length_singleton]; omega) (fun b hb => by
        rcases List.mem_append.mp hb with hb | hb
        · exact ⟨(h b hb).1, up b (h b hb).2⟩
        · rcases List.mem_cons.mp hb with rfl | hb
          · exact ⟨by omega, by omega⟩
          · cases hb) (by
        rw [List.pairwise_append]
        refine ⟨hp, List.pairwise_singleton _ _, fun a ha b hb => ?_⟩
        rcases List.mem_cons.mp hb with rfl | hb
        · exact (h a ha).2
        · cases hb) fun ls y e p => q ls y (fun a ha => by have := e a ha; omega) p
      rw [List.map_append] at key
      exact key
    · exact ends_loop hD (a1 := a1) (a2 := a2) (a3 := a3) (a4 := a4) (a5 := a5) (a6 := a6) (a7 := a7) (a8 := a8) (a10 := a10) (Ql := Ql) r (i + 1) acc none (by omega) (fun b hb => ⟨(h b hb).1, up b (h b hb).2⟩) hp fun ls y e p => q ls y (fun a ha => by have := e a ha; omega) p
abbrev mach_bd (D : FM) : DSM := (dSeq (dSet 6 (dOp mIx (dTup (dCons (dKeep (dC (.int 0))) (dCons (dKeep (dC (.int 1))) (dCons (dKeep (dC (.int 1))) (dCons (dKeep (dC (.int 2))) dNil))))) (dCall D (dCons (dKeep (dVar 0)) (dCons (dKeep (dC (.int 4))) dNil)))))
  (dSeq (dSet 7 (dCB mTuple (dCons (dLc (dRng1 (dVar 6)) [10] (dName 10) dYes (dCall D (dCons (dKeep (dVar 0)) (dCons (dKeep (dVar 2)) dNil)))) dNil)))
  (dApp 4 (dTup (dCons (dKeep (dCall D (dCons (dKeep (dVar 0)) (dCons (dKeep (dVar 1)) dNil)))) (dCons (dKeep (dVar 7)) (dCons (dKeep (dCall D (dCons (dKeep (dVar 0)) (dCons (dKeep (dVar 2)) dNil)))) dNil)))))))
theorem mach_loop {D : FM} (hD : ∀ rs Q, F_draw rs Q → D rs Q) {n m : Int} (hn : CDivW 0 n) (hm : CDivW 0 m) {a3 : Option Nv} {E : DEn} {N : Nat} (hN : N ≤ 1000)
    (q : ∀ (mv : List (Int × List Int × Int)) y5 y6 y7, mv.length ≤ N → (∀ x ∈ mv, okMv n m x) → E.nx [some .pool, some (.val (.int n)), some (.val (.int m)), a3, some (.own (mv.map mvD)), y5, y6, y7, none, none, none]) :
    ∀ (rg : List DL.D) (mv : List (Int × List Int × Int)) (y5 y6 y7 : Option Nv), mv.length + rg.length ≤ N → (∀ x ∈ mv, okMv n m x) →
    dLoop (dName 5) (mach_bd D) E rg [some .pool, some (.val (.int n)), some (.val (.int m)), a3, some (.own (mv.map mvD)), y5, y6, y7, none, none, none]
  | [], mv, y5, y6, y7, hl, h => q mv y5 y6 y7 hl h
  | d :: rg, mv, y5, y6, y7, hl, h => by
    rw [List.length_cons] at hl
    walk_at "go"
    refine hD _ _ ⟨4, rfl, ⟨by decide, by decide +kernel⟩, fun c c1 c2 => ?_⟩
    obtain ⟨k, hk, hx⟩ : ∃ k : Nat, k ≤ 2 ∧ atI ([.int 0, .int 1, .int 1, .int 2] : List DL.D) c = some (.int (k : Int)) := by
      have : c = 0 ∨ c = 1 ∨ c = 2 ∨ c = 3 := by omega
      rcases this with rfl | rfl | rfl | rfl
      · exact ⟨0, by decide, rfl⟩
      · exact ⟨1, by decide, rfl⟩
      · exact ⟨1, by decide, rfl⟩
      · exact ⟨2, by decide, rfl⟩
    refine ⟨_, hx, ?_⟩
    clear hx c1 c2
    show -(2 ^ 62) ≤ (k : Int) ∧ (k : Int) < 2 ^ 62 ∧ plainAt _ _ = true ∧ dLcL _ _ _ _ (rangeD 0 (k : Int)) _ _ _
    have hlk : (rangeD 0 (k : Int)).length = k := by rw [rangeD_nat', List.length_map, List.length_range']
    refine ⟨by omega, by omega, rfl, ?_⟩
    refine kids_loop hD hm (rangeD 0 (k : Int)) [] none (by rw [hlk, List.length_nil]; omega) (fun a ha => by cases ha) fun ls y h1 h2 => ?_
    rw [hlk, List.length_nil] at h1
    refine ⟨rfl, hD _ _ ⟨n, rfl, hn, fun a p1 p2 => ?_⟩⟩
    refine ⟨rfl, hD _ _ ⟨m, rfl, hm, fun b p3 p4 => ?_⟩⟩
    refine ⟨_, rfl, Nat.le_of_ble_eq_true rfl, ?_⟩
    refine ⟨by rw [List.length_map]; unfold sizeLine; omega, ?_⟩
    have key := mach_loop hD hn hm (a3 := a3) hN q rg (mv ++ [(a, ls, b)]) (some (.val d)) (some (.val (.int (k : Int)))) (some (.val (.tup (ls.map DL.D.int)))) (by rw [List.length_append, List.length_singleton]; omega) (fun x hx => by
      rcases List.mem_append.mp hx with hx | hx
      · exact h x hx
      · rcases List.mem_cons.mp hx with rfl | hx
        · exact ⟨⟨p1, p2⟩, by show ls.length ≤ 2; omega, h2, p3, p4⟩
        · cases hx)
    rw [List.map_append] at key
    exact key
theorem mach_body {D : FM} (hD : ∀ rs Q, F_draw rs Q → D rs Q) : ∀ rs Q, F_machine rs Q → bodyF 11 (m_law_machine D) rs Q := by
  rintro rs Qd ⟨n, m, many, rfl, hn, hm, h1, h2, h3, q⟩
  unfold m_law_machine
  show dSeq _ _ _ [some .pool, some (.val (.int n)), some (.val (.int m)), some (.val (.int many)), none, none, none, none, none, none, none]
  obtain ⟨mm, rfl⟩ : ∃ k : Nat, many = (k : Int) := ⟨many.toNat, by omega⟩
  have hm0 : 0 < m := hm.1
  obtain ⟨mn, rfl⟩ : ∃ k : Nat, m = (k : Int) := ⟨m.toNat, by omega⟩
  have hd : CDivW 0 (((mm + 1 : Nat)) : Int) := cdiv_nat (by omega) (by omega)
  have hh : (mn : Int) ≤ 1000 ∧ 0 ≤ (mm : Int) ∧ (mm : Int) ≤ 1000 ∧ 0 < (mn : Int) := ⟨h1, h2, h3, hm0⟩
  clear h1 h2 h3 hm0
  walk_at "go"
  obtain ⟨h1, h2, h3, hm0⟩ := hh
  refine hD _ _ ⟨_, rfl, hd, fun r r1 r2 => ?_⟩
  have hlr : (rangeD 0 r).length ≤ mm := by
    unfold rangeD
    rw [List.length_map, List.length_range]
    omega
  show -(2 ^ 62) ≤ r ∧ r < 2 ^ 62 ∧ dLoop _ _ _ (rangeD 0 r) _
  refine ⟨by omega, by omega, ?_⟩
  refine mach_loop hD hn hm (N := mm) (by omega) (fun mv y5 y6 y7 k1 k2 => ?_) (rangeD 0 r) [] none none none (by rw [List.length_nil]; omega) (fun x hx => by cases hx)
  show -(2 ^ 62) ≤ (mn : Int) ∧ (mn : Int) < 2 ^ 62 ∧ plainAt _ _ = true ∧ dLcL _ _ _ _ (rangeD 0 (mn : Int)) _ _ _
  rw [rangeD_nat']
  refine ⟨by omega, by omega, rfl, ?_⟩
  refine ends_loop hD mn 0 [] none (by rw [List.length_nil]; omega) (fun a ha => by cases ha) List.Pairwise.nil fun ls y e1 e2 => ?_
  walk_at "go"
  exact q mv ls (by omega) k2 (fun e he => by have := e1 e he; omega) e2
section
variable {P : Program} {w : World} {K : PySem.W.Frag} {mg : Str → Option Value} {base : Heap} {a : Ad}
theorem mach_ok (T : Tx K mg a) (hd : FnOk P w K mg base CX0 1 a.f_law_draw a.d_law_draw ["pool", "size"] (spF K 2 F_draw)) : FnOk P w K mg base CX0 2 a.f_law_machine a.d_law_machine ["pool", "letters", "labels", "many"] (spF K 4 F_machine) :=
  (b_law_machine T hd).imp (spF.imp (mach_body fun _ _ h => h))
end
end G
end

section
set_option Elab.async false
set_option linter.all false
set_option maxRecDepth 100000
set_option maxHeartbeats 4000000
namespace G
open PySem PySem.Spec PyProof.Rows L2 DL
local macro_rules | `(tactic| walk_at "ok1") => `(tactic| first | exact okD_int _ | exact okD_bl _ | exact okD_non | exact okD_str (by assumption) | assumption)
local macro_rules | `(tactic| walk_at "go1") => `(tactic| ((conv => whnf); first
  | refine s_iteT ?_ | refine s_iteF ?_
  | refine ⟨⟨by walk_at "ok1", by walk_at "ok1"⟩, ?_⟩
  | refine ⟨_, rfl, ?_⟩
  | refine ⟨rfl, ?_⟩
  | refine ⟨Nat.le_of_ble_eq_true rfl, ?_⟩
  | refine ⟨_, isB_tuple (by assumption), ?_⟩
  | refine ⟨_, isB_list (by assumption), ?_⟩
  | refine ⟨_, isB_bool (by assumption), ?_⟩
  | refine ⟨_, isB_int (by assumption), ?_⟩
  | refine ⟨_, isB_str (by assumption), ?_⟩
  | refine ⟨_, by assumption, ?_⟩
  | refine s_ite1 (by assumption) ?_ | refine s_ite0 (by assumption) ?_))
local macro_rules | `(tactic| walk_at "go") => `(tactic| repeat walk_at "go1")
/-! ### the nodes of a tree from below, its people -/
mutual
def Tr.post : Tr → List (Option Int × Nat)
  | .nd a cs => Tr.posts cs ++ [(a, cs.length)]
def Tr.posts : List Tr → List (Option Int × Nat)
  | [] => []
  | t :: r => Tr.post t ++ Tr.posts r
end
theorem Tr.posts_append : ∀ ts us : List Tr, Tr.posts (ts ++ us) = Tr.posts ts ++ Tr.posts us
  | [], us => by rw [Tr.posts]; rfl
  | t :: r, us => by rw [List.cons_append, Tr.posts, Tr.posts, Tr.posts_append r us, List.append_assoc]
mutual
theorem Tr.post_length : ∀ t : Tr, (Tr.post t).length = t.size
  | .nd a cs => by rw [Tr.post, Tr.size, List.length_append, Tr.posts_length cs]; rfl
theorem Tr.posts_length : ∀ ts : List Tr, (Tr.posts ts).length = Tr.sizes ts
  | [] => by rw [Tr.posts, Tr.sizes]; rfl
  | t :: r => by rw [Tr.posts, Tr.sizes, List.length_append, Tr.post_length t, Tr.posts_length r]
end
def F_below : FM := fun rs Qd => ∃ t : Tr, rs = [.val t.d] ∧ t.size ≤ 100000 ∧ Qd (.own ((Tr.post t).map ndD))
theorem below_loop {E : DEn} {x : Nv} : ∀ (n : Nat) (st : List Tr) (no : List (Option Int × Nat)) (a b : Option Nv), Tr.sizes st ≤ n → no.length + Tr.sizes st ≤ 100000 →
    (∀ a b, E.nx [some x, some (.own ((no ++ (Tr.posts st).reverse).map ndD)), some (.own []), a, b]) →
    dWh (dTru (dVar 2)) (dSeq (dAsgP (dTg 2 (dTCons (dName 3) (dTCons (dName 4) dTNil))) (dPopL 2))
      (dSeq (dApp 1 (dTup (dCons (dKeep (dVar 3)) (dCons (dKeep (dCB mLen (dCons (dVar 4) dNil))) dNil)))) (dExtA 2 (dVar 4)))) E (n + 1) [some x, some (.own (no.map ndD)), some (.own (Tr.ds st)), a, b] := by
  intro n
  induction n with
  | zero =>
    intro st no a b h h2 k
    cases st with
    | nil =>
      walk_at "go"
      have q := k a b
      rw [Tr.posts, List.reverse_nil, List.append_nil] at q
      rw [Tr.ds]
      exact q
    | cons t r =>
      obtain ⟨c, cs⟩ := t
      rw [Tr.sizes, Tr.size] at h
      omega
  | succ n ih =>
    intro st no a b h h2 k
    rcases List.eq_nil_or_concat st with rfl | ⟨r, t, ec⟩
    · walk_at "go"
      have q := k a b
      rw [Tr.posts, List.reverse_nil, List.append_nil] at q
      rw [Tr.ds]
      exact q
    · rw [List.concat_eq_append] at ec
      subst ec
      obtain ⟨c, cs⟩ := t
      have e : Tr.ds (r ++ [.nd c cs]) = Tr.ds r ++ [.tup [optD c, .tup (Tr.ds cs)]] := by
        rw [Tr.ds_append, Tr.ds, Tr.ds, Tr.d]
      rw [e]
      have e2 := last_add (Tr.ds r) (.tup [optD c, .tup (Tr.ds cs)])
      have e3 : truD (.lst (Tr.ds r ++ [.tup [optD c, .tup (Tr.ds cs)]])) = some true := by
        cases Tr.ds r <;> rfl
      refine ⟨_, e3, ?_⟩
      walk_at "go"
      have z1 : Tr.sizes (r ++ [.nd c cs]) = Tr.sizes r + (Tr.sizes cs + 1) := by rw [Tr.sizes_append, Tr.sizes, Tr.sizes, Tr.size, Nat.add_zero]
      rw [z1] at h h2
      have z2 := Tr.len_sizes cs
      have z3 := Tr.len_sizes r
      refine ⟨by rw [List.length_map]; unfold sizeLine; omega, ?_⟩
      refine ⟨⟨_, rfl⟩, ?_⟩
      rw [List.dropLast_concat, Tr.ds_length]
      conv => whnf
      refine ⟨by rw [Tr.ds_length, Tr.ds_length]; unfold sizeLine; omega, ?_⟩
      have f1 : no.map ndD ++ [ndD (c, cs.length)] = (no ++ [(c, cs.length)]).map ndD := by rw [List.map_append]; rfl
      have f2 : Tr.ds r ++ Tr.ds cs = Tr.ds (r ++ cs) := (Tr.ds_append r cs).symm
      have key := ih (r ++ cs) (no ++ [(c, cs.length)]) (some (.val (optD c))) (some (.val (.tup (Tr.ds cs)))) (by rw [Tr.sizes_append]; omega) (by rw [Tr.sizes_append, List.length_append, List.length_singleton]; omega) fun a b => by
        have q := k a b
        rw [Tr.posts_append, Tr.posts, Tr.posts, List.append_nil, Tr.post, List.reverse_append, List.reverse_append] at q
        rw [Tr.posts_append, List.reverse_append, List.append_assoc]
        exact q
      rw [← f1, ← f2] at key
      exact key
theorem below_body : ∀ rs Qd, F_below rs Qd → bodyF 5 m_nodes_from_below rs Qd := by
  rintro rs Qd ⟨t, rfl, h, q⟩
  unfold m_nodes_from_below
  show dSeq _ _ _ [some (.val t.d), none, none, none, none]
  walk_at "go"
  refine ⟨t.size + 1, ?_⟩
  have e : Tr.ds [t] = [t.d] := by rw [Tr.ds, Tr.ds]
  have key := fun E hk => below_loop (E := E) (x := .val t.d) t.size [t] [] none none (by rw [Tr.sizes, Tr.sizes]; exact Nat.le_refl _) (by rw [Tr.sizes, Tr.sizes]; exact (by simpa using h)) hk
  rw [e] at key
  refine key _ fun a b => ?_
  rw [Tr.posts, Tr.posts, List.append_nil, List.nil_append]
  show Qd (.own (List.map ndD (Tr.post t).reverse).reverse)
  rw [← List.map_reverse, List.reverse_reverse]
  exact q
/-! the places -/
mutual
/-- the people from place n on -/
def Tr.A : Tr → Nat → List (Option Int × List Int)
  | .nd a cs, n => Tr.As cs n ++ [(a, Tr.Rs cs n)]
def Tr.As : List Tr → Nat → List (Option Int × List Int)
  | [], _ => []
  | c :: cs, n => Tr.A c n ++ Tr.As cs (n + c.size)
/-- where the roots are -/
def Tr.Rs : List Tr → Nat → List Int
  | [], _ => []
  | c :: cs, n => (((n + c.size : Nat) : Int) - 1) :: Tr.Rs cs (n + c.size)
end
mutual
theorem Tr.A_length : ∀ (t : Tr) (n : Nat), (Tr.A t n).length = t.size
  | .nd a cs, n => by rw [Tr.A, Tr.size, List.length_append, Tr.As_length cs n]; rfl
theorem Tr.As_length : ∀ (ts : List Tr) (n : Nat), (Tr.As ts n).length = Tr.sizes ts
  | [], n => by rw [Tr.As, Tr.sizes]; rfl
  | c :: cs, n => by rw [Tr.As, Tr.sizes, List.length_append, Tr.A_length c, Tr.As_length cs]
end
theorem Tr.Rs_length : ∀ (ts : List Tr) (n : Nat), (Tr.Rs ts n).length = ts.length
  | [], n => by rw [Tr.Rs]; rfl
  | c :: cs, n => by rw [Tr.Rs, List.length_cons, List.length_cons, Tr.Rs_length cs]
mutual
theorem Tr.A_shift : ∀ (t : Tr) (n m : Nat), Tr.A t (m + n) = (Tr.A t n).map (shiftP (m : Int))
  | .nd a cs, n, m => by
    rw [Tr.A, Tr.A, List.map_append, Tr.As_shift cs n m, Tr.Rs_shift cs n m]
    rfl
theorem Tr.As_shift : ∀ (ts : List Tr) (n m : Nat), Tr.As ts (m + n) = (Tr.As ts n).map (shiftP (m : Int))
  | [], n, m => by rw [Tr.As, Tr.As]; rfl
  | c :: cs, n, m => by rw [Tr.As, Tr.As, List.map_append, Tr.A_shift c n m, Nat.add_assoc, Tr.As_shift cs (n + c.size) m]
theorem Tr.Rs_shift : ∀ (ts : List Tr) (n m : Nat), Tr.Rs ts (m + n) = (Tr.Rs ts n).map (fun o => o + (m : Int))
  | [], n, m => by rw [Tr.Rs, Tr.Rs]; rfl
  | c :: cs, n, m => by
    rw [Tr.Rs, Tr.Rs, List.map_cons, Nat.add_assoc, Tr.Rs_shift cs (n + c.size) m]
    congr 1
    omega
end
mutual
theorem Tr.places_A : ∀ t : Tr, Tr.places t = Tr.A t 0
  | .nd a cs => by
    have h := Tr.placesL_A cs [] []
    rw [Tr.places, Tr.A, h, List.nil_append, List.nil_append, List.length_nil]
theorem Tr.placesL_A : ∀ (cs : List Tr) (f : List (Option Int × List Int)) (p : List Int), Tr.placesL cs f p = (f ++ Tr.As cs f.length, p ++ Tr.Rs cs f.length)
  | [], f, p => by rw [Tr.placesL, Tr.As, Tr.Rs, List.append_nil, List.append_nil]
  | c :: cs, f, p => by
    have e : (Tr.places c).map (shiftP (f.length : Int)) = Tr.A c f.length := by
      rw [Tr.places_A c, ← Tr.A_shift c 0 f.length]
      rfl
    have l : (f ++ Tr.A c f.length).length = f.length + c.size := by rw [List.length_append, Tr.A_length]
    rw [Tr.placesL, e, Tr.placesL_A cs, Tr.As, Tr.Rs, l, List.append_assoc, List.append_assoc]
    rfl
end
def F_people : FM := fun rs Qd => ∃ t : Tr, rs = [.val t.d] ∧ t.size ≤ 1000 ∧ Qd (.own ((Tr.places t).map plD))
abbrev peo_bd : DSM := (dSeq (dSet 5 (dOp mSub (dCB mLen (dCons (dVar 2) dNil)) (dVar 4)))
  (dSeq (dSet 6 (dCB mTuple (dCons (dSl (dVar 2) (dPart (dVar 5)) dNoPart) dNil)))
  (dSeq (dDelT 2 (dVar 5))
  (dSeq (dApp 2 (dCB mLen (dCons (dVar 1) dNil)))
  (dApp 1 (dTup (dCons (dKeep (dVar 3)) (dCons (dKeep (dVar 6)) dNil))))))))
abbrev peo_tg : DGM := dTg 2 (dTCons (dName 3) (dTCons (dName 4) dTNil))
/-- a node: its children's places are taken from the roots' end -/
theorem peo_node {E : DEn} {x : Nv} {rest : List DL.D} {a : Option Int} {told : List (Option Int × List Int)} {roots kids : List Int} {y3 y4 y5 y6 : Option Nv} (h1 : told.length ≤ 100000) (h2 : roots.length + kids.length ≤ 100000)
    (q : ∀ y3 y4 y5 y6, dLoop peo_tg peo_bd E rest [some x, some (.own ((told ++ [(a, kids)]).map plD)), some (.own ((roots ++ [(told.length : Int)]).map DL.D.int)), y3, y4, y5, y6]) :
    dLoop peo_tg peo_bd E (ndD (a, kids.length) :: rest) [some x, some (.own (told.map plD)), some (.own ((roots ++ kids).map DL.D.int)), y3, y4, y5, y6] := by
  walk_at "go"
  have l1 : ((((roots ++ kids).map DL.D.int).length : Nat) : Int) - (kids.length : Int) = (roots.length : Int) := by
    rw [List.length_map, List.length_append]
    omega
  have l2 : DL.cutD ((roots ++ kids).map DL.D.int) (some (roots.length : Int)) none = kids.map DL.D.int := by
    rw [cutFrom, ← List.map_drop, List.drop_left]
  have l3 : ((roots ++ kids).map DL.D.int).take roots.length = roots.map DL.D.int := by rw [← List.map_take, List.take_left]
  conv => whnf
  refine ⟨⟨by show 0 ≤ _ - (kids.length : Int); rw [l1]; omega, by show (_ - (kids.length : Int)).toNat ≤ _; rw [l1, List.length_map, List.length_append]; omega⟩, ?_⟩
  conv => whnf
  refine ⟨by show (List.take (_ - (kids.length : Int)).toNat _).length < _; rw [l1, Int.toNat_natCast, l3, List.length_map]; unfold sizeLine; omega, ?_⟩
  conv => whnf
  refine ⟨_, rfl, Nat.le_of_ble_eq_true rfl, ?_⟩
  show (told.map plD).length < sizeLine ∧ dLoop peo_tg peo_bd E rest [some x, some (.own (told.map plD ++ [.tup [optD a, .tup (DL.cutD ((roots ++ kids).map DL.D.int) (some (((((roots ++ kids).map DL.D.int).length : Nat) : Int) - (kids.length : Int))) none)]])),
    some (.own (((roots ++ kids).map DL.D.int).take (((((roots ++ kids).map DL.D.int).length : Nat) : Int) - (kids.length : Int)).toNat ++ [.int (((told.map plD).length : Nat) : Int)])), some (.val (optD a)), some (.val (.int (kids.length : Int))), some (.val (.int (((((roots ++ kids).map DL.D.int).length : Nat) : Int) - (kids.length : Int)))),
    some (.val (.tup (DL.cutD ((roots ++ kids).map DL.D.int) (some (((((roots ++ kids).map DL.D.int).length : Nat) : Int) - (kids.length : Int))) none)))]
  rw [l1, Int.toNat_natCast, l2, l3]
  refine ⟨by rw [List.length_map]; unfold sizeLine; omega, ?_⟩
  have key := q (some (.val (optD a))) (some (.val (.int (kids.length : Int)))) (some (.val (.int (roots.length : Int)))) (some (.val (.tup (kids.map DL.D.int))))
  rw [List.map_append, List.map_append] at key
  rw [List.length_map]
  exact key
mutual
theorem peo_tree {E : DEn} {x : Nv} {rest : List DL.D} : ∀ (t : Tr) (told : List (Option Int × List Int)) (roots : List Int) (y3 y4 y5 y6 : Option Nv), told.length + t.size ≤ 10000 → roots.length + t.size ≤ 10000 →
    (∀ y3 y4 y5 y6, dLoop peo_tg peo_bd E rest [some x, some (.own ((told ++ Tr.A t told.length).map plD)), some (.own ((roots ++ [((told.length + t.size : Nat) : Int) - 1]).map DL.D.int)), y3, y4, y5, y6]) →
    dLoop peo_tg peo_bd E ((Tr.post t).map ndD ++ rest) [some x, some (.own (told.map plD)), some (.own (roots.map DL.D.int)), y3, y4, y5, y6]
  | .nd a cs, told, roots, y3, y4, y5, y6, h1, h2, q => by
    rw [Tr.size] at h1 h2
    have h3 := Tr.len_sizes cs
    rw [Tr.post, List.map_append, List.append_assoc]
    refine peo_trees cs told roots y3 y4 y5 y6 (by omega) (by omega) fun y3 y4 y5 y6 => ?_
    have key := peo_node (E := E) (x := x) (rest := rest) (a := a) (told := told ++ Tr.As cs told.length) (roots := roots) (kids := Tr.Rs cs told.length) (y3 := y3) (y4 := y4) (y5 := y5) (y6 := y6) (by rw [List.length_append, Tr.As_length]; omega) (by rw [Tr.Rs_length]; omega) fun y3 y4 y5 y6 => by
      have z := q y3 y4 y5 y6
      rw [Tr.A, Tr.size] at z
      rw [List.length_append, Tr.As_length, List.append_assoc]
      have e : (((told.length + (Tr.sizes cs + 1) : Nat)) : Int) - 1 = ((told.length + Tr.sizes cs : Nat) : Int) := by omega
      rw [e] at z
      exact z
    rw [Tr.Rs_length] at key
    exact key
theorem peo_trees {E : DEn} {x : Nv} {rest : List DL.D} : ∀ (ts : List Tr) (told : List (Option Int × List Int)) (roots : List Int) (y3 y4 y5 y6 : Option Nv), told.length + Tr.sizes ts ≤ 10000 → roots.length + Tr.sizes ts ≤ 10000 →
    (∀ y3 y4 y5 y6, dLoop peo_tg peo_bd E rest [some x, some (.own ((told ++ Tr.As ts told.length).map plD)), some (.own ((roots ++ Tr.Rs ts told.length).map DL.D.int)), y3, y4, y5, y6]) →
    dLoop peo_tg peo_bd E ((Tr.posts ts).map ndD ++ rest) [some x, some (.own (told.map plD)), some (.own (roots.map DL.D.int)), y3, y4, y5, y6]
  | [], told, roots, y3, y4, y5, y6, h1, h2, q => by
    have z := q y3 y4 y5 y6
    rw [Tr.As, Tr.Rs, List.append_nil, List.append_nil] at z
    rw [Tr.posts]
    exact z
  | c :: cs, told, roots, y3, y4, y5, y6, h1, h2, q => by
    rw [Tr.sizes] at h1 h2
    have hz : 1 ≤ c.size := by cases c; rw [Tr.size]; omega
    rw [Tr.posts, List.map_append, List.append_assoc]
    refine peo_tree c told roots y3 y4 y5 y6 (by omega) (by omega) fun y3 y4 y5 y6 => ?_
    refine peo_trees cs (told ++ Tr.A c told.length) (roots ++ [((told.length + c.size : Nat) : Int) - 1]) y3 y4 y5 y6 (by rw [List.length_append, Tr.A_length]; omega) (by rw [List.length_append, List.length_singleton]; omega) fun y3 y4 y5 y6 => ?_
    have z := q y3 y4 y5 y6
    rw [Tr.As, Tr.Rs] at z
    rw [List.length_append, Tr.A_length, List.append_assoc, List.append_assoc]
    exact z
end
theorem people_body {N : FM} (hN : ∀ rs Q, F_below rs Q → N rs Q) : ∀ rs Qd, F_people rs Qd → bodyF 7 (m_people_of N) rs Qd := by
  rintro rs Qd ⟨t, rfl, h, q⟩
  unfold m_people_of
  show dSeq _ _ _ [some (.val t.d), none, none, none, none, none, none]
  walk_at "go"
  refine hN _ _ ⟨t, rfl, by omega, ?_⟩
  have key := peo_tree (E := ?E) (x := .val t.d) (rest := []) t [] [] none none none none (by rw [List.length_nil]; omega) (by rw [List.length_nil]; omega) fun y3 y4 y5 y6 => ?k
  case E => exact { nx := dRet (dVar 1) { nx := fun _ => Qd (.val .non), rt := fun _ r => Qd r }, rt := fun _ r => Qd r }
  rw [List.append_nil] at key
  exact key
  case k =>
    rw [List.nil_append, List.length_nil, ← Tr.places_A]
    exact q
section
variable {P : Program} {w : World} {K : PySem.W.Frag} {mg : Str → Option Value} {base : Heap} {a : Ad}
theorem below_ok (T : Tx K mg a) : FnOk P w K mg base CX0 1 a.f_nodes_from_below a.d_nodes_from_below ["tree"] (spF K 1 F_below) := (b_nodes_from_below T (k := 0)).imp (spF.imp below_body)
theorem people_ok (T : Tx K mg a) : FnOk P w K mg base CX0 2 a.f_people_of a.d_people_of ["tree"] (spF K 1 F_people) := (b_people_of T (below_ok T)).imp (spF.imp (people_body fun _ _ h => h))
end
end G
end

section
set_option Elab.async false
set_option linter.all false
set_option maxRecDepth 100000
set_option maxHeartbeats 4000000
namespace DL
open PySem PySem.Spec PyProof.Rows L2
/-! ### comprehensions by a function -/
theorem lc_map (i : Nat) (m : DM) (f : DL.D → DL.D) (env0 : En) {Ql : En → List DL.D → Prop} : ∀ (ds acc : List DL.D) (y : Option Nv), acc.length + ds.length ≤ sizeLine →
    (∀ d ∈ ds, ∀ Q : En → R → Prop, Q (env0.set i (some (.val d))) (.val (f d)) → dKeep m (env0.set i (some (.val d))) Q) → (∀ y, Ql (env0.set i y) (acc ++ ds.map f)) →
    dLcL [i] (dName i) dYes m ds (env0.set i y) acc Ql
  | [], acc, y, _, _, q => by
    have q := q y
    rw [List.map_nil, List.append_nil] at q
    exact q
  | d :: ds, acc, y, h, hm, q => by
    rw [List.length_cons] at h
    have ih := lc_map i m f env0 (Ql := Ql) ds (acc ++ [f d]) none (by rw [List.length_append, List.length_singleton]; omega) (fun e he => hm e (List.mem_cons_of_mem _ he)) fun y => by
      have q := q y
      rw [List.map_cons] at q
      rw [List.append_assoc]
      exact q
    have key := hm d (List.mem_cons_self ..) (fun env3 q => match q with
        | .val x => acc.length < sizeLine ∧ dLcL [i] (dName i) dYes m ds (wipeD env3 [i]) (acc ++ [x]) Ql
        | _ => False)
    show dIte true (dKeep m ((env0.set i y).set i (some (.val d))) _) _
    refine s_iteT ?_
    rw [List.set_set]
    refine key ⟨by omega, ?_⟩
    show dLcL [i] (dName i) dYes m ds ((env0.set i (some (.val d))).set i none) (acc ++ [f d]) Ql
    rw [List.set_set]
    exact ih
/-- with a test -/
theorem lc_filter (i : Nat) (t : DTM) (p : DL.D → Bool) (m : DM) (f : DL.D → DL.D) (env0 : En) {Ql : En → List DL.D → Prop} : ∀ (ds acc : List DL.D) (y : Option Nv), acc.length + ds.length ≤ sizeLine →
    (∀ d ∈ ds, ∀ Q : En → Bool → Prop, Q (env0.set i (some (.val d))) (p d) → t (env0.set i (some (.val d))) Q) →
    (∀ d ∈ ds, p d = true → ∀ Q : En → R → Prop, Q (env0.set i (some (.val d))) (.val (f d)) → dKeep m (env0.set i (some (.val d))) Q) → (∀ y, Ql (env0.set i y) (acc ++ (ds.filter p).map f)) →
    dLcL [i] (dName i) t m ds (env0.set i y) acc Ql
  | [], acc, y, _, _, _, q => by
    have q := q y
    rw [List.filter_nil, List.map_nil, List.append_nil] at q
    exact q
  | d :: ds, acc, y, h, ht, hm, q => by
    rw [List.length_cons] at h
    have ih := fun acc h q => lc_filter i t p m f env0 (Ql := Ql) ds acc none h (fun e he => ht e (List.mem_cons_of_mem _ he)) (fun e he => hm e (List.mem_cons_of_mem _ he)) q
    show t ((env0.set i y).set i (some (.val d))) _
    rw [List.set_set]
    refine ht d (List.mem_cons_self ..) _ ?_
    cases hp : p d with
    | true =>
      refine s_iteT ?_
      refine hm d (List.mem_cons_self ..) hp _ ⟨by omega, ?_⟩
      show dLcL [i] (dName i) t m ds ((env0.set i (some (.val d))).set i none) (acc ++ [f d]) Ql
      rw [List.set_set]
      refine ih _ (by rw [List.length_append, List.length_singleton]; omega) fun y => ?_
      have q := q y
      rw [List.filter_cons, hp, if_pos rfl, List.map_cons] at q
      rw [List.append_assoc]
      exact q
    | false =>
      refine s_iteF ?_
      show dLcL [i] (dName i) t m ds ((env0.set i (some (.val d))).set i none) acc Ql
      rw [List.set_set]
      refine ih _ (by omega) fun y => ?_
      have q := q y
      rw [List.filter_cons, hp, if_neg Bool.false_ne_true] at q
      exact q
end DL
end

section
set_option Elab.async false
set_option linter.all false
set_option maxRecDepth 100000
set_option maxHeartbeats 4000000
namespace G
open PySem PySem.Spec PyProof.Rows L2 DL
local macro_rules | `(tactic| walk_at "ok1") => `(tactic| first | exact okD_int _ | exact okD_bl _ | exact okD_non | exact okD_str (by assumption) | assumption)
local macro_rules | `(tactic| walk_at "go1") => `(tactic| ((conv => whnf); first
  | refine s_iteT ?_ | refine s_iteF ?_
  | refine ⟨⟨by walk_at "ok1", by walk_at "ok1"⟩, ?_⟩
  | refine ⟨_, rfl, ?_⟩
  | refine ⟨rfl, ?_⟩
  | refine ⟨Nat.le_of_ble_eq_true rfl, ?_⟩
  | refine ⟨_, isB_tuple (by assumption), ?_⟩
  | refine ⟨_, isB_list (by assumption), ?_⟩
  | refine ⟨_, isB_bool (by assumption), ?_⟩
  | refine ⟨_, isB_int (by assumption), ?_⟩
  | refine ⟨_, isB_str (by assumption), ?_⟩
  | refine ⟨_, by assumption, ?_⟩
  | refine s_ite1 (by assumption) ?_ | refine s_ite0 (by assumption) ?_))
local macro_rules | `(tactic| walk_at "go") => `(tactic| repeat walk_at "go1")
abbrev Mv := Int × List Int × Int
def okM (n m : Int) (mv : List Mv) (es : List Int) : Prop := (1 ≤ n ∧ n ≤ 4) ∧ (1 ≤ m ∧ m ≤ 8) ∧ mv.length < 64 ∧ (∀ x ∈ mv, okMv n m x) ∧ es.length < 64 ∧ ∀ e ∈ es, 0 ≤ e ∧ e < m
theorem bls_true : ∀ l : List DL.D, blsOf (l.map fun _ => DL.D.bl true) = some (l.map fun _ => true)
  | [] => rfl
  | d :: l => by
    show (blsOf (l.map fun _ => DL.D.bl true)).map (true :: ·) = _
    rw [bls_true l]
    rfl
theorem vals_star : ∀ (l : List DL.D) (d : DL.D), vals (l.map R.val ++ [R.val d]) = some (l ++ [d])
  | [], d => rfl
  | x :: l, d => by
    show (vals (l.map R.val ++ [R.val d])).map (x :: ·) = _
    rw [vals_star l d]
    rfl
def F_mf : FM := fun rs Qd => ∃ (n m : Int) (x : Mv), rs = [.val (.int n), .val (.int m), .val (.int x.1), .val (.tup (x.2.1.map DL.D.int)), .val (.int x.2.2)] ∧ okMv n m x ∧ Qd (.val (.bl true))
theorem mf_body : ∀ rs Qd, F_mf rs Qd → bodyF 6 m_move_fits rs Qd := by
  rintro rs Qd ⟨n, m, ⟨l, cs, b⟩, rfl, ⟨⟨h1, h2⟩, h3, h4, h5, h6⟩, q⟩
  have h1 : 0 ≤ l := h1
  have h2 : l < n := h2
  have h3 : cs.length ≤ 2 := h3
  unfold m_move_fits
  show dSeq _ _ _ [some (.val (.int n)), some (.val (.int m)), some (.val (.int l)), some (.val (.tup (cs.map DL.D.int))), some (.val (.int b)), none]
  have c1 : decide (0 ≤ l) = true := decide_eq_true h1
  have c2 : decide (l < n) = true := decide_eq_true h2
  have c3 : decide ((2 : Int) < (((cs.map DL.D.int).length : Nat) : Int)) = false := by
    rw [List.length_map]
    exact decide_eq_false (by omega)
  have c4 : (!decide (l < n)) = false := by rw [c2]; rfl
  walk_at "go"
  refine ⟨cs.map DL.D.int ++ [.int b], vals_star _ _, by rw [List.length_append, List.length_map]; show _ + 1 ≤ _; unfold sizeLine; omega, ?_⟩
  refine ⟨rfl, ?_⟩
  refine lc_map 5 _ (fun _ => .bl true) [some (.val (.int n)), some (.val (.int m)), some (.val (.int l)), some (.val (.tup (cs.map DL.D.int))), some (.val (.int b)), none] (cs.map DL.D.int ++ [.int b]) [] none (by rw [List.length_append, List.length_map, List.length_nil]; show 0 + (_ + 1) ≤ _; unfold sizeLine; omega) (fun d hd Q q => ?_) fun y => ?_
  · have hv : ∃ i : Int, d = .int i ∧ 0 ≤ i ∧ i < m := by
      rcases List.mem_append.mp hd with z | z
      · obtain ⟨i, hi, rfl⟩ := List.mem_map.mp z
        exact ⟨i, rfl, h4 i hi⟩
      · rw [List.mem_singleton.mp z]
        exact ⟨b, rfl, h5, h6⟩
    obtain ⟨i, rfl, i1, i2⟩ := hv
    have e1 : decide (0 ≤ i) = true := decide_eq_true i1
    have e2 : decide (i < m) = true := decide_eq_true i2
    walk_at "go"
    have q : Q [some (.val (.int n)), some (.val (.int m)), some (.val (.int l)), some (.val (.tup (cs.map DL.D.int))), some (.val (.int b)), some (.val (.int i))] (.val (.bl (decide (i < m)))) := by
      rw [e2]
      exact q
    exact q
  · rw [List.nil_append]
    refine ⟨_, bls_true _, ?_⟩
    have e : ((cs.map DL.D.int ++ [DL.D.int b]).map fun _ => true).all id = true := by
      rw [List.all_eq_true]
      intro x hx
      obtain ⟨_, _, rfl⟩ := List.mem_map.mp hx
      rfl
    rw [e]
    exact q
theorem mf_moves {a : Ad} {F : FM} (hF : ∀ rs Q, F_mf rs Q → F rs Q) {E : DEn} {n m : Int} {x2 x3 : Option Nv} : ∀ (mv : List Mv) (y4 y5 y6 : Option Nv), (∀ x ∈ mv, okMv n m x) → (∀ y4 y5 y6, E.nx [some (.val (.int n)), some (.val (.int m)), x2, x3, y4, y5, y6]) →
    dLoop (dTg 3 (dTCons (dName 4) (dTCons (dName 5) (dTCons (dName 6) dTNil)))) (dIfS (dNot (dTru (dCall F (dCons (dKeep (dVar 0)) (dCons (dKeep (dVar 1)) (dCons (dKeep (dVar 4)) (dCons (dKeep (dVar 5)) (dCons (dKeep (dVar 6)) dNil))))))))
      (dRaise a.x_BadMachine "what" (dC (.str "moves"))) dNext) E (mv.map mvD) [some (.val (.int n)), some (.val (.int m)), x2, x3, y4, y5, y6]
  | [], y4, y5, y6, h, q => q y4 y5 y6
  | x :: mv, y4, y5, y6, h, q => by
    obtain ⟨l, cs, b⟩ := x
    refine ⟨rfl, rfl, hF _ _ ⟨n, m, (l, cs, b), rfl, h _ List.mem_cons_self, ?_⟩⟩
    refine ⟨true, rfl, ?_⟩
    refine s_iteF ?_
    exact mf_moves hF mv _ _ _ (fun y hy => h y (List.mem_cons_of_mem _ hy)) q
theorem mf_ends {a : Ad} {E : DEn} {x0 x2 x3 x4 x5 : Option Nv} {m : Int} : ∀ (es : List Int) (y6 : Option Nv), (∀ e ∈ es, 0 ≤ e ∧ e < m) → (∀ y6, E.nx [x0, some (.val (.int m)), x2, x3, x4, x5, y6]) →
    dLoop (dName 6) (dIfS (dNot (dB (dChain mLeA mLtA (dC (.int 0)) (dVar 6) (dVar 1)))) (dRaise a.x_BadMachine "what" (dC (.str "ends"))) dNext) E (es.map DL.D.int) [x0, some (.val (.int m)), x2, x3, x4, x5, y6]
  | [], y6, h, q => q y6
  | e :: es, y6, h, q => by
    obtain ⟨h1, h2⟩ := h e List.mem_cons_self
    have c1 : decide (0 ≤ e) = true := decide_eq_true h1
    have c2 : decide (e < m) = true := decide_eq_true h2
    have c4 : (!decide (e < m)) = false := by rw [c2]; rfl
    walk_at "go"
    exact mf_ends es _ (fun y hy => h y (List.mem_cons_of_mem _ hy)) q
def F_cp : FME := fun rs Qd _ => ∃ (n m : Int) (mv : List Mv) (es : List Int) (dm de : DL.D), rs = [.val (.int n), .val (.int m), .val dm, .val de] ∧ (dm = .lst (mv.map mvD) ∨ dm = .tup (mv.map mvD)) ∧ (de = .lst (es.map DL.D.int) ∨ de = .tup (es.map DL.D.int)) ∧ okM n m mv es ∧ Qd (.val .non)
theorem cp_body (a : Ad) {F : FM} (hF : ∀ rs Q, F_mf rs Q → F rs Q) : ∀ rs Qd Qx, F_cp rs Qd Qx → bodyE 7 (m_check_parts a F) rs Qd Qx := by
  rintro rs Qd Qx ⟨n, m, mv, es, dm, de, rfl, hm, he, ⟨⟨n1, n2⟩, ⟨m1, m2⟩, _, hmv, _, hes⟩, q⟩
  unfold m_check_parts
  show dSeq _ _ _ [some (.val (.int n)), some (.val (.int m)), some (.val dm), some (.val de), none, none, none]
  have c1 : decide (1 ≤ n) = true := decide_eq_true n1
  have c2 : decide (n ≤ 4) = true := decide_eq_true n2
  have c3 : (!decide (n ≤ 4)) = false := by rw [c2]; rfl
  have d1 : decide (1 ≤ m) = true := decide_eq_true m1
  have d2 : decide (m ≤ 8) = true := decide_eq_true m2
  have d3 : (!decide (m ≤ 8)) = false := by rw [d2]; rfl
  have tail : ∀ y4 y5 y6, (dFor (dOver (dVar 3)) (dName 6) (dIfS (dNot (dB (dChain mLeA mLtA (dC (.int 0)) (dVar 6) (dVar 1)))) (dRaise a.x_BadMachine "what" (dC (.str "ends"))) dNext)) { nx := fun _ => Qd (.val .non), rt := fun _ r => Qd r, xc := Qx } [some (.val (.int n)), some (.val (.int m)), some (.val dm), some (.val de), y4, y5, y6] := fun y4 y5 y6 => by
    rcases he with rfl | rfl
    · exact mf_ends es y6 hes fun _ => q
    · exact mf_ends es y6 hes fun _ => q
  rcases hm with rfl | rfl
  · walk_at "go"
    exact mf_moves hF mv none none none hmv tail
  · walk_at "go"
    exact mf_moves hF mv none none none hmv tail
end G
end

section
set_option Elab.async false
set_option linter.all false
set_option maxRecDepth 100000
set_option maxHeartbeats 4000000
namespace G
open PySem PySem.Spec PyProof.Rows L2 DL
local macro_rules | `(tactic| walk_at "ok1") => `(tactic| first | exact okD_int _ | exact okD_bl _ | exact okD_non | exact okD_str (by assumption) | assumption)
local macro_rules | `(tactic| walk_at "go1") => `(tactic| ((conv => whnf); first
  | refine s_iteT ?_ | refine s_iteF ?_
  | refine ⟨⟨by walk_at "ok1", by walk_at "ok1"⟩, ?_⟩
  | refine ⟨_, rfl, ?_⟩
  | refine ⟨rfl, ?_⟩
  | refine ⟨Nat.le_of_ble_eq_true rfl, ?_⟩
  | refine ⟨_, isB_tuple (by assumption), ?_⟩
  | refine ⟨_, isB_list (by assumption), ?_⟩
  | refine ⟨_, isB_bool (by assumption), ?_⟩
  | refine ⟨_, isB_int (by assumption), ?_⟩
  | refine ⟨_, isB_str (by assumption), ?_⟩
  | refine ⟨_, by assumption, ?_⟩
  | refine s_ite1 (by assumption) ?_ | refine s_ite0 (by assumption) ?_))
local macro_rules | `(tactic| walk_at "go") => `(tactic| repeat walk_at "go1")
abbrev mvS : List Sh := [.int, .row .int, .int]
theorem mv_fits (x : Mv) : fits (.tup mvS) (mvD x) = true := by
  obtain ⟨l, cs, b⟩ := x
  have e : (cs.map DL.D.int).all (fits .int) = true := by
    rw [List.all_eq_true]
    intro d hd
    obtain ⟨i, _, rfl⟩ := List.mem_map.mp hd
    rfl
  show fitss mvS [.int l, .tup (cs.map DL.D.int), .int b] = true
  simp [fitss, fits]
theorem mv_fit {mv : List Mv} : ∀ d ∈ mv.map mvD, fits (.tup mvS) d = true := fun d hd => by
  obtain ⟨x, _, rfl⟩ := List.mem_map.mp hd
  exact mv_fits x
theorem sc_moves {x0 x1 x2 x3 x4 : Option Nv} {Ql : En → List DL.D → Prop} : ∀ (mv : List Mv) (acc : List DL.D), acc.length + mv.length ≤ 1000 → Ql [x0, x1, x2, x3, x4, none, none, none] (acc ++ mv.map mvD) →
    dLcL [5, 6, 7] (dTg 3 (dTCons (dName 5) (dTCons (dName 6) (dTCons (dName 7) dTNil)))) dYes (dFit (.tup mvS) (dTup (dCons (dKeep (dVar 5)) (dCons (dKeep (dCB mTuple (dCons (dVar 6) dNil))) (dCons (dKeep (dVar 7)) dNil))))) (mv.map mvD) [x0, x1, x2, x3, x4, none, none, none] acc Ql
  | [], acc, h, q => by
    rw [List.map_nil, List.append_nil] at q
    exact q
  | x :: mv, acc, h, q => by
    rw [List.length_cons] at h
    have key := sc_moves (x0 := x0) (x1 := x1) (x2 := x2) (x3 := x3) (x4 := x4) (Ql := Ql) mv (acc ++ [mvD x]) (by rw [List.length_append]; show _ + 1 + _ ≤ _; omega) (by
      rw [List.append_assoc]
      exact q)
    obtain ⟨l, cs, b⟩ := x
    refine ⟨rfl, fun _ => ?_, fun e => nomatch e⟩
    refine ⟨_, rfl, Nat.le_of_ble_eq_true rfl, ?_⟩
    refine ⟨mv_fits (l, cs, b), ?_⟩
    exact ⟨by unfold sizeLine; omega, key⟩
abbrev mns : List Str := ["letters", "labels", "moves", "ends"]
abbrev g1 : List Str := ["letters"]
abbrev g2 : List Str := ["letters", "labels"]
abbrev g3 : List Str := ["letters", "labels", "moves"]
theorem put_end (f : Str) (d : DL.D) : ∀ (ns : List Str) (ds : List DL.D), ns.length = ds.length → (ns.all fun g => !(g == f)) = true → putNs f ns = ns ++ [f] ∧ putDs f d ns ds = ds ++ [d]
  | [], [], _, _ => ⟨rfl, rfl⟩
  | [], _ :: _, h, _ => by cases h
  | _ :: _, [], h, _ => by cases h
  | g :: ns, x :: ds, h, hf => by
    rw [List.all_cons, Bool.and_eq_true] at hf
    obtain ⟨h1, h2⟩ := put_end f d ns ds (Nat.succ.inj h) hf.2
    have hg : ¬ (g == f) = true := by simpa using hf.1
    refine ⟨?_, ?_⟩
    · show (if (g == f) = true then _ else g :: putNs f ns) = _
      rw [if_neg hg, h1]
      rfl
    · show (if (g == f) = true then _ else x :: putDs f d ns ds) = _
      rw [if_neg hg, h2]
      rfl
def F_minit (a : Ad) : FMM := fun rs l Qd Qx => ∃ (dx : Addr) (n m : Int) (mv : List Mv) (es : List Int) (dm de : DL.D), rs = [.val (.int n), .val (.int m), .val dm, .val de] ∧ l = .ins a.Machine dx [] [] ∧ (dm = .lst (mv.map mvD) ∨ dm = .tup (mv.map mvD)) ∧ (de = .lst (es.map DL.D.int) ∨ de = .tup (es.map DL.D.int)) ∧ okM n m mv es ∧
  ∀ sm se, SortedOf (mv.map mvD) sm → SortedOf (es.map DL.D.int) se → Qd (.val .non) (.ins a.Machine dx mns [.int n, .int m, .tup sm, .tup se])
theorem minit_body (a : Ad) {F : FME} (hF : ∀ rs Q Qx, F_cp rs Q Qx → F rs Q Qx) : ∀ rs l Qd Qx, F_minit a rs l Qd Qx → bodyM 8 (m_Machine_initdd a F) rs l Qd Qx := by
  rintro rs l Qd Qx ⟨dx, n, m, mv, es, dm, de, rfl, rfl, hm, he, ok, q⟩ p
  unfold m_Machine_initdd
  show dSeq _ _ _ [some (.fix p (.ins a.Machine dx [] [])), some (.val (.int n)), some (.val (.int m)), some (.val dm), some (.val de), none, none, none]
  have n1 : putNs "letters" ([] : List Str) = g1 := rfl
  have e1 : putDs "letters" (.int n) [] [] = [.int n] := rfl
  have n2 : putNs "labels" g1 = g2 := (put_end "labels" (.int m) g1 [.int n] rfl (by decide +kernel)).1
  have e2 : putDs "labels" (.int m) g1 [.int n] = [.int n, .int m] := (put_end "labels" (.int m) g1 [.int n] rfl (by decide +kernel)).2
  refine ⟨rfl, hF _ _ _ ⟨n, m, mv, es, dm, de, rfl, hm, he, ok, ?_⟩⟩
  refine ⟨rfl, by decide, ?_⟩
  rw [n1, e1]
  refine ⟨rfl, by decide, ?_⟩
  rw [n2, e2]
  obtain ⟨_, _, few, hmv, few2, hes⟩ := ok
  have last : ∀ sm, SortedOf (mv.map mvD) sm → (dPutA a.Machine 0 "ends" (dCB mTuple (dCons (dSortSet (dVar 4)) dNil))) { nx := fun env => ∃ l', Has env 0 (.fix p l') ∧ Qd (.val .non) l', rt := fun env r => ∃ l', Has env 0 (.fix p l') ∧ Qd r l', xc := Qx }
      [some (.fix p (.ins a.Machine dx g3 [.int n, .int m, .tup sm])), some (.val (.int n)), some (.val (.int m)), some (.val dm), some (.val de), none, none, none] := fun sm hsm => by
    have n4 : putNs "ends" g3 = mns := (put_end "ends" .non g3 [.int n, .int m, .tup sm] rfl (by decide +kernel)).1
    have e4 : ∀ se, putDs "ends" (.tup se) g3 [.int n, .int m, .tup sm] = [.int n, .int m, .tup sm, .tup se] := fun se => (put_end "ends" (.tup se) g3 [.int n, .int m, .tup sm] rfl (by decide +kernel)).2
    have go : ∀ it, itemsOf de = some it → it = es.map DL.D.int → (dPutA a.Machine 0 "ends" (dCB mTuple (dCons (dSortSet (dVar 4)) dNil))) { nx := fun env => ∃ l', Has env 0 (.fix p l') ∧ Qd (.val .non) l', rt := fun env r => ∃ l', Has env 0 (.fix p l') ∧ Qd r l', xc := Qx }
      [some (.fix p (.ins a.Machine dx g3 [.int n, .int m, .tup sm])), some (.val (.int n)), some (.val (.int m)), some (.val dm), some (.val de), none, none, none] := fun it hi hl => by
      subst hl
      refine ⟨es.map DL.D.int, .int, hi, by rw [List.length_map]; exact few2, ⟨.inl rfl, by decide⟩, fun d hd => ?_, fun se hse => ?_⟩
      · obtain ⟨i, _, rfl⟩ := List.mem_map.mp hd
        rfl
      · refine ⟨rfl, by decide, ?_⟩
        rw [n4, e4]
        exact ⟨_, rfl, q sm se hsm hse⟩
    rcases he with rfl | rfl
    · exact go _ rfl rfl
    · exact go _ rfl rfl
  have n3 : putNs "moves" g2 = g3 := (put_end "moves" .non g2 [.int n, .int m] rfl (by decide +kernel)).1
  have e3 : ∀ sm, putDs "moves" (.tup sm) g2 [.int n, .int m] = [.int n, .int m, .tup sm] := fun sm => (put_end "moves" (.tup sm) g2 [.int n, .int m] rfl (by decide +kernel)).2
  rcases hm with rfl | rfl
  · refine ⟨rfl, by rw [List.length_map]; exact few, ?_⟩
    refine sc_moves mv [] (by rw [List.length_nil]; omega) fun sm hsm => ?_
    refine ⟨rfl, by decide, ?_⟩
    rw [n3, e3]
    exact last sm hsm
  · refine ⟨rfl, by rw [List.length_map]; exact few, ?_⟩
    refine sc_moves mv [] (by rw [List.length_nil]; omega) fun sm hsm => ?_
    refine ⟨rfl, by decide, ?_⟩
    rw [n3, e3]
    exact last sm hsm
end G
end

section
set_option Elab.async false
set_option linter.all false
set_option maxRecDepth 100000
set_option maxHeartbeats 4000000
namespace DL
open PySem PySem.Spec PyProof.Rows L2
/-! ### data that == may look at -/
def okK (k : Nat) (d : D) : Prop := isDat d = true ∧ (toPy d).canLay0 = true ∧ (toPy d).depth ≤ k
theorem okK.ok {k : Nat} {d : D} (h : okK k d) (hk : k ≤ 64) : okD d := ⟨h.1, by
  unfold SeqAt.shaped
  rw [h.2.1, Bool.true_and]
  exact decide_eq_true (Nat.le_trans h.2.2 hk)⟩
theorem okK.mono {k j : Nat} {d : D} (h : okK k d) (hk : k ≤ j) : okK j d := ⟨h.1, h.2.1, Nat.le_trans h.2.2 hk⟩
theorem okK_all {k : Nat} : ∀ {l : List D}, (∀ d ∈ l, okK k d) → isDats l = true ∧ PyData.canLayAll0 (toPys l) = true ∧ PyData.depthAll (toPys l) ≤ k
  | [], _ => ⟨rfl, by rw [toPys]; rfl, by rw [toPys]; exact Nat.zero_le _⟩
  | d :: l, h => by
    obtain ⟨a1, a2, a3⟩ := h d (List.mem_cons_self ..)
    obtain ⟨b1, b2, b3⟩ := okK_all (fun x hx => h x (List.mem_cons_of_mem _ hx))
    refine ⟨by rw [isDats, a1, b1]; rfl, ?_, ?_⟩
    · rw [toPys, PyData.canLayAll0, a2, b2]
      rfl
    · rw [toPys, PyData.depthAll]
      exact Nat.max_le.mpr ⟨a3, b3⟩
theorem okK_lst {k : Nat} {l : List D} (h : ∀ d ∈ l, okK k d) : okK (k + 1) (.lst l) := by
  obtain ⟨b1, b2, b3⟩ := okK_all h
  refine ⟨by rw [isDat]; exact b1, ?_, ?_⟩
  · rw [toPy, PyData.canLay0]
    exact b2
  · rw [toPy, PyData.depth]
    exact Nat.succ_le_succ b3
theorem okK_tup {k : Nat} {l : List D} (h : ∀ d ∈ l, okK k d) : okK (k + 1) (.tup l) := by
  obtain ⟨b1, b2, b3⟩ := okK_all h
  refine ⟨by rw [isDat]; exact b1, ?_, ?_⟩
  · rw [toPy, PyData.canLay0]
    exact b2
  · rw [toPy, PyData.depth]
    exact Nat.succ_le_succ b3
theorem okK_int (i : Int) : okK 0 (.int i) := ⟨by rw [isDat], by rw [toPy]; rfl, by rw [toPy]; exact Nat.le_refl _⟩
theorem okK_non : okK 0 .non := ⟨by rw [isDat], by rw [toPy]; rfl, by rw [toPy]; exact Nat.le_refl _⟩
theorem okK_bl (b : Bool) : okK 0 (.bl b) := ⟨by rw [isDat], by rw [toPy]; rfl, by rw [toPy]; exact Nat.le_refl _⟩
theorem okK_str {x : Str} (h : PyData.canLay0 (.str x) = true) : okK 0 (.str x) := ⟨by rw [isDat], by rw [toPy]; exact h, by rw [toPy]; exact Nat.le_refl _⟩
end DL
end

section
set_option Elab.async false
set_option linter.all false
set_option maxRecDepth 100000
set_option maxHeartbeats 4000000
namespace DL
open PySem PySem.Spec PyProof.Rows L2
/-! ### data is the same as itself -/
mutual
theorem sameD_self : ∀ d : D, isDat d = true → sameD d d = true
  | .non, _ => by rw [sameD]
  | .bl b, _ => by rw [sameD, beq_self_eq_true]
  | .int i, _ => by rw [sameD, beq_self_eq_true]
  | .str x, _ => by rw [sameD, beq_self_eq_true]
  | .tup l, h => by
    rw [isDat] at h
    rw [sameD]
    exact sameDs_self l h
  | .lst l, h => by
    rw [isDat] at h
    rw [sameD]
    exact sameDs_self l h
  | .ins _ _ _, h => by
    rw [isDat] at h
    cases h
  | .any, h => by
    rw [isDat] at h
    cases h
  | .err _ _ _ _ _, h => by
    rw [isDat] at h
    cases h
  | .scr _, h => by
    rw [isDat] at h
    cases h
  | .dct _ _, h => by
    rw [isDat] at h
    cases h
theorem sameDs_self : ∀ l : List D, isDats l = true → sameDs l l = true
  | [], _ => by rw [sameDs]
  | d :: l, h => by
    rw [isDats, Bool.and_eq_true] at h
    rw [sameDs, sameD_self d h.1, sameDs_self l h.2]
    rfl
end
theorem same_refl {n : Nat} {Qd : R → Prop} (d : D) (h : depD d < n) (h1 : isDat d = true) (h2 : txtOk d) (q : Qd (.val (.bl true))) : F_same n [.val d, .val d] Qd := by
  refine ⟨d, d, rfl, h, h1, h2, h1, h2, ?_⟩
  rw [sameD_self d h1]
  exact q
theorem isDats_of {l : List D} (h : ∀ d ∈ l, isDat d = true) : isDats l = true := by
  induction l with
  | nil => rw [isDats]
  | cons d l ih => rw [isDats, h d (List.mem_cons_self ..), ih fun x hx => h x (List.mem_cons_of_mem _ hx)]; rfl
theorem txtOks_of {l : List D} (h : ∀ d ∈ l, txtOk d) : txtOks l := by
  induction l with
  | nil => rw [txtOks]; trivial
  | cons d l ih => rw [txtOks]; exact ⟨h d (List.mem_cons_self ..), ih fun x hx => h x (List.mem_cons_of_mem _ hx)⟩
theorem depDs_of {l : List D} {k : Nat} (h : ∀ d ∈ l, depD d ≤ k) : depDs l ≤ k := by
  induction l with
  | nil => rw [depDs]; exact Nat.zero_le _
  | cons d l ih => rw [depDs]; exact Nat.max_le.mpr ⟨h d (List.mem_cons_self ..), ih fun x hx => h x (List.mem_cons_of_mem _ hx)⟩
theorem depD_str (x : Str) : depD (.str x) = 0 := by rw [depD] <;> (intros; contradiction)
theorem depD_int (x : Int) : depD (.int x) = 0 := by rw [depD] <;> (intros; contradiction)
theorem strs_data {ts : List Str} (hl : ts.length ≤ sizeLine) (h : ∀ t ∈ ts, PyData.canLay0 (.str t) = true) : isDat (.lst (ts.map D.str)) = true ∧ txtOk (.lst (ts.map D.str)) ∧ depD (.lst (ts.map D.str)) ≤ 1 := by
  refine ⟨?_, ?_, ?_⟩
  · rw [isDat]
    refine isDats_of fun d hd => ?_
    obtain ⟨t, _, rfl⟩ := List.mem_map.mp hd
    rw [isDat]
  · rw [txtOk]
    refine ⟨by rw [List.length_map]; exact hl, txtOks_of fun d hd => ?_⟩
    obtain ⟨t, ht, rfl⟩ := List.mem_map.mp hd
    rw [txtOk]
    exact h t ht
  · rw [depD]
    have : depDs (ts.map D.str) ≤ 0 := depDs_of fun d hd => by
      obtain ⟨t, _, rfl⟩ := List.mem_map.mp hd
      rw [depD_str]
      exact Nat.le_refl _
    omega
end DL
namespace L2
theorem FnOk.none {P : PySem.Program} {w : PySem.World} {K : PySem.W.Frag} {mg : PySem.Str → Option PySem.Value} {base : PySem.Heap} {CX : CXT} {k : Nat} {f : PySem.Addr} {fd : PySem.FuncData} {ps : List PySem.Str} {sp : Sp} (h : ∀ vs H Q E, ¬ sp vs H Q E) : FnOk P w K mg base CX k f fd ps sp :=
  ⟨fun vs H Q E z => (h _ _ _ _ z).elim, fun A outer s H args us vs Q E hr he hb hv hs => (h _ _ _ _ hs).elim⟩
end L2
namespace DL
open PySem PySem.Spec PyProof.Rows L2
theorem noFm {K : PySem.W.Frag} {n : Nat} {F : FM} (h : ∀ rs Qd, ¬ F rs Qd) : ∀ vs H Q E, ¬ spF K n F vs H Q E := fun vs H Q E ⟨S, pa, rs, Qd, h1, h2, h3, h4, h5, h6⟩ => h _ _ h5
end DL
end

section
set_option Elab.async false
set_option linter.all false
set_option maxRecDepth 100000
set_option maxHeartbeats 4000000
namespace G
open PySem PySem.Spec PyProof.Rows L2 DL
local macro_rules | `(tactic| walk_at "ok1") => `(tactic| first | exact okD_int _ | exact okD_bl _ | exact okD_non | exact okD_str (by assumption) | assumption)
local macro_rules | `(tactic| walk_at "go1") => `(tactic| ((conv => whnf); first
  | refine s_iteT ?_ | refine s_iteF ?_
  | refine ⟨⟨by walk_at "ok1", by walk_at "ok1"⟩, ?_⟩
  | refine ⟨_, rfl, ?_⟩
  | refine ⟨rfl, ?_⟩
  | refine ⟨Nat.le_of_ble_eq_true rfl, ?_⟩
  | refine ⟨_, isB_tuple (by assumption), ?_⟩
  | refine ⟨_, isB_list (by assumption), ?_⟩
  | refine ⟨_, isB_bool (by assumption), ?_⟩
  | refine ⟨_, isB_int (by assumption), ?_⟩
  | refine ⟨_, isB_str (by assumption), ?_⟩
  | refine ⟨_, by assumption, ?_⟩
  | refine s_ite1 (by assumption) ?_ | refine s_ite0 (by assumption) ?_))
local macro_rules | `(tactic| walk_at "go") => `(tactic| repeat walk_at "go1")
/-! data of whole numbers -/
theorem eqD_ok {d : DL.D} (h : okD d) : eqD d d = true := PySem.SeqAt.eqv_refl _ (SeqAt.canLay_of_shaped h.2)
mutual
theorem fits_py : ∀ (s : Sh) {d : DL.D}, fits s d = true → toPy d = (kD d).data
  | .int, d, h => by
    obtain ⟨i, rfl⟩ := fits_int h
    rw [toPy, kD, NestedKey.data]
  | .row s, d, h => by
    obtain ⟨l, rfl, hl⟩ := fits_row h
    rw [toPy, kD, NestedKey.data]
    have all : ∀ {l : List DL.D}, (∀ x ∈ l, fits s x = true) → toPys l = NestedKey.datas (kDs l) := by
      intro l
      induction l with
      | nil => intro _; rw [toPys, kDs, NestedKey.datas]
      | cons d l ih =>
        intro h
        rw [toPys, kDs, NestedKey.datas, fits_py s (h d List.mem_cons_self), ih fun x hx => h x (List.mem_cons_of_mem _ hx)]
    rw [all hl]
  | .tup ss, d, h => by
    obtain ⟨l, rfl, hl⟩ := fits_tup h
    rw [toPy, kD, NestedKey.data, fitss_py ss hl]
theorem fitss_py : ∀ (s : List Sh) {d : List DL.D}, fitss s d = true → toPys d = NestedKey.datas (kDs d)
  | [], d, h => by rw [fitss_nil h, toPys, kDs, NestedKey.datas]
  | s :: ss, d, h => by
    obtain ⟨x, xs, rfl, h1, h2⟩ := fitss_cons h
    rw [toPys, kDs, NestedKey.datas, fits_py s h1, fitss_py ss h2]
end
theorem fits_eqD {s : Sh} {d e : DL.D} (h : fits s d = true) (k : fits s e = true) : eqD d e = decide (kD d = kD e) := by
  by_cases c : d = e
  · subst c
    rw [decide_eq_true rfl]
    unfold eqD
    rw [fits_py s h]
    exact PySem.W.eqv_refl_alike _ (fits_alike s h h)
  · rw [decide_eq_false fun z => c (fits_inj s h k z)]
    cases q : eqD d e with
    | false => rfl
    | true =>
      unfold eqD at q
      rw [fits_py s h, fits_py s k] at q
      exact absurd (fits_eqv s h k q) c
theorem mv_okK (x : Mv) : okK 2 (mvD x) := by
  refine okK_tup (k := 1) fun d hd => ?_
  simp only [List.mem_cons, List.not_mem_nil, or_false] at hd
  rcases hd with rfl | rfl | rfl
  · exact (okK_int _).mono (by decide)
  · refine okK_tup (k := 0) fun d hd => ?_
    obtain ⟨i, _, rfl⟩ := List.mem_map.mp hd
    exact okK_int i
  · exact (okK_int _).mono (by decide)
theorem sm_ok {mv : List Mv} {sm : List DL.D} (h : SortedOf (mv.map mvD) sm) : okD (.tup sm) := (okK_tup (k := 2) fun d hd => by
  obtain ⟨x, _, rfl⟩ := List.mem_map.mp ((h.2.1 d).mp hd)
  exact mv_okK x).ok (by decide)
theorem se_ok {es : List Int} {se : List DL.D} (h : SortedOf (es.map DL.D.int) se) : okD (.tup se) := (okK_tup (k := 0) fun d hd => by
  obtain ⟨x, _, rfl⟩ := List.mem_map.mp ((h.2.1 d).mp hd)
  exact okK_int x).ok (by decide)
def machD (a : Ad) (n m : Int) (sm se : List DL.D) : DL.D := .ins a.Machine mns [.int n, .int m, .tup sm, .tup se]
/-! a machine is equal to itself -/
def F_meq (a : Ad) : FM := fun rs Qd => ∃ (n m : Int) (sm se : List DL.D), rs = [.val (machD a n m sm se), .val (machD a n m sm se)] ∧ okD (.tup sm) ∧ okD (.tup se) ∧ Qd (.val (.bl true))
theorem lookF_no {f n : Str} {ns : List Str} {d : DL.D} {ds : List DL.D} (h : (f == n) = false) : lookF f (n :: ns) (d :: ds) = lookF f ns ds := by
  show (if (f == n) = true then some d else lookF f ns ds) = _
  rw [if_neg (by rw [h]; exact Bool.false_ne_true)]
theorem lookF_yes {f n : Str} {ns : List Str} {d : DL.D} {ds : List DL.D} (h : (f == n) = true) : lookF f (n :: ns) (d :: ds) = some d := by
  show (if (f == n) = true then some d else lookF f ns ds) = _
  rw [if_pos h]
theorem look1 (x y z u : DL.D) : lookF "letters" mns [x, y, z, u] = some x := lookF_yes (by decide +kernel)
theorem look2 (x y z u : DL.D) : lookF "labels" mns [x, y, z, u] = some y := (lookF_no (by decide +kernel)).trans (lookF_yes (by decide +kernel))
theorem look3 (x y z u : DL.D) : lookF "moves" mns [x, y, z, u] = some z := (lookF_no (by decide +kernel)).trans ((lookF_no (by decide +kernel)).trans (lookF_yes (by decide +kernel)))
theorem look4 (x y z u : DL.D) : lookF "ends" mns [x, y, z, u] = some u := (lookF_no (by decide +kernel)).trans ((lookF_no (by decide +kernel)).trans ((lookF_no (by decide +kernel)).trans (lookF_yes (by decide +kernel))))
theorem meq_body (a : Ad) : ∀ rs Qd, F_meq a rs Qd → bodyF 2 (m_Machine_eqdd a) rs Qd := by
  rintro rs Qd ⟨n, m, sm, se, rfl, ok1, ok2, q⟩
  unfold m_Machine_eqdd machD
  show dRet _ _ [some (.val (.ins a.Machine mns [.int n, .int m, .tup sm, .tup se])), some (.val (.ins a.Machine mns [.int n, .int m, .tup sm, .tup se]))]
  have e1 := eqD_ok (okD_int n)
  have e2 := eqD_ok (okD_int m)
  have e3 := eqD_ok ok1
  have e4 := eqD_ok ok2
  refine ⟨⟨_, _, rfl⟩, ?_⟩
  refine s_iteT ?_
  refine ⟨rfl, _, look1 _ _ _ _, rfl, _, look1 _ _ _ _, ⟨okD_int _, okD_int _⟩, ?_⟩
  refine s_ite1 e1 ?_
  refine ⟨rfl, _, look2 _ _ _ _, rfl, _, look2 _ _ _ _, ⟨okD_int _, okD_int _⟩, ?_⟩
  refine s_ite1 e2 ?_
  refine ⟨rfl, _, look3 _ _ _ _, rfl, _, look3 _ _ _ _, ⟨ok1, ok1⟩, ?_⟩
  refine s_ite1 e3 ?_
  refine ⟨rfl, _, look4 _ _ _ _, rfl, _, look4 _ _ _ _, ⟨ok2, ok2⟩, ?_⟩
  have q' : Qd (.val (.bl (eqD (.tup se) (.tup se)))) := by
    rw [e4]
    exact q
  exact q'
/-! the moves known -/
theorem has_put (l : List (DL.D × DL.D)) (k v x : DL.D) : hasP (putP l k v) x = (hasP l x || decide (kD k = kD x)) := by
  unfold putP
  by_cases c : hasP l k = true
  · rw [if_pos c]
    have e : hasP (l.map fun p => if kD p.1 = kD k then (p.1, v) else p) x = hasP l x := by
      unfold hasP
      rw [List.any_map]
      congr 1
      funext p
      show decide (kD (if kD p.1 = kD k then (p.1, v) else p).1 = kD x) = _
      split <;> rfl
    rw [e]
    by_cases d : kD k = kD x
    · have : hasP l x = true := by
        unfold hasP at c ⊢
        rw [← d]
        exact c
      rw [this]
      rfl
    · rw [decide_eq_false d, Bool.or_false]
  · rw [if_neg c]
    unfold hasP
    rw [List.any_append]
    simp
theorem len_put (l : List (DL.D × DL.D)) (k v : DL.D) : (putP l k v).length ≤ l.length + 1 := by
  unfold putP
  split
  · rw [List.length_map]
    omega
  · rw [List.length_append]
    exact Nat.le_refl _
theorem km_loop {x0 : Option Nv} {Ql : En → List (DL.D × DL.D) → Prop} : ∀ (ds : List DL.D) (acc : List (DL.D × DL.D)), (∀ d ∈ ds, keyOk d) → acc.length + ds.length ≤ 1000 →
    (∀ acc', (∀ x, hasP acc' x = (hasP acc x || ds.any fun d => decide (kD d = kD x))) → Ql [x0, none] acc') → dDcL [1] (dName 1) dYes (dVar 1) (dC (.bl true)) ds [x0, none] acc Ql
  | [], acc, h, hl, q => q acc fun x => by rw [List.any_nil, Bool.or_false]
  | d :: ds, acc, h, hl, q => by
    rw [List.length_cons] at hl
    refine ⟨fun _ => ?_, fun e => nomatch e⟩
    refine ⟨h d List.mem_cons_self, ?_⟩
    refine ⟨by unfold sizeLine; omega, ?_⟩
    have l1 := len_put acc d (.bl true)
    exact km_loop ds (putP acc d (.bl true)) (fun e he => h e (List.mem_cons_of_mem _ he)) (by omega) fun acc' h' => q acc' fun x => by rw [h' x, has_put, List.any_cons, Bool.or_assoc]
def F_km (a : Ad) : FM := fun rs Qd => ∃ (n m : Int) (sm se : List DL.D), rs = [.val (machD a n m sm se)] ∧ (∀ d ∈ sm, keyOk d) ∧ sm.length ≤ 1000 ∧ ∀ ks vs, (∀ x, (ks.any fun k => decide (kD k = kD x)) = sm.any fun k => decide (kD k = kD x)) → Qd (.val (.dct ks vs))
theorem km_body (a : Ad) : ∀ rs Qd, F_km a rs Qd → bodyF 2 (m_known_moves a) rs Qd := by
  rintro rs Qd ⟨n, m, sm, se, rfl, ok, hl, q⟩
  unfold m_known_moves machD
  show dRet _ _ [some (.val (.ins a.Machine mns [.int n, .int m, .tup sm, .tup se])), none]
  refine ⟨rfl, _, look3 _ _ _ _, rfl, ?_⟩
  refine km_loop sm [] ok (by rw [List.length_nil]; omega) fun acc h => ?_
  refine q _ _ fun x => ?_
  rw [List.any_map]
  have z := h x
  unfold hasP at z
  rw [List.any_nil, Bool.false_or] at z
  exact z
end G
end

section
set_option Elab.async false
set_option linter.all false
set_option maxRecDepth 100000
set_option maxHeartbeats 4000000
namespace G
open PySem PySem.Spec PyProof.Rows L2 DL
local macro_rules | `(tactic| walk_at "ok1") => `(tactic| first | exact okD_int _ | exact okD_bl _ | exact okD_non | exact okD_str (by assumption) | assumption)
local macro_rules | `(tactic| walk_at "go1") => `(tactic| ((conv => whnf); first
  | refine s_iteT ?_ | refine s_iteF ?_
  | refine ⟨⟨by walk_at "ok1", by walk_at "ok1"⟩, ?_⟩
  | refine ⟨_, rfl, ?_⟩
  | refine ⟨rfl, ?_⟩
  | refine ⟨Nat.le_of_ble_eq_true rfl, ?_⟩
  | refine ⟨_, isB_tuple (by assumption), ?_⟩
  | refine ⟨_, isB_list (by assumption), ?_⟩
  | refine ⟨_, isB_bool (by assumption), ?_⟩
  | refine ⟨_, isB_int (by assumption), ?_⟩
  | refine ⟨_, isB_str (by assumption), ?_⟩
  | refine ⟨_, by assumption, ?_⟩
  | refine s_ite1 (by assumption) ?_ | refine s_ite0 (by assumption) ?_))
local macro_rules | `(tactic| walk_at "go") => `(tactic| repeat walk_at "go1")
/-! keys -/
theorem keyKs_ints : ∀ l : List Int, keyKs (l.map DL.D.int) = true
  | [] => by rw [List.map_nil, keyKs]
  | a :: l => by rw [List.map_cons, keyKs, keyKs_ints l, keyK]; rfl
theorem mv_keyOk (x : Mv) : keyOk (mvD x) := by
  refine ⟨⟨_, rfl⟩, ?_, Nat.le_trans (fits_deep _ (mv_fits x)) (by decide)⟩
  unfold mvD
  rw [keyK, keyKs, keyKs, keyKs, keyKs, keyK, keyK, keyK, keyKs_ints]
  rfl
theorem ints_inj : ∀ {l m : List Int}, l.map DL.D.int = m.map DL.D.int → l = m
  | [], [], _ => rfl
  | [], _ :: _, h => by cases h
  | _ :: _, [], h => by cases h
  | a :: l, b :: m, h => by
    rw [List.map_cons, List.map_cons] at h
    injection h with h1 h2
    injection h1 with h1
    rw [h1, ints_inj h2]
theorem mvD_inj {x y : Mv} (h : mvD x = mvD y) : x = y := by
  obtain ⟨a, b, c⟩ := x
  obtain ⟨d, e, f⟩ := y
  unfold mvD at h
  injection h with h
  injection h with h1 h
  injection h with h2 h
  injection h with h3 h
  injection h1 with h1
  injection h2 with h2
  injection h3 with h3
  have h2 := ints_inj h2
  have h1 : a = d := h1
  have h3 : c = f := h3
  have h2 : b = e := h2
  rw [h1, h2, h3]
theorem kmv_inj {x y : Mv} (h : kD (mvD x) = kD (mvD y)) : x = y := mvD_inj (fits_inj _ (mv_fits x) (mv_fits y) h)
theorem sm_any {mv : List Mv} {sm : List DL.D} (h : SortedOf (mv.map mvD) sm) (z : Mv) : (sm.any fun k => decide (kD k = kD (mvD z))) = mv.any fun y => decide (y = z) := by
  rw [Bool.eq_iff_iff, List.any_eq_true, List.any_eq_true]
  constructor
  · rintro ⟨k, hk, e⟩
    obtain ⟨y, hy, rfl⟩ := List.mem_map.mp ((h.2.1 k).mp hk)
    exact ⟨y, hy, decide_eq_true (kmv_inj (of_decide_eq_true e))⟩
  · rintro ⟨y, hy, e⟩
    have e := of_decide_eq_true e
    subst e
    exact ⟨mvD y, (h.2.1 _).mpr (List.mem_map.mpr ⟨y, hy, rfl⟩), decide_eq_true rfl⟩
/-! labels -/
def atZ (ls : List Int) (p : Int) : Int := (L2.atI ls p).getD 0
def inR (n : Nat) (p : Int) : Prop := -(n : Int) ≤ p ∧ p < n
theorem ixN_in {n : Nat} {p : Int} (h : inR n p) : ∃ j, L2.ixN n p = some j ∧ j < n := by
  obtain ⟨h1, h2⟩ := h
  unfold L2.ixN
  by_cases c : 0 ≤ p
  · rw [if_pos c, if_pos h2]
    exact ⟨_, rfl, by omega⟩
  · rw [if_neg c]
    first
      | (rw [if_pos h1]; exact ⟨_, rfl, by omega⟩)
      | (rw [if_pos (by omega)]; exact ⟨_, rfl, by omega⟩)
theorem atI_lab {ls : List Int} {p : Int} (h : inR ls.length p) : L2.atI (ls.map DL.D.int) p = some (.int (atZ ls p)) := by
  obtain ⟨j, hj, lt⟩ := ixN_in h
  unfold atZ L2.atI
  rw [List.length_map, hj]
  show (ls.map DL.D.int)[j]? = some (.int ((ls[j]?).getD 0))
  rw [List.getElem?_map, List.getElem?_eq_getElem lt]
  rfl
theorem ix_lab {ld : DL.D} {ls : List Int} {p : Int} {Q : R → Prop} (hs : SqD ld (ls.map DL.D.int)) (h : inR ls.length p) (q : Q (.val (.int (atZ ls p)))) : mIx ld (.int p) Q := by
  rcases hs with rfl | rfl
  · exact ⟨_, atI_lab h, q⟩
  · exact ⟨_, atI_lab h, q⟩
def labD (ls : List Int) : DL.D → DL.D
  | .int p => .int (atZ ls p)
  | _ => .non
theorem labD_map (ls ps : List Int) : (ps.map DL.D.int).map (labD ls) = (ps.map (atZ ls)).map DL.D.int := by
  rw [List.map_map, List.map_map]
  rfl
abbrev Pl := Option Int × List Int
def mvAt (ls : List Int) (x : Pl) (i : Nat) : Mv := (x.1.getD 0, x.2.map (atZ ls), atZ ls (i : Int))
def bad (mv : List Mv) (ls : List Int) (x : Pl) (i : Nat) : Bool := !(mv.any fun y => decide (y = mvAt ls x i))
def objs (mv : List Mv) (ls : List Int) : List Pl → Nat → List Int
  | [], _ => []
  | x :: xs, i => (if bad mv ls x i then [(i : Int)] else []) ++ objs mv ls xs (i + 1)
theorem objs_length (mv : List Mv) (ls : List Int) : ∀ (pl : List Pl) (i : Nat), (objs mv ls pl i).length ≤ pl.length
  | [], _ => Nat.le_refl _
  | x :: xs, i => by
    have ih := objs_length mv ls xs (i + 1)
    unfold objs
    rw [List.length_append, List.length_cons]
    split <;> simp <;> omega
def plOk (n : Nat) (x : Pl) : Prop := (∃ a, x.1 = some a) ∧ x.2.length ≤ 1000 ∧ ∀ p ∈ x.2, inR n p
theorem enum_step (i : Nat) (x : DL.D) (xs : List DL.D) : enumD i (x :: xs) = .tup [.int (i : Nat), x] :: enumD (i + 1) xs := rfl
theorem wm_loop {E : DEn} {x0 x1 : Option Nv} {ld : DL.D} {ls : List Int} {mv : List Mv} {ks vs : List DL.D} (hs : SqD ld (ls.map DL.D.int)) (hk : ∀ z : Mv, (ks.any fun k => decide (kD k = kD (mvD z))) = mv.any fun y => decide (y = z)) :
    ∀ (pl : List Pl) (i : Nat) (acc : List Int) (y5 y6 y7 y8 : Option Nv), (∀ x ∈ pl, plOk ls.length x) → i + pl.length ≤ ls.length → ls.length ≤ 1000 → acc.length + pl.length ≤ 1000 →
    (∀ y5 y6 y7 y8, E.nx [x0, x1, some (.val ld), some (.val (.dct ks vs)), some (.own ((acc ++ objs mv ls pl i).map DL.D.int)), y5, y6, y7, y8, none]) →
    dLoop (dTg 2 (dTCons (dName 5) (dTCons (dTg 2 (dTCons (dName 6) (dTCons (dName 7) dTNil))) dTNil)))
      (dSeq (dSet 8 (dCB mTuple (dCons (dLc (dOver (dVar 7)) [9] (dName 9) dYes (dOp mIx (dVar 2) (dVar 9))) dNil)))
        (dIfS (dB (dOp mNotInX (dTup (dCons (dKeep (dVar 6)) (dCons (dKeep (dVar 8)) (dCons (dKeep (dOp mIx (dVar 2) (dVar 5))) dNil)))) (dVar 3))) (dApp 4 (dVar 5)) dNext))
      E (enumD i (pl.map plD)) [x0, x1, some (.val ld), some (.val (.dct ks vs)), some (.own (acc.map DL.D.int)), y5, y6, y7, y8, none]
  | [], i, acc, y5, y6, y7, y8, h, h1, h2, h3, q => by
    have q := q y5 y6 y7 y8
    unfold objs at q
    rw [List.append_nil] at q
    exact q
  | (oa, ps) :: pl, i, acc, y5, y6, y7, y8, h, h1, h2, h3, q => by
    rw [List.length_cons] at h1 h3
    obtain ⟨⟨a, e⟩, hl, hp⟩ := h _ List.mem_cons_self
    have e : oa = some a := e
    subst e
    have hl : ps.length ≤ 1000 := hl
    rw [List.map_cons, enum_step]
    refine ⟨rfl, rfl, ?_⟩
    refine ⟨rfl, ?_⟩
    refine lc_map 9 _ (labD ls) [x0, x1, some (.val ld), some (.val (.dct ks vs)), some (.own (acc.map DL.D.int)), some (.val (.int (i : Nat))), some (.val (.int a)), some (.val (.tup (ps.map DL.D.int))), y8, none] (ps.map DL.D.int) [] none (by rw [List.length_map, List.length_nil]; unfold sizeLine; omega) (fun d hd Q q => ?_) fun y => ?_
    · obtain ⟨p, hp', rfl⟩ := List.mem_map.mp hd
      refine ix_lab hs (hp p hp') ?_
      exact q
    · rw [List.nil_append, labD_map]
      have hi : inR ls.length (i : Int) := ⟨by omega, by omega⟩
      refine ix_lab hs hi ?_
      refine ⟨_, rfl, Nat.le_of_ble_eq_true rfl, ?_⟩
      refine ⟨mv_keyOk (mvAt ls (some a, ps) i), ?_⟩
      have ek : (ks.any fun k => decide (kD k = kD (mvD (mvAt ls (some a, ps) i)))) = mv.any fun y => decide (y = mvAt ls (some a, ps) i) := hk _
      have eb : (true ^^ ks.any fun k => decide (kD k = kD (mvD (mvAt ls (some a, ps) i)))) = bad mv ls (some a, ps) i := by
        rw [ek, Bool.true_xor]
        rfl
      show dIte (true ^^ ks.any fun k => decide (kD k = kD (mvD (mvAt ls (some a, ps) i)))) _ _
      rw [eb]
      have ho : objs mv ls ((some a, ps) :: pl) i = (if bad mv ls (some a, ps) i then [(i : Int)] else []) ++ objs mv ls pl (i + 1) := rfl
      cases c : bad mv ls (some a, ps) i with
      | true =>
        refine s_iteT ?_
        rw [c, if_pos rfl] at ho
        refine ⟨by rw [List.length_map]; unfold sizeLine; omega, ?_⟩
        have ih := wm_loop (E := E) (x0 := x0) (x1 := x1) hs hk pl (i + 1) (acc ++ [(i : Int)]) (some (.val (.int (i : Nat)))) (some (.val (.int a))) (some (.val (.tup (ps.map DL.D.int)))) (some (.val (.tup ((ps.map (atZ ls)).map DL.D.int)))) (fun x hx => h x (List.mem_cons_of_mem _ hx)) (by omega) h2 (by rw [List.length_append, List.length_singleton]; omega) (fun y5 y6 y7 y8 => by
          have q := q y5 y6 y7 y8
          rw [ho] at q
          rw [List.append_assoc]
          exact q)
        rw [List.map_append] at ih
        exact ih
      | false =>
        refine s_iteF ?_
        rw [c, if_neg Bool.false_ne_true, List.nil_append] at ho
        rw [ho] at q
        exact wm_loop hs hk pl (i + 1) acc _ _ _ _ (fun x hx => h x (List.mem_cons_of_mem _ hx)) (by omega) h2 (by omega) q
def F_wm (a : Ad) : FM := fun rs Qd => ∃ (n m : Int) (mv : List Mv) (sm se : List DL.D) (pl : List Pl) (ld : DL.D) (ls : List Int), rs = [.val (machD a n m sm se), .val (.lst (pl.map plD)), .val ld] ∧ SqD ld (ls.map DL.D.int) ∧ SortedOf (mv.map mvD) sm ∧ sm.length ≤ 1000 ∧ (∀ x ∈ pl, plOk ls.length x) ∧ pl.length ≤ ls.length ∧ ls.length ≤ 1000 ∧
  Qd (.own ((objs mv ls pl 0).map DL.D.int))
theorem wm_body {a : Ad} {F : FM} (hF : ∀ rs Q, F_km a rs Q → F rs Q) : ∀ rs Qd, F_wm a rs Qd → bodyF 10 (m_without_move F) rs Qd := by
  rintro rs Qd ⟨n, m, mv, sm, se, pl, ld, ls, rfl, hs, hm, hl, hp, h1, h2, q⟩
  unfold m_without_move
  show dSeq _ _ _ [some (.val (machD a n m sm se)), some (.val (.lst (pl.map plD))), some (.val ld), none, none, none, none, none, none, none]
  refine ⟨rfl, hF _ _ ⟨n, m, sm, se, rfl, fun d hd => ?_, hl, fun ks vs hk => ?_⟩⟩
  · obtain ⟨x, _, rfl⟩ := List.mem_map.mp ((hm.2.1 d).mp hd)
    exact mv_keyOk x
  · have hk' : ∀ z : Mv, (ks.any fun k => decide (kD k = kD (mvD z))) = mv.any fun y => decide (y = z) := fun z => (hk _).trans (sm_any hm z)
    walk_at "go"
    refine wm_loop hs hk' pl 0 [] none none none none hp (by omega) h2 (by rw [List.length_nil]; omega) fun y5 y6 y7 y8 => ?_
    rw [List.nil_append]
    exact q
end G
end

section
set_option Elab.async false
set_option linter.all false
set_option maxRecDepth 100000
set_option maxHeartbeats 4000000
namespace G
open PySem PySem.Spec PyProof.Rows L2 DL
local macro_rules | `(tactic| walk_at "ok1") => `(tactic| first | exact okD_int _ | exact okD_bl _ | exact okD_non | exact okD_str (by assumption) | assumption)
local macro_rules | `(tactic| walk_at "go1") => `(tactic| ((conv => whnf); first
  | refine s_iteT ?_ | refine s_iteF ?_
  | refine ⟨⟨by walk_at "ok1", by walk_at "ok1"⟩, ?_⟩
  | refine ⟨_, rfl, ?_⟩
  | refine ⟨rfl, ?_⟩
  | refine ⟨Nat.le_of_ble_eq_true rfl, ?_⟩
  | refine ⟨_, isB_tuple (by assumption), ?_⟩
  | refine ⟨_, isB_list (by assumption), ?_⟩
  | refine ⟨_, isB_bool (by assumption), ?_⟩
  | refine ⟨_, isB_int (by assumption), ?_⟩
  | refine ⟨_, isB_str (by assumption), ?_⟩
  | refine ⟨_, by assumption, ?_⟩
  | refine s_ite1 (by assumption) ?_ | refine s_ite0 (by assumption) ?_))
local macro_rules | `(tactic| walk_at "go") => `(tactic| repeat walk_at "go1")
/-! who objects in a tree -/
def told (mv : List Mv) (es ls : List Int) (ini : List Pl) (x : Pl) : List Int :=
  objs mv ls ini 0 ++ (if bad mv ls x ini.length || !(es.any fun e => decide (e = atZ ls (ini.length : Int))) then [(ini.length : Int)] else [])
theorem objs_app (mv : List Mv) (ls : List Int) (ys : List Pl) : ∀ (xs : List Pl) (i : Nat), objs mv ls (xs ++ ys) i = objs mv ls xs i ++ objs mv ls ys (i + xs.length)
  | [], i => rfl
  | x :: xs, i => by
    have ih := objs_app mv ls ys xs (i + 1)
    show (if bad mv ls x i then [(i : Int)] else []) ++ objs mv ls (xs ++ ys) (i + 1) = ((if bad mv ls x i then [(i : Int)] else []) ++ objs mv ls xs (i + 1)) ++ _
    rw [ih, List.append_assoc, List.length_cons, show i + 1 + xs.length = i + (xs.length + 1) by omega]
theorem objs_lt (mv : List Mv) (ls : List Int) : ∀ (xs : List Pl) (i : Nat) (o : Int), o ∈ objs mv ls xs i → o < (i + xs.length : Nat)
  | [], i, o, h => nomatch h
  | x :: xs, i, o, h => by
    rw [List.length_cons]
    rcases List.mem_append.mp h with z | z
    · split at z
      · rw [List.mem_singleton.mp z]
        omega
      · cases z
    · have := objs_lt mv ls xs (i + 1) o z
      omega
theorem objs_one (mv : List Mv) (ls : List Int) (x : Pl) (i : Nat) : objs mv ls [x] i = if bad mv ls x i then [(i : Int)] else [] := by
  show (if bad mv ls x i then [(i : Int)] else []) ++ [] = _
  rw [List.append_nil]
theorem inD_ints (v : Int) : ∀ l : List Int, inD (.int v) (l.map DL.D.int) = l.any fun e => decide (e = v)
  | [] => rfl
  | a :: l => by
    have ih := inD_ints v l
    show (eqD (.int a) (.int v) || inD (.int v) (l.map DL.D.int)) = (decide (a = v) || _)
    rw [ih, eqD_int]
    rfl
theorem inD_se {es : List Int} {se : List DL.D} (h : SortedOf (es.map DL.D.int) se) (v : Int) : inD (.int v) se = es.any fun e => decide (e = v) := by
  rw [← inD_ints]
  unfold inD
  rw [Bool.eq_iff_iff, List.any_eq_true, List.any_eq_true]
  constructor
  · rintro ⟨k, hk, e⟩
    exact ⟨k, (h.2.1 k).mp hk, e⟩
  · rintro ⟨k, hk, e⟩
    exact ⟨k, (h.2.1 k).mpr hk, e⟩
theorem mvD_eq (x y : Mv) : eqD (mvD x) (mvD y) = decide (x = y) := by
  rw [fits_eqD (mv_fits x) (mv_fits y)]
  by_cases c : x = y
  · rw [decide_eq_true c, decide_eq_true (by rw [c])]
  · rw [decide_eq_false c, decide_eq_false fun z => c (kmv_inj z)]
theorem inD_mv (z : Mv) : ∀ mv : List Mv, inD (mvD z) (mv.map mvD) = mv.any fun y => decide (y = z)
  | [] => rfl
  | a :: l => by
    have ih := inD_mv z l
    show (eqD (mvD a) (mvD z) || inD (mvD z) (l.map mvD)) = (decide (a = z) || _)
    rw [ih, mvD_eq]
theorem ints_ok (l : List Int) : okD (.lst (l.map DL.D.int)) := (okK_lst (k := 0) fun d hd => by
  obtain ⟨x, _, rfl⟩ := List.mem_map.mp hd
  exact okK_int x).ok (by decide)
theorem mvs_ok (l : List Mv) : okD (.lst (l.map mvD)) := (okK_lst (k := 2) fun d hd => by
  obtain ⟨x, _, rfl⟩ := List.mem_map.mp hd
  exact mv_okK x).ok (by decide)
theorem mv_ok (x : Mv) : okD (mvD x) := (mv_okK x).ok (by decide)
def F_obj (a : Ad) : FM := fun rs Qd => ∃ (n m : Int) (mv : List Mv) (es : List Int) (sm se : List DL.D) (t : Tr) (ini : List Pl) (x : Pl) (ld : DL.D) (ls : List Int), rs = [.val (machD a n m sm se), .val t.d, .val ld] ∧ Tr.places t = ini ++ [x] ∧ SqD ld (ls.map DL.D.int) ∧ SortedOf (mv.map mvD) sm ∧ SortedOf (es.map DL.D.int) se ∧ sm.length ≤ 1000 ∧ (∀ y ∈ ini ++ [x], plOk ls.length y) ∧ ls.length = ini.length + 1 ∧ ls.length ≤ 1000 ∧
  Qd (.own ((told mv es ls ini x).map DL.D.int))
theorem obj_body {a : Ad} {F1 F2 : FM} (h1 : ∀ rs Q, F_people rs Q → F1 rs Q) (h2 : ∀ rs Q, F_wm a rs Q → F2 rs Q) : ∀ rs Qd, F_obj a rs Qd → bodyF 6 (m_objectors a F1 F2) rs Qd := by
  rintro rs Qd ⟨n, m, mv, es, sm, se, t, ini, x, ld, ls, rfl, ht, hs, hm, he, hl, hp, l1, l2, q⟩
  unfold m_objectors
  show dSeq _ _ _ [some (.val (machD a n m sm se)), some (.val t.d), some (.val ld), none, none, none]
  have sz : t.size = ini.length + 1 := by rw [← Tr.places_length, ht, List.length_append, List.length_singleton]
  refine ⟨rfl, h1 _ _ ⟨t, rfl, by omega, ?_⟩⟩
  rw [ht]
  refine ⟨rfl, h2 _ _ ⟨n, m, mv, sm, se, ini ++ [x], ld, ls, rfl, hs, hm, hl, hp, by rw [List.length_append, List.length_singleton]; omega, l2, ?_⟩⟩
  show dSeq _ _ _ [some (.val (machD a n m sm se)), some (.val t.d), some (.val ld), some (.val (.lst ((ini ++ [x]).map plD))), some (.own ((objs mv ls (ini ++ [x]) 0).map DL.D.int)), none]
  have hi : inR ls.length (ini.length : Int) := ⟨by omega, by omega⟩
  have e0 : (((ini ++ [x]).map plD).length : Int) - 1 = (ini.length : Int) := by
    rw [List.length_map, List.length_append, List.length_singleton]
    omega
  have eo : objs mv ls (ini ++ [x]) 0 = objs mv ls ini 0 ++ (if bad mv ls x ini.length then [(ini.length : Int)] else []) := by
    rw [objs_app, objs_one, Nat.zero_add]
  have lo : (objs mv ls (ini ++ [x]) 0).length ≤ 1000 := Nat.le_trans (objs_length ..) (by rw [List.length_append, List.length_singleton]; omega)
  have tail : ∀ r : Int, r = (ini.length : Int) → (dSeq (dIfS (dAnd (dB (dOp mNotIn (dOp mIx (dVar 2) (dVar 5)) (dFld a.Machine "ends" (dVar 0)))) (dB (dOp mNotIn (dVar 5) (dVar 4)))) (dApp 4 (dVar 5)) dNext) (dRet (dVar 4))) { nx := fun _ => Qd (.val .non), rt := fun _ r => Qd r }
      [some (.val (machD a n m sm se)), some (.val t.d), some (.val ld), some (.val (.lst ((ini ++ [x]).map plD))), some (.own ((objs mv ls (ini ++ [x]) 0).map DL.D.int)), some (.val (.int r))] := by
    rintro _ rfl
    refine ix_lab hs hi ?_
    refine ⟨rfl, _, look4 _ _ _ _, ⟨okD_int _, se_ok he⟩, ?_⟩
    unfold told at q
    cases c : es.any fun e => decide (e = atZ ls (ini.length : Int)) with
    | true =>
      rw [c, Bool.not_true, Bool.or_false, ← eo] at q
      have f : (!inD (.int (atZ ls (ini.length : Int))) se) = false := by rw [inD_se he, c]; rfl
      refine s_ite0 f ?_
      refine s_iteF ?_
      exact q
    | false =>
      rw [c, Bool.not_false, Bool.or_true, if_pos rfl] at q
      have f : (!inD (.int (atZ ls (ini.length : Int))) se) = true := by rw [inD_se he, c]; rfl
      refine s_ite1 f ?_
      refine ⟨⟨okD_int _, ints_ok _⟩, ?_⟩
      have em : inD (.int (ini.length : Int)) ((objs mv ls (ini ++ [x]) 0).map DL.D.int) = bad mv ls x ini.length := by
        rw [inD_ints, eo, List.any_append]
        have z : ((objs mv ls ini 0).any fun e => decide (e = (ini.length : Int))) = false := by
          rw [List.any_eq_false]
          intro o ho
          have := objs_lt mv ls ini 0 o ho
          rw [Nat.zero_add] at this
          simp
          omega
        rw [z, Bool.false_or]
        cases bad mv ls x ini.length <;> simp
      cases b : bad mv ls x ini.length with
      | true =>
        rw [b, if_pos rfl] at eo
        rw [← eo] at q
        have f2 : (!inD (.int (ini.length : Int)) ((objs mv ls (ini ++ [x]) 0).map DL.D.int)) = false := by rw [em, b]; rfl
        refine s_ite0 f2 ?_
        exact q
      | false =>
        rw [b, if_neg Bool.false_ne_true, List.append_nil] at eo
        have f2 : (!inD (.int (ini.length : Int)) ((objs mv ls (ini ++ [x]) 0).map DL.D.int)) = true := by rw [em, b]; rfl
        refine s_ite1 f2 ?_
        rw [eo]
        refine ⟨by rw [List.length_map, ← eo]; unfold sizeLine; omega, ?_⟩
        rw [List.map_append] at q
        exact q
  exact tail _ e0
end G
end

section
set_option Elab.async false
set_option linter.all false
set_option maxRecDepth 100000
set_option maxHeartbeats 4000000
namespace G
open PySem PySem.Spec PyProof.Rows L2 DL
local macro_rules | `(tactic| walk_at "ok1") => `(tactic| first | exact okD_int _ | exact okD_bl _ | exact okD_non | exact okD_str (by assumption) | assumption)
local macro_rules | `(tactic| walk_at "go1") => `(tactic| ((conv => whnf); first
  | refine s_iteT ?_ | refine s_iteF ?_
  | refine ⟨⟨by walk_at "ok1", by walk_at "ok1"⟩, ?_⟩
  | refine ⟨_, rfl, ?_⟩
  | refine ⟨rfl, ?_⟩
  | refine ⟨Nat.le_of_ble_eq_true rfl, ?_⟩
  | refine ⟨_, isB_tuple (by assumption), ?_⟩
  | refine ⟨_, isB_list (by assumption), ?_⟩
  | refine ⟨_, isB_bool (by assumption), ?_⟩
  | refine ⟨_, isB_int (by assumption), ?_⟩
  | refine ⟨_, isB_str (by assumption), ?_⟩
  | refine ⟨_, by assumption, ?_⟩
  | refine s_ite1 (by assumption) ?_ | refine s_ite0 (by assumption) ?_))
local macro_rules | `(tactic| walk_at "go") => `(tactic| repeat walk_at "go1")
/-! who objects in a ring -/
def rpl : List Int → Nat → List Pl
  | [], _ => []
  | a :: r, i => (some a, [(i : Int) - 1]) :: rpl r (i + 1)
theorem rpl_length : ∀ (r : List Int) (i : Nat), (rpl r i).length = r.length
  | [], _ => rfl
  | a :: r, i => by
    show (rpl r (i + 1)).length + 1 = _
    rw [rpl_length r (i + 1)]
    rfl
theorem rpl_ok {n : Nat} (hn : 1 ≤ n) : ∀ (r : List Int) (i : Nat), i + r.length ≤ n → ∀ x ∈ rpl r i, plOk n x
  | [], _, _, x, hx => nomatch hx
  | a :: r, i, h, x, hx => by
    rw [List.length_cons] at h
    rcases List.mem_cons.mp hx with rfl | hx
    · refine ⟨⟨a, rfl⟩, by show 1 ≤ 1000; decide, fun p hp => ?_⟩
      rw [List.mem_singleton.mp hp]
      exact ⟨by omega, by omega⟩
    · exact rpl_ok hn r (i + 1) (by omega) x hx
theorem ring_lc {x0 x1 x2 : Option Nv} {Ql : En → List DL.D → Prop} : ∀ (r : List Int) (i : Nat) (acc : List Pl), acc.length + r.length ≤ 1000 → Ql [x0, x1, x2, none, none] ((acc ++ rpl r i).map plD) →
    dLcL [3, 4] (dTg 2 (dTCons (dName 3) (dTCons (dName 4) dTNil))) dYes (dTup (dCons (dKeep (dVar 4)) (dCons (dKeep (dTup (dCons (dKeep (dOp mSub (dVar 3) (dC (.int 1)))) dNil))) dNil))) (enumD i (r.map DL.D.int)) [x0, x1, x2, none, none] (acc.map plD) Ql
  | [], i, acc, h, q => by
    unfold rpl at q
    rw [List.append_nil] at q
    exact q
  | a :: r, i, acc, h, q => by
    rw [List.length_cons] at h
    rw [List.map_cons, enum_step]
    refine ⟨rfl, fun _ => ?_, fun e => nomatch e⟩
    refine ⟨_, rfl, Nat.le_of_ble_eq_true rfl, ?_⟩
    refine ⟨_, rfl, Nat.le_of_ble_eq_true rfl, ?_⟩
    refine ⟨by rw [List.length_map]; unfold sizeLine; omega, ?_⟩
    have key := ring_lc (x0 := x0) (x1 := x1) (x2 := x2) (Ql := Ql) r (i + 1) (acc ++ [(some a, [(i : Int) - 1])]) (by rw [List.length_append, List.length_singleton]; omega) (by
      rw [List.append_assoc]
      exact q)
    rw [List.map_append] at key
    exact key
def F_ring (a : Ad) : FM := fun rs Qd => ∃ (n m : Int) (mv : List Mv) (sm se : List DL.D) (rd ld : DL.D) (r ls : List Int), rs = [.val (machD a n m sm se), .val rd, .val ld] ∧ SqD rd (r.map DL.D.int) ∧ SqD ld (ls.map DL.D.int) ∧ SortedOf (mv.map mvD) sm ∧ sm.length ≤ 1000 ∧ r.length = ls.length ∧ 1 ≤ ls.length ∧ ls.length ≤ 1000 ∧
  Qd (.own ((objs mv ls (rpl r 0) 0).map DL.D.int))
theorem ring_body {a : Ad} {F : FM} (hF : ∀ rs Q, F_wm a rs Q → F rs Q) : ∀ rs Qd, F_ring a rs Qd → bodyF 5 (m_ring_objectors F) rs Qd := by
  rintro rs Qd ⟨n, m, mv, sm, se, rd, ld, r, ls, rfl, hr, hs, hm, hl, hn, l1, l2, q⟩
  unfold m_ring_objectors
  show dRet _ _ [some (.val (machD a n m sm se)), some (.val rd), some (.val ld), none, none]
  have tail : ∀ Ql : En → List DL.D → Prop, Ql [some (.val (machD a n m sm se)), some (.val rd), some (.val ld), none, none] ((rpl r 0).map plD) → dLcL [3, 4] (dTg 2 (dTCons (dName 3) (dTCons (dName 4) dTNil))) dYes (dTup (dCons (dKeep (dVar 4)) (dCons (dKeep (dTup (dCons (dKeep (dOp mSub (dVar 3) (dC (.int 1)))) dNil))) dNil))) (enumD 0 (r.map DL.D.int)) [some (.val (machD a n m sm se)), some (.val rd), some (.val ld), none, none] [] Ql := fun Ql q => ring_lc r 0 [] (by rw [List.length_nil]; omega) (by rw [List.nil_append]; exact q)
  rcases hr with rfl | rfl
  · refine ⟨rfl, ?_⟩
    refine tail _ ?_
    refine ⟨rfl, hF _ _ ⟨n, m, mv, sm, se, rpl r 0, ld, ls, rfl, hs, hm, hl, rpl_ok l1 r 0 (by omega), by rw [rpl_length]; omega, l2, ?_⟩⟩
    exact q
  · refine ⟨rfl, ?_⟩
    refine tail _ ?_
    refine ⟨rfl, hF _ _ ⟨n, m, mv, sm, se, rpl r 0, ld, ls, rfl, hs, hm, hl, rpl_ok l1 r 0 (by omega), by rw [rpl_length]; omega, l2, ?_⟩⟩
    exact q
/-! the law's own -/
def machL (n m : Int) (mv : List Mv) (es : List Int) : DL.D := .tup [.int n, .int m, .lst (mv.map mvD), .lst (es.map DL.D.int)]
def lob (mv : List Mv) (es ls : List Int) (n : Nat) : List Pl → Nat → List Int
  | [], _ => []
  | x :: xs, i => (if bad mv ls x i || (decide (i + 1 = n) && !(es.any fun e => decide (e = atZ ls (i : Int)))) then [(i : Int)] else []) ++ lob mv es ls n xs (i + 1)
theorem lob_last (mv : List Mv) (es ls : List Int) (n : Nat) (x : Pl) : ∀ (xs : List Pl) (i : Nat), i + xs.length + 1 = n →
    lob mv es ls n (xs ++ [x]) i = objs mv ls xs i ++ (if bad mv ls x (i + xs.length) || !(es.any fun e => decide (e = atZ ls ((i + xs.length : Nat) : Int))) then [((i + xs.length : Nat) : Int)] else [])
  | [], i, h => by
    show (if bad mv ls x i || (decide (i + 1 = n) && !(es.any fun e => decide (e = atZ ls (i : Int)))) then [(i : Int)] else []) ++ [] = _
    rw [decide_eq_true (show i + 1 = n from h), Bool.true_and, List.append_nil]
    rfl
  | y :: xs, i, h => by
    rw [List.length_cons] at h ⊢
    have ih := lob_last mv es ls n x xs (i + 1) (by omega)
    show (if bad mv ls y i || (decide (i + 1 = n) && !(es.any fun e => decide (e = atZ ls (i : Int)))) then [(i : Int)] else []) ++ lob mv es ls n (xs ++ [x]) (i + 1) = ((if bad mv ls y i then [(i : Int)] else []) ++ objs mv ls xs (i + 1)) ++ _
    rw [ih, decide_eq_false (by omega : ¬ i + 1 = n), Bool.false_and, Bool.or_false, List.append_assoc, show i + 1 + xs.length = i + (xs.length + 1) by omega]
theorem lob_loop {E : DEn} {n m : Int} {mv : List Mv} {es : List Int} {pl : List Pl} {ld : DL.D} {ls : List Int} (hs : SqD ld (ls.map DL.D.int)) (hp : ∀ x ∈ pl, plOk ls.length x) (hn : pl.length ≤ ls.length) (h2 : ls.length ≤ 1000) :
    ∀ (xs pre : List Pl) (acc : List Int) (y4 y5 y6 y7 : Option Nv), pl = pre ++ xs → acc.length + xs.length ≤ 1000 →
    (∀ y4 y5 y6 y7, E.nx [some (.val (machL n m mv es)), some (.val (.lst (pl.map plD))), some (.val ld), some (.own ((acc ++ lob mv es ls pl.length xs pre.length).map DL.D.int)), y4, y5, y6, y7, none]) →
    dLoop (dName 4) (dSeq (dAsg (dTg 2 (dTCons (dName 5) (dTCons (dName 6) dTNil))) (dOp mIx (dVar 1) (dVar 4)))
      (dSeq (dSet 7 (dOp mIn (dTup (dCons (dKeep (dVar 5)) (dCons (dKeep (dCB mTuple (dCons (dLc (dOver (dVar 6)) [8] (dName 8) dYes (dOp mIx (dVar 2) (dVar 8))) dNil))) (dCons (dKeep (dOp mIx (dVar 2) (dVar 4))) dNil)))) (dOp mIx (dVar 0) (dC (.int 2)))))
      (dSeq (dIfS (dAnd (dB (dOp mEq (dVar 4) (dOp mSub (dCB mLen (dCons (dVar 1) dNil)) (dC (.int 1))))) (dB (dOp mNotIn (dOp mIx (dVar 2) (dVar 4)) (dOp mIx (dVar 0) (dC (.int 3)))))) (dSet 7 (dC (.bl false))) dNext)
      (dIfS (dNot (dTru (dVar 7))) (dApp 3 (dVar 4)) dNext))))
      E ((List.range' pre.length xs.length).map fun k : Nat => DL.D.int (k : Int)) [some (.val (machL n m mv es)), some (.val (.lst (pl.map plD))), some (.val ld), some (.own (acc.map DL.D.int)), y4, y5, y6, y7, none]
  | [], pre, acc, y4, y5, y6, y7, hpl, h, q => by
    have q := q y4 y5 y6 y7
    unfold lob at q
    rw [List.append_nil] at q
    exact q
  | (oa, ps) :: xs, pre, acc, y4, y5, y6, y7, hpl, h, q => by
    rw [List.length_cons] at h
    have mem : (oa, ps) ∈ pl := by rw [hpl]; exact List.mem_append_right _ List.mem_cons_self
    obtain ⟨⟨a, e⟩, hl, hp'⟩ := hp _ mem
    have e : oa = some a := e
    subst e
    have hl : ps.length ≤ 1000 := hl
    have len : pl.length = pre.length + (xs.length + 1) := by rw [hpl, List.length_append, List.length_cons]
    have hi : inR ls.length (pre.length : Int) := ⟨by omega, by omega⟩
    have get : (pl.map plD)[pre.length]? = some (plD (some a, ps)) := by
      rw [hpl, List.map_append, List.getElem?_append_right (by rw [List.length_map]; exact Nat.le_refl _), List.length_map, Nat.sub_self]
      rfl
    rw [List.length_cons, List.range'_succ, List.map_cons]
    refine ⟨_, L2.atI_nat get, ?_⟩
    refine ⟨rfl, ?_⟩
    refine ⟨rfl, ?_⟩
    have ho : lob mv es ls pl.length ((some a, ps) :: xs) pre.length = (if bad mv ls (some a, ps) pre.length || (decide (pre.length + 1 = pl.length) && !(es.any fun e => decide (e = atZ ls (pre.length : Int)))) then [(pre.length : Int)] else []) ++ lob mv es ls pl.length xs (pre.length + 1) := rfl
    have hpl' : pl = (pre ++ [(some a, ps)]) ++ xs := by rw [hpl, List.append_assoc]; rfl
    have yes := fun (c : (bad mv ls (some a, ps) pre.length || (decide (pre.length + 1 = pl.length) && !(es.any fun e => decide (e = atZ ls (pre.length : Int))))) = true) (y4 y5 y6 y7 : Option Nv) => lob_loop (E := E) (n := n) (m := m) (mv := mv) (es := es) hs hp hn h2 xs (pre ++ [(some a, ps)]) (acc ++ [(pre.length : Int)]) y4 y5 y6 y7 hpl' (by rw [List.length_append, List.length_singleton]; omega) (fun y4 y5 y6 y7 => by
      have q := q y4 y5 y6 y7
      rw [ho, c, if_pos rfl] at q
      rw [List.length_append, List.length_singleton, List.append_assoc]
      exact q)
    have no := fun (c : (bad mv ls (some a, ps) pre.length || (decide (pre.length + 1 = pl.length) && !(es.any fun e => decide (e = atZ ls (pre.length : Int))))) = false) (y4 y5 y6 y7 : Option Nv) => lob_loop (E := E) (n := n) (m := m) (mv := mv) (es := es) hs hp hn h2 xs (pre ++ [(some a, ps)]) acc y4 y5 y6 y7 hpl' (by omega) (fun y4 y5 y6 y7 => by
      have q := q y4 y5 y6 y7
      rw [ho, c, if_neg Bool.false_ne_true, List.nil_append] at q
      rw [List.length_append, List.length_singleton]
      exact q)
    rw [List.length_append, List.length_singleton, List.map_append] at yes
    rw [List.length_append, List.length_singleton] at no
    have big : (acc.map DL.D.int).length < sizeLine := by rw [List.length_map]; unfold sizeLine; omega
    have em : inD (mvD (mvAt ls (some a, ps) pre.length)) (mv.map mvD) = !(bad mv ls (some a, ps) pre.length) := by
      rw [inD_mv]
      unfold bad
      rw [Bool.not_not]
    refine lc_map 8 _ (labD ls) [some (.val (machL n m mv es)), some (.val (.lst (pl.map plD))), some (.val ld), some (.own (acc.map DL.D.int)), some (.val (.int (pre.length : Nat))), some (.val (.int a)), some (.val (.tup (ps.map DL.D.int))), y7, none] (ps.map DL.D.int) [] none (by rw [List.length_map, List.length_nil]; unfold sizeLine; omega) (fun d hd Q q => ?_) fun y => ?_
    · obtain ⟨p, hq, rfl⟩ := List.mem_map.mp hd
      refine ix_lab hs (hp' p hq) ?_
      exact q
    · rw [List.nil_append, labD_map]
      refine ix_lab hs hi ?_
      refine ⟨_, rfl, Nat.le_of_ble_eq_true rfl, ?_⟩
      refine ⟨_, rfl, ?_⟩
      refine ⟨⟨mv_ok (mvAt ls (some a, ps) pre.length), mvs_ok mv⟩, ?_⟩
      refine ⟨⟨okD_int _, okD_int _⟩, ?_⟩
      have f1 : eqD (.int (pre.length : Int)) (.int (((pl.map plD).length : Int) - 1)) = decide (pre.length + 1 = pl.length) := by
        rw [eqD_int, List.length_map, Bool.eq_iff_iff, beq_iff_eq, decide_eq_true_iff]
        omega
      have f2 : inD (.int (atZ ls (pre.length : Int))) (es.map DL.D.int) = es.any fun e => decide (e = atZ ls (pre.length : Int)) := inD_ints _ _
      cases c1 : decide (pre.length + 1 = pl.length) with
      | false =>
        rw [c1] at f1
        refine s_ite0 f1 ?_
        refine s_iteF ?_
        refine ⟨_, rfl, ?_⟩
        rw [c1, Bool.false_and, Bool.or_false] at yes no
        cases b : bad mv ls (some a, ps) pre.length with
        | true =>
          rw [b, Bool.not_true] at em
          refine s_ite1 (congrArg (!·) em) ?_
          exact ⟨big, yes b _ _ _ _⟩
        | false =>
          rw [b, Bool.not_false] at em
          refine s_ite0 (congrArg (!·) em) ?_
          exact no b _ _ _ _
      | true =>
        rw [c1] at f1
        rw [c1, Bool.true_and] at yes no
        refine s_ite1 f1 ?_
        refine ix_lab hs hi ?_
        refine ⟨_, rfl, ⟨okD_int _, ints_ok es⟩, ?_⟩
        cases c2 : es.any fun e => decide (e = atZ ls (pre.length : Int)) with
        | true =>
          rw [c2] at f2
          rw [c2, Bool.not_true, Bool.or_false] at yes no
          refine s_ite0 (congrArg (!·) f2) ?_
          refine ⟨_, rfl, ?_⟩
          cases b : bad mv ls (some a, ps) pre.length with
          | true =>
            rw [b, Bool.not_true] at em
            refine s_ite1 (congrArg (!·) em) ?_
            exact ⟨big, yes b _ _ _ _⟩
          | false =>
            rw [b, Bool.not_false] at em
            refine s_ite0 (congrArg (!·) em) ?_
            exact no b _ _ _ _
        | false =>
          rw [c2] at f2
          rw [c2, Bool.not_false, Bool.or_true] at yes
          refine s_ite1 (congrArg (!·) f2) ?_
          refine ⟨_, rfl, ?_⟩
          refine s_iteT ?_
          exact ⟨big, yes rfl _ _ _ _⟩
def F_lobj : FM := fun rs Qd => ∃ (n m : Int) (mv : List Mv) (es : List Int) (ini : List Pl) (x : Pl) (ld : DL.D) (ls : List Int), rs = [.val (machL n m mv es), .val (.lst ((ini ++ [x]).map plD)), .val ld] ∧ SqD ld (ls.map DL.D.int) ∧ (∀ y ∈ ini ++ [x], plOk ls.length y) ∧ ls.length = ini.length + 1 ∧ ls.length ≤ 1000 ∧
  Qd (.own ((told mv es ls ini x).map DL.D.int))
theorem lobj_body : ∀ rs Qd, F_lobj rs Qd → bodyF 9 m_law_objects rs Qd := by
  rintro rs Qd ⟨n, m, mv, es, ini, x, ld, ls, rfl, hs, hp, l1, l2, q⟩
  unfold m_law_objects
  show dSeq _ _ _ [some (.val (machL n m mv es)), some (.val (.lst ((ini ++ [x]).map plD))), some (.val ld), none, none, none, none, none, none]
  have len : (ini ++ [x]).length = ls.length := by rw [List.length_append, List.length_singleton]; omega
  have e : told mv es ls ini x = lob mv es ls (ini ++ [x]).length (ini ++ [x]) 0 := by
    rw [lob_last mv es ls _ x ini 0 (by rw [List.length_append, List.length_singleton]; omega), Nat.zero_add]
    rfl
  refine ⟨_, rfl, Nat.le_of_ble_eq_true rfl, ?_⟩
  conv => whnf
  refine ⟨by rw [List.length_map]; omega, by rw [List.length_map]; omega, ?_⟩
  show dLoop _ _ _ _ _
  rw [rangeD_nat', List.length_map]
  refine lob_loop hs hp (by omega) l2 (ini ++ [x]) [] [] none none none none rfl (by rw [List.length_nil]; omega) fun y4 y5 y6 y7 => ?_
  rw [List.nil_append, List.length_nil, ← e]
  exact q
end G
end

section
set_option Elab.async false
set_option linter.all false
set_option maxRecDepth 100000
set_option maxHeartbeats 4000000
namespace G
open PySem PySem.Spec PyProof.Rows L2 DL
local macro_rules | `(tactic| walk_at "ok1") => `(tactic| first | exact okD_int _ | exact okD_bl _ | exact okD_non | exact okD_str (by assumption) | assumption)
local macro_rules | `(tactic| walk_at "go1") => `(tactic| ((conv => whnf); first
  | refine s_iteT ?_ | refine s_iteF ?_
  | refine ⟨⟨by walk_at "ok1", by walk_at "ok1"⟩, ?_⟩
  | refine ⟨_, rfl, ?_⟩
  | refine ⟨rfl, ?_⟩
  | refine ⟨Nat.le_of_ble_eq_true rfl, ?_⟩
  | refine ⟨_, isB_tuple (by assumption), ?_⟩
  | refine ⟨_, isB_list (by assumption), ?_⟩
  | refine ⟨_, isB_bool (by assumption), ?_⟩
  | refine ⟨_, isB_int (by assumption), ?_⟩
  | refine ⟨_, isB_str (by assumption), ?_⟩
  | refine ⟨_, by assumption, ?_⟩
  | refine s_ite1 (by assumption) ?_ | refine s_ite0 (by assumption) ?_))
local macro_rules | `(tactic| walk_at "go") => `(tactic| repeat walk_at "go1")
/-! a tree's people -/
theorem Tr.Rs_in : ∀ (ts : List Tr) (n : Nat) (p : Int), p ∈ Tr.Rs ts n → -1 ≤ p ∧ p < (n + Tr.sizes ts : Nat)
  | [], n, p, h => by rw [Tr.Rs] at h; cases h
  | c :: cs, n, p, h => by
    rw [Tr.Rs] at h
    rw [Tr.sizes]
    rcases List.mem_cons.mp h with rfl | h
    · exact ⟨by omega, by omega⟩
    · have := Tr.Rs_in cs (n + c.size) p h
      exact ⟨this.1, by omega⟩
mutual
theorem Tr.A_ok {k : Int} : ∀ (t : Tr) (n : Nat), (∀ y ∈ t.pre, okL k y) → ∀ x ∈ Tr.A t n, (∃ a, x.1 = some a) ∧ x.2.length ≤ 2 ∧ ∀ p ∈ x.2, -1 ≤ p ∧ p < (n + t.size : Nat)
  | .nd a cs, n, h, x, hx => by
    rw [Tr.pre] at h
    rw [Tr.A] at hx
    rw [Tr.size]
    rcases List.mem_append.mp hx with hx | hx
    · obtain ⟨h1, h2, h3⟩ := Tr.As_ok cs n (fun y hy => h y (List.mem_cons_of_mem _ hy)) x hx
      exact ⟨h1, h2, fun p hp => ⟨(h3 p hp).1, by have := (h3 p hp).2; omega⟩⟩
    · rw [List.mem_singleton.mp hx]
      obtain ⟨b, e, _, _, l2⟩ := h _ List.mem_cons_self
      refine ⟨⟨b, e⟩, ?_, fun p hp => ?_⟩
      · show (Tr.Rs cs n).length ≤ 2
        rw [Tr.Rs_length]
        exact l2
      · have := Tr.Rs_in cs n p hp
        exact ⟨this.1, by omega⟩
theorem Tr.As_ok {k : Int} : ∀ (ts : List Tr) (n : Nat), (∀ y ∈ Tr.pres ts, okL k y) → ∀ x ∈ Tr.As ts n, (∃ a, x.1 = some a) ∧ x.2.length ≤ 2 ∧ ∀ p ∈ x.2, -1 ≤ p ∧ p < (n + Tr.sizes ts : Nat)
  | [], n, h, x, hx => by rw [Tr.As] at hx; cases hx
  | c :: cs, n, h, x, hx => by
    rw [Tr.pres] at h
    rw [Tr.As] at hx
    rw [Tr.sizes]
    rcases List.mem_append.mp hx with hx | hx
    · obtain ⟨h1, h2, h3⟩ := Tr.A_ok c n (fun y hy => h y (List.mem_append_left _ hy)) x hx
      exact ⟨h1, h2, fun p hp => ⟨(h3 p hp).1, by have := (h3 p hp).2; omega⟩⟩
    · obtain ⟨h1, h2, h3⟩ := Tr.As_ok cs (n + c.size) (fun y hy => h y (List.mem_append_right _ hy)) x hx
      exact ⟨h1, h2, fun p hp => ⟨(h3 p hp).1, by have := (h3 p hp).2; omega⟩⟩
end
theorem Tr.size_pos : ∀ t : Tr, 1 ≤ t.size
  | .nd a cs => by rw [Tr.size]; omega
theorem places_split (t : Tr) : ∃ ini x, Tr.places t = ini ++ [x] ∧ t.size = ini.length + 1 := by
  cases t with
  | nd a cs =>
    refine ⟨_, _, by rw [Tr.places], ?_⟩
    rw [← Tr.places_length, Tr.places, List.length_append, List.length_singleton]
theorem places_ok {k : Int} {t : Tr} (h : okT k t) : ∀ x ∈ Tr.places t, plOk t.size x := fun x hx => by
  rw [Tr.places_A] at hx
  obtain ⟨h1, h2, h3⟩ := Tr.A_ok t 0 h x hx
  have := Tr.size_pos t
  exact ⟨h1, by omega, fun p hp => ⟨by have := (h3 p hp).1; omega, by have := (h3 p hp).2; omega⟩⟩
/-! a machine drawn is one -/
theorem few_ends : ∀ (es : List Int) (lo m : Int), (∀ e ∈ es, lo ≤ e ∧ e < m) → es.Pairwise (· < ·) → lo ≤ m → (es.length : Int) ≤ m - lo
  | [], lo, m, _, _, h => by rw [List.length_nil]; omega
  | e :: es, lo, m, h, p, _ => by
    rw [List.pairwise_cons] at p
    have he := h e List.mem_cons_self
    have := few_ends es (e + 1) m (fun x hx => ⟨by have := p.1 x hx; omega, (h x (List.mem_cons_of_mem _ hx)).2⟩) p.2 (by omega)
    rw [List.length_cons]
    omega
theorem okM_of {n m : Int} {mv : List Mv} {es : List Int} (n1 : 1 ≤ n) (n2 : n ≤ 4) (m1 : 1 ≤ m) (m2 : m ≤ 8) (l : (mv.length : Int) ≤ 12) (h : ∀ x ∈ mv, okMv n m x) (he : ∀ e ∈ es, 0 ≤ e ∧ e < m) (p : es.Pairwise (· < ·)) : okM n m mv es := by
  have := few_ends es 0 m he p (by omega)
  exact ⟨⟨n1, n2⟩, ⟨m1, m2⟩, by omega, h, by omega, he⟩
theorem nd_le : ∀ (l m : List DL.D), l.Nodup → (∀ d ∈ l, d ∈ m) → l.length ≤ m.length
  | [], _, _, _ => Nat.zero_le _
  | a :: l, m, h, s => by
    rw [List.nodup_cons] at h
    obtain ⟨u, v, rfl⟩ := List.append_of_mem (s a List.mem_cons_self)
    have := nd_le l (u ++ v) h.2 fun d hd => by
      have z := s d (List.mem_cons_of_mem _ hd)
      rcases List.mem_append.mp z with z | z
      · exact List.mem_append_left _ z
      · rcases List.mem_cons.mp z with rfl | z
        · exact absurd hd h.1
        · exact List.mem_append_right _ z
    rw [List.length_append] at this
    rw [List.length_cons, List.length_append, List.length_cons]
    omega
theorem sm_few {mv : List Mv} {sm : List DL.D} (h : SortedOf (mv.map mvD) sm) (l : mv.length < 64) : sm.length ≤ 1000 := by
  have : sm.length ≤ (mv.map mvD).length := by
    exact nd_le sm _ h.1 fun d hd => (h.2.1 d).mp hd
  rw [List.length_map] at this
  omega
/-! made -/
def F_made (a : Ad) : FM := fun rs Qd => ∃ (n m : Int) (mv : List Mv) (es : List Int), rs = [.val (machL n m mv es)] ∧ okM n m mv es ∧ ∀ sm se, SortedOf (mv.map mvD) sm → SortedOf (es.map DL.D.int) se → Qd (.val (machD a n m sm se))
theorem made_body (a : Ad) {F : FMM} (hF : ∀ rs l Q Qx, F_minit a rs l Q Qx → F rs l Q Qx) : ∀ rs Qd, F_made a rs Qd → bodyF 1 (m_law_made a F) rs Qd := by
  rintro rs Qd ⟨n, m, mv, es, rfl, ok, q⟩
  unfold m_law_made
  show dRet _ _ [some (.val (machL n m mv es))]
  refine ⟨_, rfl, _, rfl, _, rfl, _, rfl, ?_⟩
  refine ⟨rfl, fun dx => hF _ _ _ _ ⟨dx, n, m, mv, es, _, _, rfl, rfl, .inl rfl, .inl rfl, ok, fun sm se h1 h2 => ?_⟩⟩
  refine ⟨rfl, ?_⟩
  exact q sm se h1 h2
end G
end

section
set_option Elab.async false
set_option linter.all false
set_option maxRecDepth 100000
set_option maxHeartbeats 4000000
namespace G
open PySem PySem.Spec PyProof.Rows L2 DL
local macro_rules | `(tactic| walk_at "ok1") => `(tactic| first | exact okD_int _ | exact okD_bl _ | exact okD_non | exact okD_str (by assumption) | assumption)
local macro_rules | `(tactic| walk_at "go1") => `(tactic| ((conv => whnf); first
  | refine s_iteT ?_ | refine s_iteF ?_
  | refine ⟨⟨by walk_at "ok1", by walk_at "ok1"⟩, ?_⟩
  | refine ⟨_, rfl, ?_⟩
  | refine ⟨rfl, ?_⟩
  | refine ⟨_, isB_tuple (by assumption), ?_⟩
  | refine ⟨_, isB_list (by assumption), ?_⟩
  | refine ⟨_, isB_bool (by assumption), ?_⟩
  | refine ⟨_, isB_int (by assumption), ?_⟩
  | refine ⟨_, isB_str (by assumption), ?_⟩
  | refine ⟨_, by assumption, ?_⟩
  | refine s_ite1 (by assumption) ?_ | refine s_ite0 (by assumption) ?_))
local macro_rules | `(tactic| walk_at "go") => `(tactic| repeat walk_at "go1")

theorem same_loop {n : Nat} {F : FM} (hF : ∀ rs Qd, F_same n rs Qd → F rs Qd) {E : DEn} {x y : D} {la ld : List D} (hx : SqD x la) (hy : SqD y ld) (dx : isDat x = true) (tx : txtOk x) (dy : isDat y = true) (ty : txtOk y) (hl : la.length = ld.length) (hd : depDs ld < n)
    (hrt : ∀ env, sameDs la ld = false → E.rt env (.val (.bl false))) :
    ∀ (r k : Nat) (z : Option Nv), k + r = ld.length → (∀ (i : Nat) (u v : D), i < k → la[i]? = some u → ld[i]? = some v → sameD u v = true) →
      ((∀ (i : Nat) (u v : D), la[i]? = some u → ld[i]? = some v → sameD u v = true) → ∀ z, E.nx [some (.val x), some (.val y), z]) →
      dLoop (dName 2) (dIfS (dNot (dTru (dCall F (dCons (dKeep (dOp mIx (dVar 0) (dVar 2))) (dCons (dKeep (dOp mIx (dVar 1) (dVar 2))) dNil))))) (dRet (dC (.bl false))) dNext) E ((List.range' k r).map fun k : Nat => D.int (k : Int)) [some (.val x), some (.val y), z]
  | 0, k, z, hk, hs, hn => hn (fun i u v e1 e2 => hs i u v (by
      rcases Nat.lt_or_ge i ld.length with q | q
      · omega
      · rw [List.getElem?_eq_none q] at e2
        cases e2) e1 e2) z
  | r + 1, k, z, hk, hs, hn => by
    have h1 : k < la.length := by omega
    have h2 : k < ld.length := by omega
    have ea := List.getElem?_eq_getElem h1
    have ed := List.getElem?_eq_getElem h2
    revert ea ed
    generalize la[k] = u
    generalize ld[k] = v
    intro ea ed
    obtain ⟨da, ta⟩ := mIx_same hx dx tx
    obtain ⟨dd, td⟩ := mIx_same hy dy ty
    have hdv : depD v < n := Nat.lt_of_le_of_lt (depDs_get ed) hd
    refine hx.ix ea (hy.ix ed ⟨rfl, hF _ _ ⟨u, v, rfl, hdv, isDats_get da ea, txtOks_get ta ea, isDats_get dd ed, txtOks_get td ed, ?_⟩⟩)
    cases q : sameD u v with
    | false =>
      walk_at "go"
      refine hrt _ ?_
      cases q2 : sameDs la ld with
      | false => rfl
      | true => exact absurd ((sameDs_iff hl).1 q2 k u v ea ed) (by rw [q]; exact Bool.false_ne_true)
    | true =>
      walk_at "go"
      refine same_loop hF hx hy dx tx dy ty hl hd hrt r (k + 1) _ (by omega) (fun i u' v' hi e1 e2 => ?_) hn
      rcases Nat.lt_or_ge i k with q' | q'
      · exact hs i u' v' q' e1 e2
      · have : i = k := by omega
        subst this
        rw [ea] at e1
        rw [ed] at e2
        cases e1
        cases e2
        exact q
theorem same_body {n : Nat} {F : FM} (hF : ∀ rs Qd, F_same n rs Qd → F rs Qd) : ∀ rs Qd, F_same (n + 1) rs Qd → bodyF 3 (m_law_same F) rs Qd := by
  rintro rs Qd ⟨a, d, rfl, hd, da, ta, dd, td, q⟩
  unfold m_law_same
  show dSeq _ _ _ [some (.val a), some (.val d), none]
  cases d with
  | int i => cases a <;> first | exact absurd da Bool.false_ne_true | (walk_at "go"; exact q)
  | bl i => cases a <;> first | exact absurd da Bool.false_ne_true | (walk_at "go"; exact q)
  | str i => cases a <;> first | exact absurd da Bool.false_ne_true | (walk_at "go"; exact q) | (have ta2 : PyData.canLay0 _ = true := ta; have td2 : PyData.canLay0 _ = true := td; walk_at "go"; rw [eqD_str]; exact q)
  | non => cases a <;> first | exact absurd da Bool.false_ne_true | (walk_at "go"; exact q)
  | ins => exact absurd dd Bool.false_ne_true
  | any => exact absurd dd Bool.false_ne_true
  | err => exact absurd dd Bool.false_ne_true
  | scr => exact absurd dd Bool.false_ne_true
  | dct => exact absurd dd Bool.false_ne_true
  | lst l =>
    have hd' : depDs l < n := by rw [depD] at hd; omega
    have h62 : (l.length : Int) < 2 ^ 62 := by have := td.1; unfold sizeLine at this; omega
    cases a <;> first
      | exact absurd da Bool.false_ne_true
      | (walk_at "go"; exact q)
      | (rename_i la
         have q' : Qd (R.val (D.bl (sameDs la l))) := q
         walk_at "go"
         refine dIte_of (fun e => ?_) (fun e => ?_)
         · walk_at "go"
           rw [sameDs_false (neLen.1 e)] at q'
           exact q'
         · have e := neLen'.1 e
           conv => whnf
           refine ⟨by omega, h62, ?_⟩
           show dLoop _ _ _ _ _
           rw [rangeD_nat']
           refine same_loop hF (.inl rfl) (.inl rfl) da ta dd td e hd' (fun env h => ?_) _ 0 none (by omega) (fun i u v hi => absurd hi (by omega)) (fun h z => ?_)
           · rw [h] at q'
             exact q'
           · walk_at "go"
             rw [(sameDs_iff e).2 h] at q'
             exact q')
  | tup l =>
    have hd' : depDs l < n := by rw [depD] at hd; omega
    have h62 : (l.length : Int) < 2 ^ 62 := by have := td.1; unfold sizeLine at this; omega
    cases a <;> first
      | exact absurd da Bool.false_ne_true
      | (walk_at "go"; exact q)
      | (rename_i la
         have q' : Qd (R.val (D.bl (sameDs la l))) := q
         walk_at "go"
         refine dIte_of (fun e => ?_) (fun e => ?_)
         · walk_at "go"
           rw [sameDs_false (neLen.1 e)] at q'
           exact q'
         · have e := neLen'.1 e
           conv => whnf
           refine ⟨by omega, h62, ?_⟩
           show dLoop _ _ _ _ _
           rw [rangeD_nat']
           refine same_loop hF (.inr rfl) (.inr rfl) da ta dd td e hd' (fun env h => ?_) _ 0 none (by omega) (fun i u v hi => absurd hi (by omega)) (fun h z => ?_)
           · rw [h] at q'
             exact q'
           · walk_at "go"
             rw [(sameDs_iff e).2 h] at q'
             exact q')
end G
end

section
set_option Elab.async false
set_option linter.all false
set_option maxRecDepth 100000
set_option maxHeartbeats 4000000
namespace G
open PySem PySem.Spec PyProof.Rows L2 DL
local macro_rules | `(tactic| walk_at "ok1") => `(tactic| first | exact okD_int _ | exact okD_bl _ | exact okD_non | exact okD_str (by assumption) | assumption)
local macro_rules | `(tactic| walk_at "go1") => `(tactic| ((conv => whnf); first
  | refine s_iteT ?_ | refine s_iteF ?_
  | refine ⟨⟨by walk_at "ok1", by walk_at "ok1"⟩, ?_⟩
  | refine ⟨_, rfl, ?_⟩
  | refine ⟨rfl, ?_⟩
  | refine ⟨Nat.le_of_ble_eq_true rfl, ?_⟩
  | refine ⟨_, isB_tuple (by assumption), ?_⟩
  | refine ⟨_, isB_list (by assumption), ?_⟩
  | refine ⟨_, isB_bool (by assumption), ?_⟩
  | refine ⟨_, isB_int (by assumption), ?_⟩
  | refine ⟨_, isB_str (by assumption), ?_⟩
  | refine ⟨_, by assumption, ?_⟩
  | refine s_ite1 (by assumption) ?_ | refine s_ite0 (by assumption) ?_))
local macro_rules | `(tactic| walk_at "go") => `(tactic| repeat walk_at "go1")
/-! the law's turns: the ring -/
theorem cdivI {n : Int} (h : 0 < n) (h2 : n ≤ 5000) : CDivW 0 n := by
  have := cdiv_nat (m := n.toNat) (by omega) (by omega)
  rwa [Int.toNat_of_nonneg (by omega)] at this
theorem rangeD_len (k : Int) : (rangeD 0 k).length = k.toNat := by
  unfold rangeD
  rw [List.length_map, List.length_range, Int.sub_zero]
theorem lc_draws (i : Nat) (m : DM) (lim : Int) (env0 : En) {Ql : En → List DL.D → Prop} : ∀ (ds : List DL.D) (acc : List Int) (y : Option Nv), acc.length + ds.length ≤ 1000 →
    (∀ (d : DL.D) (Q : En → R → Prop), (∀ v : Int, 0 ≤ v → v < lim → Q (env0.set i (some (.val d))) (.val (.int v))) → dKeep m (env0.set i (some (.val d))) Q) →
    (∀ (y : Option Nv) (ls : List Int), ls.length = ds.length → (∀ x ∈ ls, 0 ≤ x ∧ x < lim) → Ql (env0.set i y) ((acc ++ ls).map DL.D.int)) →
    dLcL [i] (dName i) dYes m ds (env0.set i y) (acc.map DL.D.int) Ql
  | [], acc, y, h, hm, q => by
    have q := q y [] rfl (fun x hx => nomatch hx)
    rw [List.append_nil] at q
    exact q
  | d :: ds, acc, y, h, hm, q => by
    rw [List.length_cons] at h
    show dIte true (dKeep m ((env0.set i y).set i (some (.val d))) _) _
    refine s_iteT ?_
    rw [List.set_set]
    refine hm d _ fun v v1 v2 => ⟨by rw [List.length_map]; unfold sizeLine; omega, ?_⟩
    have ih := lc_draws i m lim env0 (Ql := Ql) ds (acc ++ [v]) none (by rw [List.length_append, List.length_singleton]; omega) hm fun y ls e hl => by
      have z := q y (v :: ls) (by rw [List.length_cons, List.length_cons, e]) (fun x hx => by
        rcases List.mem_cons.mp hx with rfl | hx
        · exact ⟨v1, v2⟩
        · exact hl x hx)
      rw [List.append_assoc]
      exact z
    rw [List.map_append] at ih
    show dLcL [i] (dName i) dYes m ds ((env0.set i (some (.val d))).set i none) _ Ql
    rw [List.set_set]
    exact ih
def pR (mv : List Mv) (ls r : List Int) : DL.D → Bool
  | .int k => !(mv.any fun y => decide (y = (atZ r k, [atZ ls (k - 1)], atZ ls k)))
  | _ => false
theorem ring_objs (mv : List Mv) (ls r : List Int) : ∀ (q pre : List Int), r = pre ++ q → (((List.range' pre.length q.length).map fun k : Nat => DL.D.int (k : Int)).filter (pR mv ls r)) = (objs mv ls (rpl q pre.length) pre.length).map DL.D.int
  | [], pre, e => rfl
  | b :: q, pre, e => by
    have ih := ring_objs mv ls r q (pre ++ [b]) (by rw [e, List.append_assoc]; rfl)
    rw [List.length_append, List.length_singleton] at ih
    have eb : pR mv ls r (.int (pre.length : Int)) = bad mv ls (some b, [(pre.length : Int) - 1]) pre.length := by
      have g : atZ r (pre.length : Int) = b := by
        unfold atZ
        rw [DL.atI_nat (k := pre.length) (d := b) (by rw [e, List.getElem?_append_right (Nat.le_refl _), Nat.sub_self]; rfl)]
        rfl
      show (!(mv.any fun y => decide (y = (atZ r (pre.length : Int), [atZ ls ((pre.length : Int) - 1)], atZ ls (pre.length : Int))))) = _
      rw [g]
      rfl
    rw [List.length_cons, List.range'_succ, List.map_cons, List.filter_cons, eb]
    show _ = ((if bad mv ls (some b, [(pre.length : Int) - 1]) pre.length then [(pre.length : Int)] else []) ++ objs mv ls (rpl q (pre.length + 1)) (pre.length + 1)).map DL.D.int
    rw [List.map_append, ← ih]
    cases bad mv ls (some b, [(pre.length : Int) - 1]) pre.length <;> rfl
def ringT (Sm R1 : FM) : DSM :=
  (dSeq (dSet 10 (dCall R1 (dCons (dKeep (dVar 3)) (dCons (dKeep (dOp mIx (dVar 8) (dC (.int 0)))) (dCons (dKeep (dOp mIx (dVar 8) (dC (.int 1)))) dNil)))))
  (dSeq (dIfS (dOr (dNot (dTru (dCallN1 Sm 10 (dKeep (dVar 9))))) (dOr (dB (dOp mNe (dCB mList (dCons (dOp mIx (dVar 8) (dC (.int 0))) dNil)) (dVar 11))) (dB (dOp mNe (dCB mList (dCons (dOp mIx (dVar 8) (dC (.int 1))) dNil)) (dVar 7)))))
  (dRet (dC (.bl false)))
  dNext)
  (dSeq (dApp 10 (dC (.int 99)))
  (dIfS (dNot (dTru (dCall Sm (dCons (dKeep (dCall R1 (dCons (dKeep (dVar 3)) (dCons (dKeep (dOp mIx (dVar 8) (dC (.int 0)))) (dCons (dKeep (dOp mIx (dVar 8) (dC (.int 1)))) dNil))))) (dCons (dKeep (dVar 9)) dNil)))))
  (dRet (dC (.bl false)))
  dNext))))
def ringM (Dr Sm R1 : FM) : DSM :=
  (dSeq (dSet 11 (dLc (dRng1 (dOp mAdd (dC (.int 1)) (dCall Dr (dCons (dKeep (dVar 1)) (dCons (dKeep (dC (.int 8))) dNil))))) [12] (dName 12) dYes (dCall Dr (dCons (dKeep (dVar 1)) (dCons (dKeep (dOp mAdd (dOp mIx (dVar 2) (dC (.int 0))) (dCB mInt (dCons (dOp mEq (dCall Dr (dCons (dKeep (dVar 1)) (dCons (dKeep (dC (.int 6))) dNil))) (dC (.int 0))) dNil)))) dNil)))))
  (dSeq (dSet 7 (dLc (dRng1 (dCB mLen (dCons (dVar 11) dNil))) [12] (dName 12) dYes (dCall Dr (dCons (dKeep (dVar 1)) (dCons (dKeep (dOp mIx (dVar 2) (dC (.int 1)))) dNil)))))
  (dSeq (dSet 9 (dLc (dRng1 (dCB mLen (dCons (dVar 11) dNil))) [12] (dName 12) (dB (dOp mNotIn (dTup (dCons (dKeep (dOp mIx (dVar 11) (dVar 12))) (dCons (dKeep (dTup (dCons (dKeep (dOp mIx (dVar 7) (dOp mSub (dVar 12) (dC (.int 1))))) dNil))) (dCons (dKeep (dOp mIx (dVar 7) (dVar 12))) dNil)))) (dOp mIx (dVar 2) (dC (.int 2))))) (dVar 12)))
  (dSeq (dSet 8 (dLst (dCons (dKeep (dPick (dCB mList (dCons (dVar 11) dNil)) (dCB mTuple (dCons (dVar 11) dNil)) (dCall Dr (dCons (dKeep (dVar 1)) (dCons (dKeep (dC (.int 2))) dNil))))) (dCons (dKeep (dPick (dCB mList (dCons (dVar 7) dNil)) (dCB mTuple (dCons (dVar 7) dNil)) (dCall Dr (dCons (dKeep (dVar 1)) (dCons (dKeep (dC (.int 2))) dNil))))) dNil))))
  (ringT Sm R1)))))
theorem ints_data {ts : List Int} (hl : ts.length ≤ sizeLine) : isDat (.lst (ts.map DL.D.int)) = true ∧ txtOk (.lst (ts.map DL.D.int)) ∧ depD (.lst (ts.map DL.D.int)) ≤ 1 := by
  refine ⟨?_, ?_, ?_⟩
  · rw [isDat]
    exact isDats_of fun d hd => by
      obtain ⟨t, _, rfl⟩ := List.mem_map.mp hd
      rw [isDat]
  · rw [txtOk]
    refine ⟨by rw [List.length_map]; exact hl, txtOks_of fun d hd => ?_⟩
    obtain ⟨t, _, rfl⟩ := List.mem_map.mp hd
    rw [txtOk] <;> first | trivial | (intros; contradiction)
  · rw [depD]
    have := depDs_of (l := ts.map DL.D.int) (k := 0) fun d hd => by
      obtain ⟨t, _, rfl⟩ := List.mem_map.mp hd
      rw [depD_int]
      exact Nat.le_refl _
    omega
theorem same_ints {l : List Int} (h : l.length ≤ 1000) {Qd : R → Prop} (q : Qd (.val (.bl true))) : F_same 200 [.val (.lst (l.map DL.D.int)), .val (.lst (l.map DL.D.int))] Qd := by
  obtain ⟨h1, h2, h3⟩ := ints_data (ts := l) (by unfold sizeLine; omega)
  exact same_refl _ (by omega) h1 h2 q
theorem ne_ints (l : List Int) : (!eqD (.lst (l.map DL.D.int)) (.lst (l.map DL.D.int))) = false := by
  rw [eqD_ok (ints_ok l)]
  rfl
theorem ring_tail {a : Ad} {Sm R1 : FM} (hS : ∀ rs Q, F_same 200 rs Q → Sm rs Q) (hR : ∀ rs Q, F_ring a rs Q → R1 rs Q) {E : DEn} {x0 : Option Nv} {n m : Int} {mv : List Mv} {es r ls : List Int} {sm se : List DL.D} {pd qd : DL.D} (lmv : mv.length < 64) (s1 : SortedOf (mv.map mvD) sm)
    (hp : SqD pd (r.map DL.D.int)) (hq : SqD qd (ls.map DL.D.int)) (ll : ls.length = r.length) (r1 : 1 ≤ r.length) (r2 : r.length ≤ 10)
    (y4 y5 y6 y10 : Option Nv) (q : ∀ y7 y8 y9 y10 y11, E.nx [x0, some .pool, some (.val (machL n m mv es)), some (.val (machD a n m sm se)), y4, y5, y6, y7, y8, y9, y10, y11, none]) :
    ringT Sm R1 E [x0, some .pool, some (.val (machL n m mv es)), some (.val (machD a n m sm se)), y4, y5, y6, some (.own (ls.map DL.D.int)), some (.own [pd, qd]), some (.own ((objs mv ls (rpl r 0) 0).map DL.D.int)), y10, some (.own (r.map DL.D.int)), none] := by
  unfold ringT
  have lo : (objs mv ls (rpl r 0) 0).length ≤ 1000 := Nat.le_trans (objs_length ..) (by rw [rpl_length]; omega)
  have lo' : ((objs mv ls (rpl r 0) 0).map DL.D.int).length < sizeLine := by rw [List.length_map]; unfold sizeLine; omega
  rcases hp with rfl | rfl <;> rcases hq with rfl | rfl <;> (
    refine ⟨_, rfl, _, rfl, ?_⟩
    refine ⟨rfl, hR _ _ ⟨n, m, mv, sm, se, _, _, r, ls, rfl, by first | exact .inl rfl | exact .inr rfl, by first | exact .inl rfl | exact .inr rfl, s1, sm_few s1 lmv, ll.symm, by omega, by omega, ?_⟩⟩
    refine ⟨⟨_, rfl⟩, rfl, hS _ _ (same_ints lo ⟨rfl, ?_⟩)⟩
    refine ⟨true, rfl, ?_⟩
    refine s_iteF ?_
    refine ⟨_, rfl, ⟨ints_ok r, ints_ok r⟩, ?_⟩
    refine s_ite0 (ne_ints r) ?_
    refine ⟨_, rfl, ⟨ints_ok ls, ints_ok ls⟩, ?_⟩
    refine s_ite0 (ne_ints ls) ?_
    refine ⟨lo', ?_⟩
    refine ⟨_, rfl, _, rfl, ?_⟩
    refine ⟨rfl, hR _ _ ⟨n, m, mv, sm, se, _, _, r, ls, rfl, by first | exact .inl rfl | exact .inr rfl, by first | exact .inl rfl | exact .inr rfl, s1, sm_few s1 lmv, ll.symm, by omega, by omega, ?_⟩⟩
    refine ⟨rfl, hS _ _ (same_ints lo ?_)⟩
    refine ⟨true, rfl, ?_⟩
    refine s_iteF ?_
    exact q _ _ _ _ _)
theorem ring_part {a : Ad} {Dr Sm R1 : FM} (hD : ∀ rs Q, F_draw rs Q → Dr rs Q) (hS : ∀ rs Q, F_same 200 rs Q → Sm rs Q) (hR : ∀ rs Q, F_ring a rs Q → R1 rs Q) {E : DEn} {x0 : Option Nv} {n m : Int} {mv : List Mv} {es : List Int} {sm se : List DL.D} (ok : okM n m mv es) (s1 : SortedOf (mv.map mvD) sm)
    (y4 y5 y6 y7 y8 y9 y10 y11 : Option Nv) (q : ∀ y7 y8 y9 y10 y11, E.nx [x0, some .pool, some (.val (machL n m mv es)), some (.val (machD a n m sm se)), y4, y5, y6, y7, y8, y9, y10, y11, none]) :
    ringM Dr Sm R1 E [x0, some .pool, some (.val (machL n m mv es)), some (.val (machD a n m sm se)), y4, y5, y6, y7, y8, y9, y10, y11, none] := by
  unfold ringM
  obtain ⟨⟨n1, n2⟩, ⟨m1, m2⟩, lmv, hmv, les, hes⟩ := ok
  refine ⟨rfl, hD _ _ ⟨8, rfl, cdivI (by decide) (by decide), fun v v1 v2 => ?_⟩⟩
  refine ⟨by omega, by omega, rfl, ?_⟩
  refine lc_draws 12 _ (n + 1) [x0, some .pool, some (.val (machL n m mv es)), some (.val (machD a n m sm se)), y4, y5, y6, y7, y8, y9, y10, y11, none] _ [] none (by rw [rangeD_len, List.length_nil]; omega) (fun d Q qq => ?_) fun y r lr hr => ?_
  · refine ⟨_, rfl, ?_⟩
    refine ⟨rfl, hD _ _ ⟨6, rfl, cdivI (by decide) (by decide), fun u u1 u2 => ?_⟩⟩
    refine ⟨⟨okD_int _, okD_int _⟩, ?_⟩
    refine ⟨rfl, hD _ _ ⟨n + (if eqD (.int u) (.int 0) then 1 else 0), rfl, ?_, fun v v1 v2 => ?_⟩⟩
    · cases eqD (.int u) (.int 0) with
      | true => exact cdivI (by show 0 < n + 1; omega) (by show n + 1 ≤ 5000; omega)
      | false => exact cdivI (by show 0 < n + 0; omega) (by show n + 0 ≤ 5000; omega)
    · refine qq v v1 ?_
      cases e : eqD (.int u) (.int 0) with
      | true =>
        rw [e] at v2
        exact v2
      | false =>
        rw [e] at v2
        have v2 : v < n + 0 := v2
        omega
  · rw [List.nil_append]
    rw [rangeD_len] at lr
    have r1 : 1 ≤ r.length := by omega
    have r2 : r.length ≤ 10 := by omega
    refine ⟨by rw [List.length_map]; omega, by rw [List.length_map]; omega, rfl, ?_⟩
    refine lc_draws 12 _ m [x0, some .pool, some (.val (machL n m mv es)), some (.val (machD a n m sm se)), y4, y5, y6, y7, y8, y9, y10, some (.own (r.map DL.D.int)), none] _ [] none (by rw [rangeD_len, List.length_nil, List.length_map]; omega) (fun d Q qq => ?_) fun y ls ll hl => ?_
    · refine ⟨_, rfl, ?_⟩
      refine ⟨rfl, hD _ _ ⟨m, rfl, cdivI (by omega) (by omega), fun v v1 v2 => ?_⟩⟩
      exact qq v v1 v2
    · rw [List.nil_append]
      rw [rangeD_len, List.length_map] at ll
      have ll : ls.length = r.length := by omega
      refine ⟨by rw [List.length_map]; omega, by rw [List.length_map]; omega, rfl, ?_⟩
      rw [rangeD_nat', List.length_map]
      refine lc_filter 12 _ (pR mv ls r) _ (fun d => d) [x0, some .pool, some (.val (machL n m mv es)), some (.val (machD a n m sm se)), y4, y5, y6, some (.own (ls.map DL.D.int)), y8, y9, y10, some (.own (r.map DL.D.int)), none] _ [] none (by rw [List.length_map, List.length_range', List.length_nil]; unfold sizeLine; omega) (fun d hd Q qq => ?_) (fun d hd hp Q qq => ?_) fun y => ?_
      · obtain ⟨k, hk, rfl⟩ := List.mem_map.mp hd
        rw [List.mem_range'] at hk
        obtain ⟨k', hk', rfl⟩ := hk
        have i1 : inR r.length ((0 + 1 * k' : Nat) : Int) := ⟨by omega, by omega⟩
        have i2 : inR ls.length (((0 + 1 * k' : Nat) : Int) - 1) := ⟨by omega, by omega⟩
        have i3 : inR ls.length ((0 + 1 * k' : Nat) : Int) := ⟨by omega, by omega⟩
        refine ⟨_, atI_lab i1, ?_⟩
        refine ⟨_, atI_lab i2, ?_⟩
        refine ⟨_, rfl, Nat.le_of_ble_eq_true rfl, ?_⟩
        refine ⟨_, atI_lab i3, ?_⟩
        refine ⟨_, rfl, Nat.le_of_ble_eq_true rfl, ?_⟩
        refine ⟨_, rfl, ?_⟩
        refine ⟨⟨mv_ok (atZ r ((0 + 1 * k' : Nat) : Int), [atZ ls (((0 + 1 * k' : Nat) : Int) - 1)], atZ ls ((0 + 1 * k' : Nat) : Int)), mvs_ok mv⟩, ?_⟩
        have e : pR mv ls r (.int ((0 + 1 * k' : Nat) : Int)) = !(inD (mvD (atZ r ((0 + 1 * k' : Nat) : Int), [atZ ls (((0 + 1 * k' : Nat) : Int) - 1)], atZ ls ((0 + 1 * k' : Nat) : Int))) (mv.map mvD)) := by
          rw [inD_mv]
          rfl
        rw [e] at qq
        exact qq
      · exact qq
      · have eo : ([] ++ ((((List.range' 0 r.length).map fun k : Nat => DL.D.int (k : Int)).filter (pR mv ls r)).map fun d => d)) = (objs mv ls (rpl r 0) 0).map DL.D.int := by
          rw [List.nil_append, List.map_id']
          exact ring_objs mv ls r r [] rfl
        rw [eo]
        refine ⟨rfl, hD _ _ ⟨2, rfl, cdivI (by decide) (by decide), fun u u1 u2 => ?_⟩⟩
        have fin : ∀ pd qd, SqD pd (r.map DL.D.int) → SqD qd (ls.map DL.D.int) → ringT Sm R1 E [x0, some .pool, some (.val (machL n m mv es)), some (.val (machD a n m sm se)), y4, y5, y6, some (.own (ls.map DL.D.int)), some (.own [pd, qd]), some (.own ((objs mv ls (rpl r 0) 0).map DL.D.int)), y10, some (.own (r.map DL.D.int)), none] := fun pd qd hp hq => ring_tail hS hR lmv s1 hp hq ll r1 r2 y4 y5 y6 y10 q
        rcases (show u = 0 ∨ u = 1 by omega) with rfl | rfl
        · refine .inl ⟨rfl, ?_⟩
          refine ⟨rfl, hD _ _ ⟨2, rfl, cdivI (by decide) (by decide), fun w w1 w2 => ?_⟩⟩
          rcases (show w = 0 ∨ w = 1 by omega) with rfl | rfl
          · refine .inl ⟨rfl, _, rfl, Nat.le_of_ble_eq_true rfl, ?_⟩
            exact fin _ _ (.inl rfl) (.inl rfl)
          · refine .inr ⟨rfl, _, rfl, Nat.le_of_ble_eq_true rfl, ?_⟩
            exact fin _ _ (.inl rfl) (.inr rfl)
        · refine .inr ⟨rfl, ?_⟩
          refine ⟨rfl, hD _ _ ⟨2, rfl, cdivI (by decide) (by decide), fun w w1 w2 => ?_⟩⟩
          rcases (show w = 0 ∨ w = 1 by omega) with rfl | rfl
          · refine .inl ⟨rfl, _, rfl, Nat.le_of_ble_eq_true rfl, ?_⟩
            exact fin _ _ (.inr rfl) (.inl rfl)
          · refine .inr ⟨rfl, _, rfl, Nat.le_of_ble_eq_true rfl, ?_⟩
            exact fin _ _ (.inr rfl) (.inr rfl)
end G
end

section
set_option Elab.async false
set_option linter.all false
set_option maxRecDepth 100000
set_option maxHeartbeats 4000000
namespace G
open PySem PySem.Spec PyProof.Rows L2 DL
local macro_rules | `(tactic| walk_at "ok1") => `(tactic| first | exact okD_int _ | exact okD_bl _ | exact okD_non | exact okD_str (by assumption) | assumption)
local macro_rules | `(tactic| walk_at "go1") => `(tactic| ((conv => whnf); first
  | refine s_iteT ?_ | refine s_iteF ?_
  | refine ⟨⟨by walk_at "ok1", by walk_at "ok1"⟩, ?_⟩
  | refine ⟨_, rfl, ?_⟩
  | refine ⟨rfl, ?_⟩
  | refine ⟨Nat.le_of_ble_eq_true rfl, ?_⟩
  | refine ⟨_, isB_tuple (by assumption), ?_⟩
  | refine ⟨_, isB_list (by assumption), ?_⟩
  | refine ⟨_, isB_bool (by assumption), ?_⟩
  | refine ⟨_, isB_int (by assumption), ?_⟩
  | refine ⟨_, isB_str (by assumption), ?_⟩
  | refine ⟨_, by assumption, ?_⟩
  | refine s_ite1 (by assumption) ?_ | refine s_ite0 (by assumption) ?_))
local macro_rules | `(tactic| walk_at "go") => `(tactic| repeat walk_at "go1")
/-! the law's turns: the tree -/
def endM (Dr Sm R1 LO OB : FM) : DSM :=
  (dSeq (dIfS (dNot (dTru (dCall Sm (dCons (dKeep (dEither 8 (dCallN OB (dConsN (dKeep (dVar 3)) (dConsN (dKeep (dVar 5)) (dEndN 8)))) (dCall OB (dCons (dKeep (dVar 3)) (dCons (dKeep (dVar 5)) (dCons (dKeep (dVar 8)) dNil)))))) (dCons (dKeep (dEither 7 (dCallN LO (dConsN (dKeep (dVar 2)) (dConsN (dKeep (dVar 6)) (dEndN 7)))) (dCall LO (dCons (dKeep (dVar 2)) (dCons (dKeep (dVar 6)) (dCons (dKeep (dVar 7)) dNil)))))) dNil)))))
  (dRet (dC (.bl false)))
  dNext)
  (ringM Dr Sm R1))
def tailM (Dr Sm R1 LO OB : FM) : DSM :=
  (dSeq (dSet 9 (dEither 7 (dCallN LO (dConsN (dKeep (dVar 2)) (dConsN (dKeep (dVar 6)) (dEndN 7)))) (dCall LO (dCons (dKeep (dVar 2)) (dCons (dKeep (dVar 6)) (dCons (dKeep (dVar 7)) dNil))))))
  (dSeq (dSet 10 (dEither 8 (dCallN OB (dConsN (dKeep (dVar 3)) (dConsN (dKeep (dVar 5)) (dEndN 8)))) (dCall OB (dCons (dKeep (dVar 3)) (dCons (dKeep (dVar 5)) (dCons (dKeep (dVar 8)) dNil))))))
  (dSeq (dIfS (dOr (dNot (dTru (dCallN1 Sm 10 (dKeep (dVar 9))))) (dB (dOp mNe (dCB mList (dCons (dVar 8) dNil)) (dVar 7))))
  (dRet (dC (.bl false)))
  dNext)
  (dSeq (dApp 10 (dC (.int 99)))
  (dSeq (dIfS (dNot (dTru (dCall Sm (dCons (dKeep (dEither 8 (dCallN OB (dConsN (dKeep (dVar 3)) (dConsN (dKeep (dVar 5)) (dEndN 8)))) (dCall OB (dCons (dKeep (dVar 3)) (dCons (dKeep (dVar 5)) (dCons (dKeep (dVar 8)) dNil)))))) (dCons (dKeep (dVar 9)) dNil)))))
  (dRet (dC (.bl false)))
  dNext)
  (dSeq (dIfS (dTru (dIsi .list (dVar 8)))
  (dSeq (dPut 7 (dC (.int 0)) (dOp mMod (dCB mInt (dCons (dOp mAdd (dOp mIx (dVar 7) (dC (.int 0))) (dC (.int 1))) dNil)) (dOp mIx (dVar 2) (dC (.int 1)))))
  (dPut 8 (dC (.int 0)) (dOp mIx (dVar 7) (dC (.int 0)))))
  dNext)
  (endM Dr Sm R1 LO OB)))))))
theorem ints_flat (l : List Int) : (l.map DL.D.int).all flatD = true := by
  rw [List.all_eq_true]
  intro d hd
  obtain ⟨i, _, rfl⟩ := List.mem_map.mp hd
  rfl
theorem told_length (mv : List Mv) (es ls : List Int) (ini : List Pl) (x : Pl) : (told mv es ls ini x).length ≤ ini.length + 1 := by
  unfold told
  have := objs_length mv ls ini 0
  rw [List.length_append]
  split <;> simp <;> omega
theorem ix0 {n : Nat} (h : 0 < n) : L2.ixN n 0 = some 0 := by
  unfold L2.ixN
  rw [if_pos (by omega), if_pos (by omega)]
  rfl
/-- the labels passed: a list of one's own, or a tuple -/
def P8 (ls : List Int) (y : Option Nv) : Prop := y = some (.own (ls.map DL.D.int)) ∨ y = some (.val (.tup (ls.map DL.D.int)))
section
variable {a : Ad} {Dr Sm R1 LO OB : FM} {E : DEn} {x0 y4 : Option Nv} {n m : Int} {mv : List Mv} {es ls : List Int} {sm se : List DL.D} {t : Tr} {ini : List Pl} {x : Pl}
theorem end_part (hD : ∀ rs Q, F_draw rs Q → Dr rs Q) (hS : ∀ rs Q, F_same 200 rs Q → Sm rs Q) (hR : ∀ rs Q, F_ring a rs Q → R1 rs Q) (hL : ∀ rs Q, F_lobj rs Q → LO rs Q) (hO : ∀ rs Q, F_obj a rs Q → OB rs Q) (ok : okM n m mv es) (s1 : SortedOf (mv.map mvD) sm) (s2 : SortedOf (es.map DL.D.int) se)
    (ht : Tr.places t = ini ++ [x]) (hp : ∀ y ∈ ini ++ [x], plOk ls.length y) (l1 : ls.length = ini.length + 1) (l2 : ls.length ≤ 100)
    (y8 y9 y10 y11 : Option Nv) (h8 : P8 ls y8) (q : ∀ y6 y7 y8 y9 y10 y11, E.nx [x0, some .pool, some (.val (machL n m mv es)), some (.val (machD a n m sm se)), y4, some (.val t.d), y6, y7, y8, y9, y10, y11, none]) :
    endM Dr Sm R1 LO OB E [x0, some .pool, some (.val (machL n m mv es)), some (.val (machD a n m sm se)), y4, some (.val t.d), some (.val (.lst ((ini ++ [x]).map plD))), some (.own (ls.map DL.D.int)), y8, y9, y10, y11, none] := by
  unfold endM
  have lt : (told mv es ls ini x).length ≤ 1000 := Nat.le_trans (told_length ..) (by omega)
  rcases h8 with rfl | rfl
  · refine ⟨rfl, hO _ _ ⟨n, m, mv, es, sm, se, t, ini, x, _, ls, rfl, ht, .inl rfl, s1, s2, sm_few s1 ok.2.2.1, hp, l1, by omega, ints_flat _, ?_⟩⟩
    refine ⟨rfl, hL _ _ ⟨n, m, mv, es, ini, x, _, ls, rfl, .inl rfl, hp, l1, by omega, ints_flat _, ?_⟩⟩
    refine ⟨rfl, hS _ _ (same_ints lt ?_)⟩
    refine ⟨true, rfl, ?_⟩
    refine s_iteF ?_
    exact ring_part hD hS hR ok s1 _ _ _ _ _ _ _ _ fun _ _ _ _ _ => q _ _ _ _ _ _
  · refine ⟨rfl, hO _ _ ⟨n, m, mv, es, sm, se, t, ini, x, _, ls, rfl, ht, .inr rfl, s1, s2, sm_few s1 ok.2.2.1, hp, l1, by omega, ?_⟩⟩
    refine ⟨rfl, hL _ _ ⟨n, m, mv, es, ini, x, _, ls, rfl, .inl rfl, hp, l1, by omega, ints_flat _, ?_⟩⟩
    refine ⟨rfl, hS _ _ (same_ints lt ?_)⟩
    refine ⟨true, rfl, ?_⟩
    refine s_iteF ?_
    exact ring_part hD hS hR ok s1 _ _ _ _ _ _ _ _ fun _ _ _ _ _ => q _ _ _ _ _ _
theorem tail_part (hD : ∀ rs Q, F_draw rs Q → Dr rs Q) (hS : ∀ rs Q, F_same 200 rs Q → Sm rs Q) (hR : ∀ rs Q, F_ring a rs Q → R1 rs Q) (hL : ∀ rs Q, F_lobj rs Q → LO rs Q) (hO : ∀ rs Q, F_obj a rs Q → OB rs Q) (ok : okM n m mv es) (s1 : SortedOf (mv.map mvD) sm) (s2 : SortedOf (es.map DL.D.int) se)
    (ht : Tr.places t = ini ++ [x]) (hp : ∀ y ∈ ini ++ [x], plOk ls.length y) (l1 : ls.length = ini.length + 1) (l2 : ls.length ≤ 100)
    (y8 y9 y10 y11 : Option Nv) (h8 : P8 ls y8) (q : ∀ y6 y7 y8 y9 y10 y11, E.nx [x0, some .pool, some (.val (machL n m mv es)), some (.val (machD a n m sm se)), y4, some (.val t.d), y6, y7, y8, y9, y10, y11, none]) :
    tailM Dr Sm R1 LO OB E [x0, some .pool, some (.val (machL n m mv es)), some (.val (machD a n m sm se)), y4, some (.val t.d), some (.own ((ini ++ [x]).map plD)), some (.own (ls.map DL.D.int)), y8, y9, y10, y11, none] := by
  unfold tailM
  have lt : (told mv es ls ini x).length ≤ 1000 := Nat.le_trans (told_length ..) (by omega)
  have lt' : ((told mv es ls ini x).map DL.D.int).length < sizeLine := by rw [List.length_map]; unfold sizeLine; omega
  have m0 : (0 : Int) < m := by have := ok.2.1.1; omega
  have n0 : 0 < ls.length := by omega
  rcases h8 with rfl | rfl
  · refine ⟨rfl, hL _ _ ⟨n, m, mv, es, ini, x, _, ls, rfl, .inl rfl, hp, l1, by omega, ints_flat _, ?_⟩⟩
    refine ⟨rfl, hO _ _ ⟨n, m, mv, es, sm, se, t, ini, x, _, ls, rfl, ht, .inl rfl, s1, s2, sm_few s1 ok.2.2.1, hp, l1, by omega, ints_flat _, ?_⟩⟩
    refine ⟨⟨_, rfl⟩, rfl, hS _ _ (same_ints lt ⟨rfl, ?_⟩)⟩
    refine ⟨true, rfl, ?_⟩
    refine s_iteF ?_
    refine ⟨⟨ints_ok ls, ints_ok ls⟩, ?_⟩
    refine s_ite0 (ne_ints ls) ?_
    refine ⟨lt', ?_⟩
    refine ⟨rfl, hO _ _ ⟨n, m, mv, es, sm, se, t, ini, x, _, ls, rfl, ht, .inl rfl, s1, s2, sm_few s1 ok.2.2.1, hp, l1, by omega, ints_flat _, ?_⟩⟩
    refine ⟨rfl, hS _ _ (same_ints lt ?_)⟩
    refine ⟨true, rfl, ?_⟩
    refine s_iteF ?_
    refine ⟨true, rfl, ?_⟩
    refine ⟨true, rfl, ?_⟩
    refine s_iteT ?_
    refine ⟨_, atI_lab (p := 0) ⟨by omega, by omega⟩, ?_⟩
    refine ⟨_, rfl, m0, ?_⟩
    have mp (l : List DL.D) (e : l.length = ls.length) : L2.ixN l.length 0 = some 0 := ix0 (by omega)
    refine ⟨⟨_, rfl⟩, 0, mp _ (by rw [List.length_map]), ?_⟩
    have eS : (ls.map DL.D.int).set 0 (.int ((atZ ls 0 + 1) % m)) = (ls.set 0 ((atZ ls 0 + 1) % m)).map DL.D.int := by rw [List.map_set]
    have gS : L2.atI ((ls.map DL.D.int).set 0 (.int ((atZ ls 0 + 1) % m))) 0 = some (.int ((atZ ls 0 + 1) % m)) := DL.atI_nat (k := 0) (by rw [List.getElem?_set_self (by rw [List.length_map]; omega)])
    refine ⟨_, gS, ?_⟩
    refine ⟨⟨_, rfl⟩, 0, mp _ (by rw [List.length_map]), ?_⟩
    have fin := fun y9 y10 y11 => end_part (E := E) (x0 := x0) (y4 := y4) (ls := ls.set 0 ((atZ ls 0 + 1) % m)) hD hS hR hL hO ok s1 s2 ht (by rw [List.length_set]; exact hp) (by rw [List.length_set]; exact l1) (by rw [List.length_set]; exact l2) _ y9 y10 y11 (.inl rfl) q
    rw [← eS] at fin
    exact fin _ _ _
  · refine ⟨rfl, hL _ _ ⟨n, m, mv, es, ini, x, _, ls, rfl, .inl rfl, hp, l1, by omega, ints_flat _, ?_⟩⟩
    refine ⟨rfl, hO _ _ ⟨n, m, mv, es, sm, se, t, ini, x, _, ls, rfl, ht, .inr rfl, s1, s2, sm_few s1 ok.2.2.1, hp, l1, by omega, ?_⟩⟩
    refine ⟨⟨_, rfl⟩, rfl, hS _ _ (same_ints lt ⟨rfl, ?_⟩)⟩
    refine ⟨true, rfl, ?_⟩
    refine s_iteF ?_
    refine ⟨⟨ints_ok ls, ints_ok ls⟩, ?_⟩
    refine s_ite0 (ne_ints ls) ?_
    refine ⟨lt', ?_⟩
    refine ⟨rfl, hO _ _ ⟨n, m, mv, es, sm, se, t, ini, x, _, ls, rfl, ht, .inr rfl, s1, s2, sm_few s1 ok.2.2.1, hp, l1, by omega, ?_⟩⟩
    refine ⟨rfl, hS _ _ (same_ints lt ?_)⟩
    refine ⟨true, rfl, ?_⟩
    refine s_iteF ?_
    refine ⟨false, rfl, ?_⟩
    refine ⟨false, rfl, ?_⟩
    refine s_iteF ?_
    exact end_part hD hS hR hL hO ok s1 s2 ht hp l1 l2 _ _ _ _ (.inr rfl) q
end
end G
end

section
set_option Elab.async false
set_option linter.all false
set_option maxRecDepth 100000
set_option maxHeartbeats 4000000
namespace G
open PySem PySem.Spec PyProof.Rows L2 DL
local macro_rules | `(tactic| walk_at "ok1") => `(tactic| first | exact okD_int _ | exact okD_bl _ | exact okD_non | exact okD_str (by assumption) | assumption)
local macro_rules | `(tactic| walk_at "go1") => `(tactic| ((conv => whnf); first
  | refine s_iteT ?_ | refine s_iteF ?_
  | refine ⟨⟨by walk_at "ok1", by walk_at "ok1"⟩, ?_⟩
  | refine ⟨_, rfl, ?_⟩
  | refine ⟨rfl, ?_⟩
  | refine ⟨Nat.le_of_ble_eq_true rfl, ?_⟩
  | refine ⟨_, isB_tuple (by assumption), ?_⟩
  | refine ⟨_, isB_list (by assumption), ?_⟩
  | refine ⟨_, isB_bool (by assumption), ?_⟩
  | refine ⟨_, isB_int (by assumption), ?_⟩
  | refine ⟨_, isB_str (by assumption), ?_⟩
  | refine ⟨_, by assumption, ?_⟩
  | refine s_ite1 (by assumption) ?_ | refine s_ite0 (by assumption) ?_))
local macro_rules | `(tactic| walk_at "go") => `(tactic| repeat walk_at "go1")
def turnM (Dr SH NO Sm R1 LO OB : FM) : DSM :=
  (dSeq (dSet 5 (dCall SH (dCons (dKeep (dVar 1)) (dCons (dKeep (dOp mAdd (dOp mIx (dVar 2) (dC (.int 0))) (dCB mInt (dCons (dOp mEq (dCall Dr (dCons (dKeep (dVar 1)) (dCons (dKeep (dC (.int 6))) dNil))) (dC (.int 0))) dNil)))) (dCons (dKeep (dC (.int 9))) dNil)))))
  (dSeq (dSet 6 (dCall NO (dCons (dKeep (dVar 5)) dNil)))
  (dSeq (dSet 7 (dLc (dRng1 (dCB mLen (dCons (dVar 6) dNil))) [12] (dName 12) dYes (dCall Dr (dCons (dKeep (dVar 1)) (dCons (dKeep (dOp mIx (dVar 2) (dC (.int 1)))) dNil)))))
  (dSeq (dSet 8 (dPick (dCB mList (dCons (dVar 7) dNil)) (dCB mTuple (dCons (dVar 7) dNil)) (dCall Dr (dCons (dKeep (dVar 1)) (dCons (dKeep (dC (.int 2))) dNil)))))
  (tailM Dr Sm R1 LO OB)))))
section
variable {a : Ad} {Dr SH NO Sm R1 LO OB : FM} {E : DEn} {x0 : Option Nv} {n m : Int} {mv : List Mv} {es : List Int} {sm se : List DL.D}
theorem turn_part (hD : ∀ rs Q, F_draw rs Q → Dr rs Q) (hH : ∀ rs Q, F_shape 20 rs Q → SH rs Q) (hN : ∀ rs Q, F_lnodes 20 rs Q → NO rs Q) (hS : ∀ rs Q, F_same 200 rs Q → Sm rs Q) (hR : ∀ rs Q, F_ring a rs Q → R1 rs Q) (hL : ∀ rs Q, F_lobj rs Q → LO rs Q) (hO : ∀ rs Q, F_obj a rs Q → OB rs Q) (ok : okM n m mv es) (s1 : SortedOf (mv.map mvD) sm) (s2 : SortedOf (es.map DL.D.int) se)
    (y4 y5 y6 y7 y8 y9 y10 y11 : Option Nv) (q : ∀ y5 y6 y7 y8 y9 y10 y11, E.nx [x0, some .pool, some (.val (machL n m mv es)), some (.val (machD a n m sm se)), y4, y5, y6, y7, y8, y9, y10, y11, none]) :
    turnM Dr SH NO Sm R1 LO OB E [x0, some .pool, some (.val (machL n m mv es)), some (.val (machD a n m sm se)), y4, y5, y6, y7, y8, y9, y10, y11, none] := by
  unfold turnM
  have n1 : 1 ≤ n := ok.1.1
  have n2 : n ≤ 4 := ok.1.2
  have m1 : 1 ≤ m := ok.2.1.1
  have m2 : m ≤ 8 := ok.2.1.2
  refine ⟨_, rfl, ?_⟩
  refine ⟨rfl, hD _ _ ⟨6, rfl, cdivI (by decide) (by decide), fun u u1 u2 => ?_⟩⟩
  refine ⟨⟨okD_int _, okD_int _⟩, ?_⟩
  have cn : CDivW 0 (n + (if eqD (.int u) (.int 0) then 1 else 0)) := by
    cases eqD (.int u) (.int 0) with
    | true => exact cdivI (by show 0 < n + 1; omega) (by show n + 1 ≤ 5000; omega)
    | false => exact cdivI (by show 0 < n + 0; omega) (by show n + 0 ≤ 5000; omega)
  refine ⟨rfl, hH _ _ ⟨n + (if eqD (.int u) (.int 0) then 1 else 0), 9, rfl, cn, cdivI (by decide) (by decide), by decide, by decide, fun t ht sz => ?_⟩⟩
  obtain ⟨ini, x, ep, es'⟩ := places_split t
  have po := places_ok ht
  refine ⟨rfl, hN _ _ ⟨t, rfl, by omega, by omega, ?_⟩⟩
  rw [ep] at po ⊢
  have len : ((ini ++ [x]).map plD).length = t.size := by rw [List.length_map, List.length_append, List.length_singleton, es']
  refine ⟨by omega, by omega, rfl, ?_⟩
  refine lc_draws 12 _ m [x0, some .pool, some (.val (machL n m mv es)), some (.val (machD a n m sm se)), y4, some (.val t.d), some (.own ((ini ++ [x]).map plD)), y7, y8, y9, y10, y11, none] _ [] none (by rw [rangeD_len, List.length_nil, len]; omega) (fun d Q qq => ?_) fun y ls ll hl => ?_
  · refine ⟨_, rfl, ?_⟩
    refine ⟨rfl, hD _ _ ⟨m, rfl, cdivI (by omega) (by omega), fun v v1 v2 => ?_⟩⟩
    exact qq v v1 v2
  · rw [List.nil_append]
    rw [rangeD_len, len] at ll
    have ll : ls.length = t.size := by omega
    rw [← ll] at po
    refine ⟨rfl, hD _ _ ⟨2, rfl, cdivI (by decide) (by decide), fun v v1 v2 => ?_⟩⟩
    have fin := fun y8 h8 => tail_part (E := E) (x0 := x0) (y4 := y4) hD hS hR hL hO ok s1 s2 ep po (by omega) (by omega) y8 y9 y10 y11 h8 (q (some (.val t.d)))
    rcases (show v = 0 ∨ v = 1 by omega) with rfl | rfl
    · refine .inl ⟨rfl, ?_⟩
      exact fin _ (.inl rfl)
    · refine .inr ⟨rfl, ?_⟩
      exact fin _ (.inr rfl)
theorem turns (hD : ∀ rs Q, F_draw rs Q → Dr rs Q) (hH : ∀ rs Q, F_shape 20 rs Q → SH rs Q) (hN : ∀ rs Q, F_lnodes 20 rs Q → NO rs Q) (hS : ∀ rs Q, F_same 200 rs Q → Sm rs Q) (hR : ∀ rs Q, F_ring a rs Q → R1 rs Q) (hL : ∀ rs Q, F_lobj rs Q → LO rs Q) (hO : ∀ rs Q, F_obj a rs Q → OB rs Q) (ok : okM n m mv es) (s1 : SortedOf (mv.map mvD) sm) (s2 : SortedOf (es.map DL.D.int) se) :
    ∀ (ds : List DL.D) (y4 y5 y6 y7 y8 y9 y10 y11 : Option Nv) (_ : ∀ y4 y5 y6 y7 y8 y9 y10 y11, E.nx [x0, some .pool, some (.val (machL n m mv es)), some (.val (machD a n m sm se)), y4, y5, y6, y7, y8, y9, y10, y11, none]),
    dLoop (dName 4) (turnM Dr SH NO Sm R1 LO OB) E ds [x0, some .pool, some (.val (machL n m mv es)), some (.val (machD a n m sm se)), y4, y5, y6, y7, y8, y9, y10, y11, none]
  | [], y4, y5, y6, y7, y8, y9, y10, y11, q => q y4 y5 y6 y7 y8 y9 y10 y11
  | d :: ds, y4, y5, y6, y7, y8, y9, y10, y11, q => by
    refine turn_part hD hH hN hS hR hL hO ok s1 s2 _ _ _ _ _ _ _ _ fun y5 y6 y7 y8 y9 y10 y11 => ?_
    exact turns hD hH hN hS hR hL hO ok s1 s2 ds _ _ _ _ _ _ _ _ q
end
def F_law : FM := fun rs Qd => ∃ ns : List Int, rs = [.val (.scr ns)] ∧ Qd (.val (.bl true))
def F_pool : FM := fun rs Qd => ∃ (ns : List Int) (b : Int), rs = [.val (.scr ns), .val (.int b)] ∧ Qd (.own [.lst (ns.map D.int), .int 0, .int 0, .int 1, .int 0, .int b])
theorem pool_body : ∀ rs Qd, F_pool rs Qd → bodyF 2 m_law_pool rs Qd := by
  rintro rs Qd ⟨ns, b, rfl, q⟩
  unfold m_law_pool
  show dRet _ _ [some (.val _), some (.val _)]
  walk_at "go"
  exact q
theorem law_body {a : Ad} : ∀ rs Qd, F_law rs Qd → bodyF 13 (m_law a F_pool F_draw F_machine (F_made a) (F_shape 20) (F_lnodes 20) F_lobj (F_obj a) (F_same 200) (F_ring a) (F_meq a)) rs Qd := by
  rintro rs Qd ⟨ns, rfl, q⟩
  refine ⟨rfl, ns, 0, rfl, ?_⟩
  refine ⟨⟨ns, rfl⟩, Int.le_refl 0, rfl, ?_⟩
  refine ⟨rfl, 4, rfl, cdivI (by decide) (by decide), fun u u1 u2 => ?_⟩
  refine ⟨rfl, 5, rfl, cdivI (by decide) (by decide), fun v v1 v2 => ?_⟩
  refine ⟨rfl, 1 + u, 1 + v, 12, rfl, cdivI (by omega) (by omega), cdivI (by omega) (by omega), by omega, by decide, by decide, fun mv es l1 h1 h2 h3 => ?_⟩
  have ok : okM (1 + u) (1 + v) mv es := okM_of (by omega) (by omega) (by omega) (by omega) l1 h1 h2 h3
  refine ⟨rfl, _, _, mv, es, rfl, ok, fun sm se s1 s2 => ?_⟩
  refine ⟨by decide, by decide, ?_⟩
  refine turns (fun _ _ h => h) (fun _ _ h => h) (fun _ _ h => h) (fun _ _ h => h) (fun _ _ h => h) (fun _ _ h => h) (fun _ _ h => h) ok s1 s2 (rangeD 0 3) none none none none none none none none fun y4 y5 y6 y7 y8 y9 y10 y11 => ?_
  refine ⟨rfl, _, _, mv, es, rfl, ok, fun sm' se' s3 s4 => ?_⟩
  have e1 : sm = sm' := SortedOf.one (s := .tup mvS) mv_fit s1 s3
  have e2 : se = se' := SortedOf.one (s := .int) (fun d hd => by
    obtain ⟨i, _, rfl⟩ := List.mem_map.mp hd
    rfl) s2 s4
  subst e1 e2
  refine ⟨⟨rfl, rfl⟩, _, _, sm, se, rfl, sm_ok s1, se_ok s2, ?_⟩
  exact q
end G
end

section
set_option Elab.async false
set_option linter.all false
set_option maxRecDepth 100000
set_option maxHeartbeats 4000000
namespace G
open PySem PySem.Spec PyProof.Rows L2 DL
open Evl (Ex)
section
variable {P : Program} {w : World} {K : PySem.W.Frag} {mg : Str → Option Value} {base : Heap} {a : Ad}
abbrev PP := PySem.Challenge.pw_someobjects_k10_who_objects
theorem draw_okT (T : Tx K mg a) : FnOk P w K mg base CX0 1 a.f_law_draw a.d_law_draw ["pool", "size"] (spF K 2 F_draw) := dr_ok T.f_law_draw.fn T.n_len T.n_int
theorem pool_ok (T : Tx K mg a) : FnOk P w K mg base CX0 1 a.f_law_pool a.d_law_pool ["script", "budget"] (spF K 2 F_pool) := (b_law_pool T (k := 0)).imp (spF.imp pool_body)
theorem same_ok (T : Tx K mg a) : ∀ k, FnOk P w K mg base CX0 k a.f_law_same a.d_law_same ["actual", "due"] (spF K 2 (F_same k))
  | 0 => .none (noFm fun rs Qd ⟨a, d, _, h, _⟩ => by omega)
  | k + 1 => (b_law_same T (same_ok T k)).imp (spF.imp (same_body fun _ _ h => h))
theorem mf_ok (T : Tx K mg a) : FnOk P w K mg base CX0 1 a.f_move_fits a.d_move_fits ["letters", "labels", "letter", "children", "label"] (spF K 5 F_mf) := (b_move_fits T (k := 0)).imp (spF.imp mf_body)
theorem cp_ok (T : Tx K mg a) : FnOk PP w K mg base (L2N.CX PP w) 2 a.f_check_parts a.d_check_parts ["letters", "labels", "moves", "ends"] (spE K 4 F_cp) := (b_check_parts T (mf_ok T)).imp (spE.imp (cp_body a fun _ _ h => h))
theorem minit_ok (T : Tx K mg a) : FnOk PP w K mg base (L2N.CX PP w) 3 a.f_Machine_initdd a.d_Machine_initdd ["self", "letters", "labels", "moves", "ends"] (spM K 5 (F_minit a)) := (b_Machine_initdd T (cp_ok T)).imp (spM.imp (minit_body a fun _ _ _ h => h))
theorem made_ok (T : Tx K mg a) : FnOk PP w K mg base CX0 5 a.f_law_made a.d_law_made ["machine"] (spF K 1 (F_made a)) := (b_law_made T (minit_ok T)).imp (spF.imp (made_body a fun _ _ _ _ h => h))
theorem km_ok (T : Tx K mg a) : FnOk P w K mg base CX0 1 a.f_known_moves a.d_known_moves ["machine"] (spF K 1 (F_km a)) := (b_known_moves T (k := 0)).imp (spF.imp (km_body a))
theorem wm_ok (T : Tx K mg a) : FnOk P w K mg base CX0 2 a.f_without_move a.d_without_move ["machine", "people", "labels"] (spF K 3 (F_wm a)) := (b_without_move T (km_ok T)).imp (spF.imp (wm_body fun _ _ h => h))
theorem obj_ok (T : Tx K mg a) : FnOk P w K mg base CX0 3 a.f_objectors a.d_objectors ["machine", "tree", "labels"] (spF K 3 (F_obj a)) := (b_objectors T (people_ok T) (wm_ok T)).imp (spF.imp (obj_body (fun _ _ h => h) fun _ _ h => h))
theorem ring_ok (T : Tx K mg a) : FnOk P w K mg base CX0 3 a.f_ring_objectors a.d_ring_objectors ["machine", "ring", "labels"] (spF K 3 (F_ring a)) := (b_ring_objectors T (wm_ok T)).imp (spF.imp (ring_body fun _ _ h => h))
theorem lobj_ok (T : Tx K mg a) : FnOk P w K mg base CX0 1 a.f_law_objects a.d_law_objects ["machine", "nodes", "labels"] (spF K 3 F_lobj) := (b_law_objects T (k := 0)).imp (spF.imp lobj_body)
theorem meq_ok (T : Tx K mg a) : FnOk P w K mg base CX0 1 a.f_Machine_eqdd a.d_Machine_eqdd ["self", "other"] (spF K 2 (F_meq a)) := (b_Machine_eqdd T (k := 0)).imp (spF.imp (meq_body a))
end
def spLaw (K : PySem.W.Frag) : Sp := fun vs H Q _ => ∃ (a : Addr) (ns : List Int), vs = [.ref a] ∧ SqL K H a (ns.map V.int) ∧ ∀ H', Q (.bl true) H'
theorem law_ok {w : World} {K : PySem.W.Frag} {mg : Str → Option Value} {base : Heap} {a : Ad} (T : Tx K mg a) : FnOk PP w K mg base CX0 231 a.f_law a.d_law ["script"] (spLaw K) := by
  have key := (b_law (w := w) (base := base) T (k := 230) ((pool_ok T).up (by decide)) ((draw_okT T).up (by decide)) ((mach_ok T (draw_okT T)).up (by decide)) ((made_ok T).up (by decide)) ((shape_ok T (draw_okT T) 20).up (by decide)) ((lnodes_ok T 20).up (by decide)) ((lobj_ok T).up (by decide)) ((obj_ok T).up (by decide)) ((same_ok T 200).up (by decide)) ((ring_ok T).up (by decide)) ((meq_ok T).up (by decide))).imp (spF.imp (F' := F_law) law_body)
  refine key.imp fun vs H Q E ⟨p, ns, e, hS, q⟩ => ?_
  subst e
  refine ⟨H, none, [.val (.scr ns)], fun r => r = .val (.bl true), Ex.refl _, (fun _ z => by cases z), .val (.scr hS) .nil, rfl, ⟨ns, rfl, rfl⟩, fun v H' S' r d hr => ?_⟩
  subst hr
  have z := d.ret
  have z : Rep K S' v (.bl true) := z
  cases z
  exact q H'
end G
end

section
set_option Elab.async false
set_option linter.all false
set_option maxRecDepth 100000
set_option maxHeartbeats 4000000
namespace G
open PySem PySem.Spec PySem.W PyProof.Rows L2 DL
theorem all_mk {w : World} {K : PySem.W.Frag} {h : Heap} {mg : Str → Option Value} {fa : Addr} (X : K.In h) (G : h.Ns mainGlobals mg) (hfa : mg "law" = some (.ref fa))
    {od_people_of an_people_of : Option Addr} {sl_people_of : Array (Option Value)} {oc_people_of kV_people_of dc_people_of pm_people_of cd_people_of ct_people_of : Value} {f_people_of : Addr} {od_nodes_from_below an_nodes_from_below : Option Addr} {sl_nodes_from_below : Array (Option Value)} {oc_nodes_from_below kV_nodes_from_below dc_nodes_from_below pm_nodes_from_below cd_nodes_from_below ct_nodes_from_below : Value} {f_nodes_from_below : Addr} {od_move_fits an_move_fits : Option Addr} {sl_move_fits : Array (Option Value)} {oc_move_fits kV_move_fits dc_move_fits pm_move_fits cd_move_fits ct_move_fits : Value} {f_move_fits : Addr} {od_check_parts an_check_parts : Option Addr} {sl_check_parts : Array (Option Value)} {oc_check_parts kV_check_parts dc_check_parts pm_check_parts cd_check_parts ct_check_parts : Value} {f_check_parts : Addr} {od_Machine_initdd an_Machine_initdd : Option Addr} {sl_Machine_initdd : Array (Option Value)} {oc_Machine_initdd kV_Machine_initdd dc_Machine_initdd pm_Machine_initdd cd_Machine_initdd ct_Machine_initdd : Value} {f_Machine_initdd : Addr} {od_Machine_eqdd an_Machine_eqdd : Option Addr} {sl_Machine_eqdd : Array (Option Value)} {oc_Machine_eqdd kV_Machine_eqdd dc_Machine_eqdd pm_Machine_eqdd cd_Machine_eqdd ct_Machine_eqdd : Value} {f_Machine_eqdd : Addr} {od_known_moves an_known_moves : Option Addr} {sl_known_moves : Array (Option Value)} {oc_known_moves kV_known_moves dc_known_moves pm_known_moves cd_known_moves ct_known_moves : Value} {f_known_moves : Addr} {od_without_move an_without_move : Option Addr} {sl_without_move : Array (Option Value)} {oc_without_move kV_without_move dc_without_move pm_without_move cd_without_move ct_without_move : Value} {f_without_move : Addr} {od_objectors an_objectors : Option Addr} {sl_objectors : Array (Option Value)} {oc_objectors kV_objectors dc_objectors pm_objectors cd_objectors ct_objectors : Value} {f_objectors : Addr} {od_ring_objectors an_ring_objectors : Option Addr} {sl_ring_objectors : Array (Option Value)} {oc_ring_objectors kV_ring_objectors dc_ring_objectors pm_ring_objectors cd_ring_objectors ct_ring_objectors : Value} {f_ring_objectors : Addr} {od_law_draw an_law_draw : Option Addr} {sl_law_draw : Array (Option Value)} {oc_law_draw kV_law_draw dc_law_draw pm_law_draw cd_law_draw ct_law_draw : Value} {f_law_draw : Addr} {od_law_same an_law_same : Option Addr} {sl_law_same : Array (Option Value)} {oc_law_same kV_law_same dc_law_same pm_law_same cd_law_same ct_law_same : Value} {f_law_same : Addr} {od_law_machine an_law_machine : Option Addr} {sl_law_machine : Array (Option Value)} {oc_law_machine kV_law_machine dc_law_machine pm_law_machine cd_law_machine ct_law_machine : Value} {f_law_machine : Addr} {od_law_tree an_law_tree : Option Addr} {sl_law_tree : Array (Option Value)} {oc_law_tree kV_law_tree dc_law_tree pm_law_tree cd_law_tree ct_law_tree : Value} {f_law_tree : Addr} {od_law_nodes an_law_nodes : Option Addr} {sl_law_nodes : Array (Option Value)} {oc_law_nodes kV_law_nodes dc_law_nodes pm_law_nodes cd_law_nodes ct_law_nodes : Value} {f_law_nodes : Addr} {od_law_row_tree an_law_row_tree : Option Addr} {sl_law_row_tree : Array (Option Value)} {oc_law_row_tree kV_law_row_tree dc_law_row_tree pm_law_row_tree cd_law_row_tree ct_law_row_tree : Value} {f_law_row_tree : Addr} {od_law_shape an_law_shape : Option Addr} {sl_law_shape : Array (Option Value)} {oc_law_shape kV_law_shape dc_law_shape pm_law_shape cd_law_shape ct_law_shape : Value} {f_law_shape : Addr} {od_law_objects an_law_objects : Option Addr} {sl_law_objects : Array (Option Value)} {oc_law_objects kV_law_objects dc_law_objects pm_law_objects cd_law_objects ct_law_objects : Value} {f_law_objects : Addr} {od_law_made an_law_made : Option Addr} {sl_law_made : Array (Option Value)} {oc_law_made kV_law_made dc_law_made pm_law_made cd_law_made ct_law_made : Value} {f_law_made : Addr} {od_law_pool an_law_pool : Option Addr} {sl_law_pool : Array (Option Value)} {oc_law_pool kV_law_pool dc_law_pool pm_law_pool cd_law_pool ct_law_pool : Value} {f_law_pool : Addr} {od_law an_law : Option Addr} {sl_law : Array (Option Value)} {oc_law kV_law dc_law pm_law cd_law ct_law : Value} {f_law : Addr} {t_MOST_CHILDREN : Tok} {t_MOST_LETTERS : Tok} {t_MOST_LABELS : Tok} {Machine : Addr} {x_BadMachine : Addr} {i_BadMachine : Addr} {nm_BadMachine q_BadMachine : Str} {N_BadMachine : Addr} {bs_BadMachine bm_BadMachine : List Value} {sn_BadMachine : List Str} {sub_BadMachine : List Value} {ab_BadMachine : Bool} {col_BadMachine : Option Bool} {dd_BadMachine : Option Addr} {m0_BadMachine m1_BadMachine m2_BadMachine m3_BadMachine m5_BadMachine : Option Value} {xoc_BadMachine xdoc_BadMachine xpm_BadMachine xct_BadMachine ccl_BadMachine xcl_BadMachine : Value} {xod_BadMachine xan_BadMachine cdd_BadMachine cld_BadMachine : Option Addr} {xqu_BadMachine : Str} {cda_BadMachine cc_BadMachine : Addr} {osl_BadMachine ccs_BadMachine csl_BadMachine : Array (Option Value)} {vs_BadMachine : Array Value} {file_BadMachine : Str} {tf_BadMachine : Tok} {p1_BadMachine p2_BadMachine p0_BadMachine p1a_BadMachine p2a_BadMachine p3_BadMachine p4_BadMachine p5_BadMachine p6_BadMachine p7_BadMachine p8_BadMachine q1_BadMachine q2_BadMachine q3_BadMachine q4_BadMachine : Pos}
    (n_all : PySem.W.nsIn K mainGlobals "all" = some none)
    (n_bool : PySem.W.nsIn K mainGlobals "bool" = some none)
    (n_enumerate : PySem.W.nsIn K mainGlobals "enumerate" = some none)
    (n_int : PySem.W.nsIn K mainGlobals "int" = some none)
    (n_isinstance : PySem.W.nsIn K mainGlobals "isinstance" = some none)
    (n_len : PySem.W.nsIn K mainGlobals "len" = some none)
    (n_list : PySem.W.nsIn K mainGlobals "list" = some none)
    (n_range : PySem.W.nsIn K mainGlobals "range" = some none)
    (n_set : PySem.W.nsIn K mainGlobals "set" = some none)
    (n_sorted : PySem.W.nsIn K mainGlobals "sorted" = some none)
    (n_str : PySem.W.nsIn K mainGlobals "str" = some none)
    (n_super : PySem.W.nsIn K mainGlobals "super" = some none)
    (n_tuple : PySem.W.nsIn K mainGlobals "tuple" = some none)
    (c_MOST_CHILDREN : PySem.W.nsIn K mainGlobals "MOST_CHILDREN" = some (some (.int 2 t_MOST_CHILDREN)))
    (c_MOST_LETTERS : PySem.W.nsIn K mainGlobals "MOST_LETTERS" = some (some (.int 4 t_MOST_LETTERS)))
    (c_MOST_LABELS : PySem.W.nsIn K mainGlobals "MOST_LABELS" = some (some (.int 8 t_MOST_LABELS)))
    (gC_Machine : PySem.W.nsIn K mainGlobals "Machine" = some (some (.ref Machine)))
    (gX_BadMachine : PySem.W.nsIn K mainGlobals "BadMachine" = some (some (.ref x_BadMachine)))
    (a_people_of : PySem.W.nsIn K mainGlobals "people_of" = some (some (.ref f_people_of)))
    (l_people_of : K.lookup f_people_of = some ⟨oc_people_of, od_people_of, .func (PySem.W.fnOf "people_of" "people_of" (defArgs s_people_of) (defBody s_people_of) (defScope s_people_of) .none kV_people_of dc_people_of pm_people_of an_people_of cd_people_of ct_people_of), sl_people_of⟩)
    (c_people_of : PySem.W.codeIn K cd_people_of "people_of" = true)
    (k_people_of : PySem.W.keepIn K (.ref f_people_of) = true)
    (a_nodes_from_below : PySem.W.nsIn K mainGlobals "nodes_from_below" = some (some (.ref f_nodes_from_below)))
    (l_nodes_from_below : K.lookup f_nodes_from_below = some ⟨oc_nodes_from_below, od_nodes_from_below, .func (PySem.W.fnOf "nodes_from_below" "nodes_from_below" (defArgs s_nodes_from_below) (defBody s_nodes_from_below) (defScope s_nodes_from_below) .none kV_nodes_from_below dc_nodes_from_below pm_nodes_from_below an_nodes_from_below cd_nodes_from_below ct_nodes_from_below), sl_nodes_from_below⟩)
    (c_nodes_from_below : PySem.W.codeIn K cd_nodes_from_below "nodes_from_below" = true)
    (k_nodes_from_below : PySem.W.keepIn K (.ref f_nodes_from_below) = true)
    (a_move_fits : PySem.W.nsIn K mainGlobals "move_fits" = some (some (.ref f_move_fits)))
    (l_move_fits : K.lookup f_move_fits = some ⟨oc_move_fits, od_move_fits, .func (PySem.W.fnOf "move_fits" "move_fits" (defArgs s_move_fits) (defBody s_move_fits) (defScope s_move_fits) .none kV_move_fits dc_move_fits pm_move_fits an_move_fits cd_move_fits ct_move_fits), sl_move_fits⟩)
    (c_move_fits : PySem.W.codeIn K cd_move_fits "move_fits" = true)
    (k_move_fits : PySem.W.keepIn K (.ref f_move_fits) = true)
    (a_check_parts : PySem.W.nsIn K mainGlobals "check_parts" = some (some (.ref f_check_parts)))
    (l_check_parts : K.lookup f_check_parts = some ⟨oc_check_parts, od_check_parts, .func (PySem.W.fnOf "check_parts" "check_parts" (defArgs s_check_parts) (defBody s_check_parts) (defScope s_check_parts) .none kV_check_parts dc_check_parts pm_check_parts an_check_parts cd_check_parts ct_check_parts), sl_check_parts⟩)
    (c_check_parts : PySem.W.codeIn K cd_check_parts "check_parts" = true)
    (k_check_parts : PySem.W.keepIn K (.ref f_check_parts) = true)
    (a_Machine_initdd : PySem.W.findIn K (.ref Machine) "__init__" = some (some (.ref f_Machine_initdd)))
    (i_Machine_initdd : PySem.W.isFn K (.ref f_Machine_initdd) = true)
    (l_Machine_initdd : K.lookup f_Machine_initdd = some ⟨oc_Machine_initdd, od_Machine_initdd, .func (PySem.W.fnOf "__init__" "Machine.__init__" (defArgs s_Machine_initdd) (defBody s_Machine_initdd) (defScope s_Machine_initdd) .none kV_Machine_initdd dc_Machine_initdd pm_Machine_initdd an_Machine_initdd cd_Machine_initdd ct_Machine_initdd), sl_Machine_initdd⟩)
    (c_Machine_initdd : PySem.W.codeIn K cd_Machine_initdd "Machine.__init__" = true)
    (k_Machine_initdd : PySem.W.keepIn K (.ref f_Machine_initdd) = true)
    (a_Machine_eqdd : PySem.W.findIn K (.ref Machine) "__eq__" = some (some (.ref f_Machine_eqdd)))
    (i_Machine_eqdd : PySem.W.isFn K (.ref f_Machine_eqdd) = true)
    (l_Machine_eqdd : K.lookup f_Machine_eqdd = some ⟨oc_Machine_eqdd, od_Machine_eqdd, .func (PySem.W.fnOf "__eq__" "Machine.__eq__" (defArgs s_Machine_eqdd) (defBody s_Machine_eqdd) (defScope s_Machine_eqdd) .none kV_Machine_eqdd dc_Machine_eqdd pm_Machine_eqdd an_Machine_eqdd cd_Machine_eqdd ct_Machine_eqdd), sl_Machine_eqdd⟩)
    (c_Machine_eqdd : PySem.W.codeIn K cd_Machine_eqdd "Machine.__eq__" = true)
    (k_Machine_eqdd : PySem.W.keepIn K (.ref f_Machine_eqdd) = true)
    (a_known_moves : PySem.W.nsIn K mainGlobals "known_moves" = some (some (.ref f_known_moves)))
    (l_known_moves : K.lookup f_known_moves = some ⟨oc_known_moves, od_known_moves, .func (PySem.W.fnOf "known_moves" "known_moves" (defArgs s_known_moves) (defBody s_known_moves) (defScope s_known_moves) .none kV_known_moves dc_known_moves pm_known_moves an_known_moves cd_known_moves ct_known_moves), sl_known_moves⟩)
    (c_known_moves : PySem.W.codeIn K cd_known_moves "known_moves" = true)
    (k_known_moves : PySem.W.keepIn K (.ref f_known_moves) = true)
    (a_without_move : PySem.W.nsIn K mainGlobals "without_move" = some (some (.ref f_without_move)))
    (l_without_move : K.lookup f_without_move = some ⟨oc_without_move, od_without_move, .func (PySem.W.fnOf "without_move" "without_move" (defArgs s_without_move) (defBody s_without_move) (defScope s_without_move) .none kV_without_move dc_without_move pm_without_move an_without_move cd_without_move ct_without_move), sl_without_move⟩)
    (c_without_move : PySem.W.codeIn K cd_without_move "without_move" = true)
    (k_without_move : PySem.W.keepIn K (.ref f_without_move) = true)
    (a_objectors : PySem.W.nsIn K mainGlobals "objectors" = some (some (.ref f_objectors)))
    (l_objectors : K.lookup f_objectors = some ⟨oc_objectors, od_objectors, .func (PySem.W.fnOf "objectors" "objectors" (defArgs s_objectors) (defBody s_objectors) (defScope s_objectors) .none kV_objectors dc_objectors pm_objectors an_objectors cd_objectors ct_objectors), sl_objectors⟩)
    (c_objectors : PySem.W.codeIn K cd_objectors "objectors" = true)
    (k_objectors : PySem.W.keepIn K (.ref f_objectors) = true)
    (a_ring_objectors : PySem.W.nsIn K mainGlobals "ring_objectors" = some (some (.ref f_ring_objectors)))
    (l_ring_objectors : K.lookup f_ring_objectors = some ⟨oc_ring_objectors, od_ring_objectors, .func (PySem.W.fnOf "ring_objectors" "ring_objectors" (defArgs s_ring_objectors) (defBody s_ring_objectors) (defScope s_ring_objectors) .none kV_ring_objectors dc_ring_objectors pm_ring_objectors an_ring_objectors cd_ring_objectors ct_ring_objectors), sl_ring_objectors⟩)
    (c_ring_objectors : PySem.W.codeIn K cd_ring_objectors "ring_objectors" = true)
    (k_ring_objectors : PySem.W.keepIn K (.ref f_ring_objectors) = true)
    (a_law_draw : PySem.W.nsIn K mainGlobals "_law_draw" = some (some (.ref f_law_draw)))
    (l_law_draw : K.lookup f_law_draw = some ⟨oc_law_draw, od_law_draw, .func (PySem.W.fnOf "_law_draw" "_law_draw" (defArgs s_law_draw) (defBody s_law_draw) (defScope s_law_draw) .none kV_law_draw dc_law_draw pm_law_draw an_law_draw cd_law_draw ct_law_draw), sl_law_draw⟩)
    (c_law_draw : PySem.W.codeIn K cd_law_draw "_law_draw" = true)
    (k_law_draw : PySem.W.keepIn K (.ref f_law_draw) = true)
    (a_law_same : PySem.W.nsIn K mainGlobals "_law_same" = some (some (.ref f_law_same)))
    (l_law_same : K.lookup f_law_same = some ⟨oc_law_same, od_law_same, .func (PySem.W.fnOf "_law_same" "_law_same" (defArgs s_law_same) (defBody s_law_same) (defScope s_law_same) .none kV_law_same dc_law_same pm_law_same an_law_same cd_law_same ct_law_same), sl_law_same⟩)
    (c_law_same : PySem.W.codeIn K cd_law_same "_law_same" = true)
    (k_law_same : PySem.W.keepIn K (.ref f_law_same) = true)
    (a_law_machine : PySem.W.nsIn K mainGlobals "_law_machine" = some (some (.ref f_law_machine)))
    (l_law_machine : K.lookup f_law_machine = some ⟨oc_law_machine, od_law_machine, .func (PySem.W.fnOf "_law_machine" "_law_machine" (defArgs s_law_machine) (defBody s_law_machine) (defScope s_law_machine) .none kV_law_machine dc_law_machine pm_law_machine an_law_machine cd_law_machine ct_law_machine), sl_law_machine⟩)
    (c_law_machine : PySem.W.codeIn K cd_law_machine "_law_machine" = true)
    (k_law_machine : PySem.W.keepIn K (.ref f_law_machine) = true)
    (a_law_tree : PySem.W.nsIn K mainGlobals "_law_tree" = some (some (.ref f_law_tree)))
    (l_law_tree : K.lookup f_law_tree = some ⟨oc_law_tree, od_law_tree, .func (PySem.W.fnOf "_law_tree" "_law_tree" (defArgs s_law_tree) (defBody s_law_tree) (defScope s_law_tree) .none kV_law_tree dc_law_tree pm_law_tree an_law_tree cd_law_tree ct_law_tree), sl_law_tree⟩)
    (c_law_tree : PySem.W.codeIn K cd_law_tree "_law_tree" = true)
    (k_law_tree : PySem.W.keepIn K (.ref f_law_tree) = true)
    (a_law_nodes : PySem.W.nsIn K mainGlobals "_law_nodes" = some (some (.ref f_law_nodes)))
    (l_law_nodes : K.lookup f_law_nodes = some ⟨oc_law_nodes, od_law_nodes, .func (PySem.W.fnOf "_law_nodes" "_law_nodes" (defArgs s_law_nodes) (defBody s_law_nodes) (defScope s_law_nodes) .none kV_law_nodes dc_law_nodes pm_law_nodes an_law_nodes cd_law_nodes ct_law_nodes), sl_law_nodes⟩)
    (c_law_nodes : PySem.W.codeIn K cd_law_nodes "_law_nodes" = true)
    (k_law_nodes : PySem.W.keepIn K (.ref f_law_nodes) = true)
    (a_law_row_tree : PySem.W.nsIn K mainGlobals "_law_row_tree" = some (some (.ref f_law_row_tree)))
    (l_law_row_tree : K.lookup f_law_row_tree = some ⟨oc_law_row_tree, od_law_row_tree, .func (PySem.W.fnOf "_law_row_tree" "_law_row_tree" (defArgs s_law_row_tree) (defBody s_law_row_tree) (defScope s_law_row_tree) .none kV_law_row_tree dc_law_row_tree pm_law_row_tree an_law_row_tree cd_law_row_tree ct_law_row_tree), sl_law_row_tree⟩)
    (c_law_row_tree : PySem.W.codeIn K cd_law_row_tree "_law_row_tree" = true)
    (k_law_row_tree : PySem.W.keepIn K (.ref f_law_row_tree) = true)
    (a_law_shape : PySem.W.nsIn K mainGlobals "_law_shape" = some (some (.ref f_law_shape)))
    (l_law_shape : K.lookup f_law_shape = some ⟨oc_law_shape, od_law_shape, .func (PySem.W.fnOf "_law_shape" "_law_shape" (defArgs s_law_shape) (defBody s_law_shape) (defScope s_law_shape) .none kV_law_shape dc_law_shape pm_law_shape an_law_shape cd_law_shape ct_law_shape), sl_law_shape⟩)
    (c_law_shape : PySem.W.codeIn K cd_law_shape "_law_shape" = true)
    (k_law_shape : PySem.W.keepIn K (.ref f_law_shape) = true)
    (a_law_objects : PySem.W.nsIn K mainGlobals "_law_objects" = some (some (.ref f_law_objects)))
    (l_law_objects : K.lookup f_law_objects = some ⟨oc_law_objects, od_law_objects, .func (PySem.W.fnOf "_law_objects" "_law_objects" (defArgs s_law_objects) (defBody s_law_objects) (defScope s_law_objects) .none kV_law_objects dc_law_objects pm_law_objects an_law_objects cd_law_objects ct_law_objects), sl_law_objects⟩)
    (c_law_objects : PySem.W.codeIn K cd_law_objects "_law_objects" = true)
    (k_law_objects : PySem.W.keepIn K (.ref f_law_objects) = true)
    (a_law_made : PySem.W.nsIn K mainGlobals "_law_made" = some (some (.ref f_law_made)))
    (l_law_made : K.lookup f_law_made = some ⟨oc_law_made, od_law_made, .func (PySem.W.fnOf "_law_made" "_law_made" (defArgs s_law_made) (defBody s_law_made) (defScope s_law_made) .none kV_law_made dc_law_made pm_law_made an_law_made cd_law_made ct_law_made), sl_law_made⟩)
    (c_law_made : PySem.W.codeIn K cd_law_made "_law_made" = true)
    (k_law_made : PySem.W.keepIn K (.ref f_law_made) = true)
    (a_law_pool : PySem.W.nsIn K mainGlobals "_law_pool" = some (some (.ref f_law_pool)))
    (l_law_pool : K.lookup f_law_pool = some ⟨oc_law_pool, od_law_pool, .func (PySem.W.fnOf "_law_pool" "_law_pool" (defArgs s_law_pool) (defBody s_law_pool) (defScope s_law_pool) .none kV_law_pool dc_law_pool pm_law_pool an_law_pool cd_law_pool ct_law_pool), sl_law_pool⟩)
    (c_law_pool : PySem.W.codeIn K cd_law_pool "_law_pool" = true)
    (k_law_pool : PySem.W.keepIn K (.ref f_law_pool) = true)
    (a_law : PySem.W.nsIn K mainGlobals "law" = some (some (.ref f_law)))
    (l_law : K.lookup f_law = some ⟨oc_law, od_law, .func (PySem.W.fnOf "law" "law" (defArgs s_law) (defBody s_law) (defScope s_law) .none kV_law dc_law pm_law an_law cd_law ct_law), sl_law⟩)
    (c_law : PySem.W.codeIn K cd_law "law" = true)
    (k_law : PySem.W.keepIn K (.ref f_law) = true)
    (pg_Machine : PySem.W.plainGet K Machine Str.empty = true)
    (hd_Machine : PySem.W.hasDictIn K Machine = true)
    (po_Machine : PySem.W.plainOver K Machine = true)
    (sa_Machine : PySem.W.findIn K (.ref Machine) "__setattr__" = some (some (.builtin "object.__setattr__")))
    (no_Machine_ends : PySem.W.findIn K (.ref Machine) "ends" = some none)
    (no_Machine_labels : PySem.W.findIn K (.ref Machine) "labels" = some none)
    (no_Machine_letters : PySem.W.findIn K (.ref Machine) "letters" = some none)
    (no_Machine_moves : PySem.W.findIn K (.ref Machine) "moves" = some none)
    (mk_Machine : PySem.W.makesIn K Machine = true)
    (kp_Machine : PySem.W.keepIn K (.ref Machine) = true)
    (oha_Machine : PySem.W.findIn K (.ref Machine) "__class__" = some (some (.builtin "object.__class__")))
    (ohn_Machine : PySem.W.specialIn K (.builtin "object.__class__") "__get__" = some (some (.builtin "getset_descriptor.__get__")))
    (oht_Machine : PySem.W.takesIn K (.builtin "object.__class__") = some true)
    (ohm_Machine : PySem.W.mroIn K Machine (.type "object") = some true)
    (okit_Machine : PySem.W.kitOne K (.ref Machine) (.ref Machine) = some true)
    (xL_BadMachine : K.lookup x_BadMachine = some (excClassObj nm_BadMachine q_BadMachine x_BadMachine N_BadMachine bs_BadMachine bm_BadMachine true sn_BadMachine sub_BadMachine ab_BadMachine col_BadMachine dd_BadMachine m0_BadMachine m1_BadMachine m2_BadMachine m3_BadMachine m5_BadMachine "ValueError.__new__"))
    (xR_BadMachine : PySem.HandSPX.refsVE bm_BadMachine = true)
    (xsa_BadMachine : PySem.W.findIn K (.ref x_BadMachine) "__setattr__" = some (some (.builtin "object.__setattr__")))
    (xga_BadMachine : PySem.W.findIn K (.ref x_BadMachine) "__getattribute__" = some (some (.builtin "BaseException.__getattribute__")))
    (xgg_BadMachine : PySem.W.findIn K (.ref x_BadMachine) "__getattr__" = some none)
    (xnoN_BadMachine : PySem.W.findIn K (.ref x_BadMachine) "what" = some none)
    (xiC_BadMachine : PySem.W.findIn K (.ref x_BadMachine) "__init__" = some (some (.ref i_BadMachine)))
    (xtC_BadMachine : PySem.W.typeIn K (.ref i_BadMachine) = some (.type "function"))
    (xkC_BadMachine : PySem.W.keepIn K (.ref x_BadMachine) = true)
    (xexC_BadMachine : PySem.W.subIn K (.ref x_BadMachine) (.type "BaseException") = some true)
    (xveC_BadMachine : PySem.W.subIn K (.ref x_BadMachine) (.type "ValueError") = some true)
    (xtyC_BadMachine : PySem.W.typeIn K (.ref x_BadMachine) = some (.type "type"))
    (xhdC_BadMachine : PySem.W.hasDictIn K x_BadMachine = true)
    (xms_BadMachine : PySem.W.mroIn K x_BadMachine (.ref x_BadMachine) = some true)
    (xsu_BadMachine : PySem.W.ks_superIn K x_BadMachine x_BadMachine "__init__" = some (some (.builtin "ValueError.__init__")))
    (xop_BadMachine : PySem.W.nsIn K cStatics "thirdparty.any" = some none)
    (xF_BadMachine : K.lookup i_BadMachine = some ⟨xoc_BadMachine, xod_BadMachine, .func (ksFn "__init__" xqu_BadMachine (EX.eArgs "what" p1_BadMachine p2_BadMachine) (EX.eBody "what" "a machine cannot have these " p0_BadMachine p1a_BadMachine p2a_BadMachine p3_BadMachine p4_BadMachine p5_BadMachine p6_BadMachine p7_BadMachine p8_BadMachine q1_BadMachine q2_BadMachine q3_BadMachine q4_BadMachine) (EX.eScope "what") .none .none xdoc_BadMachine xpm_BadMachine xan_BadMachine (.ref cda_BadMachine) xct_BadMachine cc_BadMachine), osl_BadMachine⟩)
    (xC_BadMachine : PySem.W.codeIn K (.ref cda_BadMachine) xqu_BadMachine = true)
    (xP_BadMachine : (p2a_BadMachine.endLine == p7_BadMachine.line) = true)
    (xO_BadMachine : K.lookup cda_BadMachine = some ⟨ccl_BadMachine, cdd_BadMachine, .fields vs_BadMachine, ccs_BadMachine⟩)
    (xV_BadMachine : vs_BadMachine[2]? = some (.str file_BadMachine tf_BadMachine))
    (xN_BadMachine : ((PySem.Challenge.pw_someobjects_k10_who_objects.main.file : Str) == file_BadMachine) = true)
    (xG_BadMachine : K.lookup cc_BadMachine = some ⟨xcl_BadMachine, cld_BadMachine, .cell (some (.ref x_BadMachine)), csl_BadMachine⟩)
    (xT_BadMachine : (PySem.Challenge.pw_someobjects_k10_who_objects.main.scope.names.lookup ("super" : Str)).isSome = false) :
    ∃ fd : FuncData, (∀ (s : Shared) (v : Value), BindsTo s fd ⟨[v], []⟩ [("script", v)]) ∧ ∀ base : Heap, K.In base → base.Ns mainGlobals mg → FnOk (PySem.Challenge.rw_someobjects_k10_who_objects).prog w K mg base CX0 231 fa fd ["script"] (spLaw K) := by
  have e : f_law = fa := Value.ref.inj (Option.some.inj ((PySem.W.mg_of X G a_law).symm.trans hfa))
  subst e
  have F_people_of := fun_mk (st := s_people_of) l_people_of c_people_of k_people_of
  have b_people_of := F_people_of.binds (ps := ["tree"]) fun _ _ _ _ _ _ us hl => match us, hl with | [_], _ => rfl
  have F_nodes_from_below := fun_mk (st := s_nodes_from_below) l_nodes_from_below c_nodes_from_below k_nodes_from_below
  have b_nodes_from_below := F_nodes_from_below.binds (ps := ["tree"]) fun _ _ _ _ _ _ us hl => match us, hl with | [_], _ => rfl
  have F_move_fits := fun_mk (st := s_move_fits) l_move_fits c_move_fits k_move_fits
  have b_move_fits := F_move_fits.binds (ps := ["letters", "labels", "letter", "children", "label"]) fun _ _ _ _ _ _ us hl => match us, hl with | [_, _, _, _, _], _ => rfl
  have F_check_parts := fun_mk (st := s_check_parts) l_check_parts c_check_parts k_check_parts
  have b_check_parts := F_check_parts.binds (ps := ["letters", "labels", "moves", "ends"]) fun _ _ _ _ _ _ us hl => match us, hl with | [_, _, _, _], _ => rfl
  have F_Machine_initdd := fun_mk (st := s_Machine_initdd) l_Machine_initdd c_Machine_initdd k_Machine_initdd
  have b_Machine_initdd := F_Machine_initdd.binds (ps := ["self", "letters", "labels", "moves", "ends"]) fun _ _ _ _ _ _ us hl => match us, hl with | [_, _, _, _, _], _ => rfl
  have F_Machine_eqdd := fun_mk (st := s_Machine_eqdd) l_Machine_eqdd c_Machine_eqdd k_Machine_eqdd
  have b_Machine_eqdd := F_Machine_eqdd.binds (ps := ["self", "other"]) fun _ _ _ _ _ _ us hl => match us, hl with | [_, _], _ => rfl
  have F_known_moves := fun_mk (st := s_known_moves) l_known_moves c_known_moves k_known_moves
  have b_known_moves := F_known_moves.binds (ps := ["machine"]) fun _ _ _ _ _ _ us hl => match us, hl with | [_], _ => rfl
  have F_without_move := fun_mk (st := s_without_move) l_without_move c_without_move k_without_move
  have b_without_move := F_without_move.binds (ps := ["machine", "people", "labels"]) fun _ _ _ _ _ _ us hl => match us, hl with | [_, _, _], _ => rfl
  have F_objectors := fun_mk (st := s_objectors) l_objectors c_objectors k_objectors
  have b_objectors := F_objectors.binds (ps := ["machine", "tree", "labels"]) fun _ _ _ _ _ _ us hl => match us, hl with | [_, _, _], _ => rfl
  have F_ring_objectors := fun_mk (st := s_ring_objectors) l_ring_objectors c_ring_objectors k_ring_objectors
  have b_ring_objectors := F_ring_objectors.binds (ps := ["machine", "ring", "labels"]) fun _ _ _ _ _ _ us hl => match us, hl with | [_, _, _], _ => rfl
  have F_law_draw := fun_mk (st := s_law_draw) l_law_draw c_law_draw k_law_draw
  have b_law_draw := F_law_draw.binds (ps := ["pool", "size"]) fun _ _ _ _ _ _ us hl => match us, hl with | [_, _], _ => rfl
  have F_law_same := fun_mk (st := s_law_same) l_law_same c_law_same k_law_same
  have b_law_same := F_law_same.binds (ps := ["actual", "due"]) fun _ _ _ _ _ _ us hl => match us, hl with | [_, _], _ => rfl
  have F_law_machine := fun_mk (st := s_law_machine) l_law_machine c_law_machine k_law_machine
  have b_law_machine := F_law_machine.binds (ps := ["pool", "letters", "labels", "many"]) fun _ _ _ _ _ _ us hl => match us, hl with | [_, _, _, _], _ => rfl
  have F_law_tree := fun_mk (st := s_law_tree) l_law_tree c_law_tree k_law_tree
  have b_law_tree := F_law_tree.binds (ps := ["pool", "letters", "left"]) fun _ _ _ _ _ _ us hl => match us, hl with | [_, _, _], _ => rfl
  have F_law_nodes := fun_mk (st := s_law_nodes) l_law_nodes c_law_nodes k_law_nodes
  have b_law_nodes := F_law_nodes.binds (ps := ["tree"]) fun _ _ _ _ _ _ us hl => match us, hl with | [_], _ => rfl
  have F_law_row_tree := fun_mk (st := s_law_row_tree) l_law_row_tree c_law_row_tree k_law_row_tree
  have b_law_row_tree := F_law_row_tree.binds (ps := ["row"]) fun _ _ _ _ _ _ us hl => match us, hl with | [_], _ => rfl
  have F_law_shape := fun_mk (st := s_law_shape) l_law_shape c_law_shape k_law_shape
  have b_law_shape := F_law_shape.binds (ps := ["pool", "letters", "most"]) fun _ _ _ _ _ _ us hl => match us, hl with | [_, _, _], _ => rfl
  have F_law_objects := fun_mk (st := s_law_objects) l_law_objects c_law_objects k_law_objects
  have b_law_objects := F_law_objects.binds (ps := ["machine", "nodes", "labels"]) fun _ _ _ _ _ _ us hl => match us, hl with | [_, _, _], _ => rfl
  have F_law_made := fun_mk (st := s_law_made) l_law_made c_law_made k_law_made
  have b_law_made := F_law_made.binds (ps := ["machine"]) fun _ _ _ _ _ _ us hl => match us, hl with | [_], _ => rfl
  have F_law_pool := fun_mk (st := s_law_pool) l_law_pool c_law_pool k_law_pool
  have b_law_pool := F_law_pool.binds (ps := ["script", "budget"]) fun _ _ _ _ _ _ us hl => match us, hl with | [_, _], _ => rfl
  have F_law := fun_mk (st := s_law) l_law c_law k_law
  have b_law := F_law.binds (ps := ["script"]) fun _ _ _ _ _ _ us hl => match us, hl with | [_], _ => rfl
  have T : Tx K mg { f_people_of := f_people_of, d_people_of := PySem.W.fnOf "people_of" "people_of" (defArgs s_people_of) (defBody s_people_of) (defScope s_people_of) .none kV_people_of dc_people_of pm_people_of an_people_of cd_people_of ct_people_of, f_nodes_from_below := f_nodes_from_below, d_nodes_from_below := PySem.W.fnOf "nodes_from_below" "nodes_from_below" (defArgs s_nodes_from_below) (defBody s_nodes_from_below) (defScope s_nodes_from_below) .none kV_nodes_from_below dc_nodes_from_below pm_nodes_from_below an_nodes_from_below cd_nodes_from_below ct_nodes_from_below, f_move_fits := f_move_fits, d_move_fits := PySem.W.fnOf "move_fits" "move_fits" (defArgs s_move_fits) (defBody s_move_fits) (defScope s_move_fits) .none kV_move_fits dc_move_fits pm_move_fits an_move_fits cd_move_fits ct_move_fits, f_check_parts := f_check_parts, d_check_parts := PySem.W.fnOf "check_parts" "check_parts" (defArgs s_check_parts) (defBody s_check_parts) (defScope s_check_parts) .none kV_check_parts dc_check_parts pm_check_parts an_check_parts cd_check_parts ct_check_parts, f_Machine_initdd := f_Machine_initdd, d_Machine_initdd := PySem.W.fnOf "__init__" "Machine.__init__" (defArgs s_Machine_initdd) (defBody s_Machine_initdd) (defScope s_Machine_initdd) .none kV_Machine_initdd dc_Machine_initdd pm_Machine_initdd an_Machine_initdd cd_Machine_initdd ct_Machine_initdd, f_Machine_eqdd := f_Machine_eqdd, d_Machine_eqdd := PySem.W.fnOf "__eq__" "Machine.__eq__" (defArgs s_Machine_eqdd) (defBody s_Machine_eqdd) (defScope s_Machine_eqdd) .none kV_Machine_eqdd dc_Machine_eqdd pm_Machine_eqdd an_Machine_eqdd cd_Machine_eqdd ct_Machine_eqdd, f_known_moves := f_known_moves, d_known_moves := PySem.W.fnOf "known_moves" "known_moves" (defArgs s_known_moves) (defBody s_known_moves) (defScope s_known_moves) .none kV_known_moves dc_known_moves pm_known_moves an_known_moves cd_known_moves ct_known_moves, f_without_move := f_without_move, d_without_move := PySem.W.fnOf "without_move" "without_move" (defArgs s_without_move) (defBody s_without_move) (defScope s_without_move) .none kV_without_move dc_without_move pm_without_move an_without_move cd_without_move ct_without_move, f_objectors := f_objectors, d_objectors := PySem.W.fnOf "objectors" "objectors" (defArgs s_objectors) (defBody s_objectors) (defScope s_objectors) .none kV_objectors dc_objectors pm_objectors an_objectors cd_objectors ct_objectors, f_ring_objectors := f_ring_objectors, d_ring_objectors := PySem.W.fnOf "ring_objectors" "ring_objectors" (defArgs s_ring_objectors) (defBody s_ring_objectors) (defScope s_ring_objectors) .none kV_ring_objectors dc_ring_objectors pm_ring_objectors an_ring_objectors cd_ring_objectors ct_ring_objectors, f_law_draw := f_law_draw, d_law_draw := PySem.W.fnOf "_law_draw" "_law_draw" (defArgs s_law_draw) (defBody s_law_draw) (defScope s_law_draw) .none kV_law_draw dc_law_draw pm_law_draw an_law_draw cd_law_draw ct_law_draw, f_law_same := f_law_same, d_law_same := PySem.W.fnOf "_law_same" "_law_same" (defArgs s_law_same) (defBody s_law_same) (defScope s_law_same) .none kV_law_same dc_law_same pm_law_same an_law_same cd_law_same ct_law_same, f_law_machine := f_law_machine, d_law_machine := PySem.W.fnOf "_law_machine" "_law_machine" (defArgs s_law_machine) (defBody s_law_machine) (defScope s_law_machine) .none kV_law_machine dc_law_machine pm_law_machine an_law_machine cd_law_machine ct_law_machine, f_law_tree := f_law_tree, d_law_tree := PySem.W.fnOf "_law_tree" "_law_tree" (defArgs s_law_tree) (defBody s_law_tree) (defScope s_law_tree) .none kV_law_tree dc_law_tree pm_law_tree an_law_tree cd_law_tree ct_law_tree, f_law_nodes := f_law_nodes, d_law_nodes := PySem.W.fnOf "_law_nodes" "_law_nodes" (defArgs s_law_nodes) (defBody s_law_nodes) (defScope s_law_nodes) .none kV_law_nodes dc_law_nodes pm_law_nodes an_law_nodes cd_law_nodes ct_law_nodes, f_law_row_tree := f_law_row_tree, d_law_row_tree := PySem.W.fnOf "_law_row_tree" "_law_row_tree" (defArgs s_law_row_tree) (defBody s_law_row_tree) (defScope s_law_row_tree) .none kV_law_row_tree dc_law_row_tree pm_law_row_tree an_law_row_tree cd_law_row_tree ct_law_row_tree, f_law_shape := f_law_shape, d_law_shape := PySem.W.fnOf "_law_shape" "_law_shape" (defArgs s_law_shape) (defBody s_law_shape) (defScope s_law_shape) .none kV_law_shape dc_law_shape pm_law_shape an_law_shape cd_law_shape ct_law_shape, f_law_objects := f_law_objects, d_law_objects := PySem.W.fnOf "_law_objects" "_law_objects" (defArgs s_law_objects) (defBody s_law_objects) (defScope s_law_objects) .none kV_law_objects dc_law_objects pm_law_objects an_law_objects cd_law_objects ct_law_objects, f_law_made := f_law_made, d_law_made := PySem.W.fnOf "_law_made" "_law_made" (defArgs s_law_made) (defBody s_law_made) (defScope s_law_made) .none kV_law_made dc_law_made pm_law_made an_law_made cd_law_made ct_law_made, f_law_pool := f_law_pool, d_law_pool := PySem.W.fnOf "_law_pool" "_law_pool" (defArgs s_law_pool) (defBody s_law_pool) (defScope s_law_pool) .none kV_law_pool dc_law_pool pm_law_pool an_law_pool cd_law_pool ct_law_pool, f_law := f_law, d_law := PySem.W.fnOf "law" "law" (defArgs s_law) (defBody s_law) (defScope s_law) .none kV_law dc_law pm_law an_law cd_law ct_law, t_MOST_CHILDREN := t_MOST_CHILDREN, t_MOST_LETTERS := t_MOST_LETTERS, t_MOST_LABELS := t_MOST_LABELS, Machine := Machine, i_BadMachine := i_BadMachine, x_BadMachine := x_BadMachine } := {
    n_all := PySem.W.mg_none_of X G n_all,
    n_bool := PySem.W.mg_none_of X G n_bool,
    n_enumerate := PySem.W.mg_none_of X G n_enumerate,
    n_int := PySem.W.mg_none_of X G n_int,
    n_isinstance := PySem.W.mg_none_of X G n_isinstance,
    n_len := PySem.W.mg_none_of X G n_len,
    n_list := PySem.W.mg_none_of X G n_list,
    n_range := PySem.W.mg_none_of X G n_range,
    n_set := PySem.W.mg_none_of X G n_set,
    n_sorted := PySem.W.mg_none_of X G n_sorted,
    n_str := PySem.W.mg_none_of X G n_str,
    n_super := PySem.W.mg_none_of X G n_super,
    n_tuple := PySem.W.mg_none_of X G n_tuple,
    f_people_of := ⟨F_people_of, PySem.W.mg_of X G a_people_of, b_people_of⟩,
    f_nodes_from_below := ⟨F_nodes_from_below, PySem.W.mg_of X G a_nodes_from_below, b_nodes_from_below⟩,
    f_move_fits := ⟨F_move_fits, PySem.W.mg_of X G a_move_fits, b_move_fits⟩,
    f_check_parts := ⟨F_check_parts, PySem.W.mg_of X G a_check_parts, b_check_parts⟩,
    f_Machine_initdd := ⟨F_Machine_initdd, ⟨a_Machine_initdd, i_Machine_initdd, k_Machine_initdd⟩, b_Machine_initdd⟩,
    f_Machine_eqdd := ⟨F_Machine_eqdd, ⟨a_Machine_eqdd, i_Machine_eqdd, k_Machine_eqdd⟩, b_Machine_eqdd⟩,
    f_known_moves := ⟨F_known_moves, PySem.W.mg_of X G a_known_moves, b_known_moves⟩,
    f_without_move := ⟨F_without_move, PySem.W.mg_of X G a_without_move, b_without_move⟩,
    f_objectors := ⟨F_objectors, PySem.W.mg_of X G a_objectors, b_objectors⟩,
    f_ring_objectors := ⟨F_ring_objectors, PySem.W.mg_of X G a_ring_objectors, b_ring_objectors⟩,
    f_law_draw := ⟨F_law_draw, PySem.W.mg_of X G a_law_draw, b_law_draw⟩,
    f_law_same := ⟨F_law_same, PySem.W.mg_of X G a_law_same, b_law_same⟩,
    f_law_machine := ⟨F_law_machine, PySem.W.mg_of X G a_law_machine, b_law_machine⟩,
    f_law_tree := ⟨F_law_tree, PySem.W.mg_of X G a_law_tree, b_law_tree⟩,
    f_law_nodes := ⟨F_law_nodes, PySem.W.mg_of X G a_law_nodes, b_law_nodes⟩,
    f_law_row_tree := ⟨F_law_row_tree, PySem.W.mg_of X G a_law_row_tree, b_law_row_tree⟩,
    f_law_shape := ⟨F_law_shape, PySem.W.mg_of X G a_law_shape, b_law_shape⟩,
    f_law_objects := ⟨F_law_objects, PySem.W.mg_of X G a_law_objects, b_law_objects⟩,
    f_law_made := ⟨F_law_made, PySem.W.mg_of X G a_law_made, b_law_made⟩,
    f_law_pool := ⟨F_law_pool, PySem.W.mg_of X G a_law_pool, b_law_pool⟩,
    f_law := ⟨F_law, PySem.W.mg_of X G a_law, b_law⟩,
    c_MOST_CHILDREN := PySem.W.mg_of X G c_MOST_CHILDREN,
    c_MOST_LETTERS := PySem.W.mg_of X G c_MOST_LETTERS,
    c_MOST_LABELS := PySem.W.mg_of X G c_MOST_LABELS,
    cl_Machine := ⟨pg_Machine, hd_Machine, po_Machine, sa_Machine⟩,
    no_Machine_ends := no_Machine_ends,
    no_Machine_labels := no_Machine_labels,
    no_Machine_letters := no_Machine_letters,
    no_Machine_moves := no_Machine_moves,
    mk_Machine := ⟨mk_Machine, a_Machine_initdd, i_Machine_initdd, kp_Machine⟩,
    gC_Machine := PySem.W.mg_of X G gC_Machine,
    o_Machine := { ha := oha_Machine, hn := ohn_Machine, ht := oht_Machine, hm := ohm_Machine, kit := okit_Machine },
    gX_BadMachine := PySem.W.mg_of X G gX_BadMachine,
    x_BadMachine := { cls := ⟨_, _, _, _, _, _, _, _, _, _, _, _, _, _, _, xL_BadMachine, xR_BadMachine⟩, sa := xsa_BadMachine, ga := xga_BadMachine, gg := xgg_BadMachine, noN := xnoN_BadMachine, iC := xiC_BadMachine, tC := xtC_BadMachine, kC := xkC_BadMachine, exC := xexC_BadMachine, veC := xveC_BadMachine, tyC := xtyC_BadMachine, hdC := xhdC_BadMachine, ms := xms_BadMachine, su := xsu_BadMachine, op := xop_BadMachine, fn := ⟨_, _, _, _, _, _, _, _, _, _, _, _, _, _, _, _, _, _, _, _, _, _, _, _, _, xF_BadMachine, xC_BadMachine, xP_BadMachine, ⟨_, _, _, _, _, _, xO_BadMachine, xV_BadMachine, xN_BadMachine⟩, _, _, _, xG_BadMachine⟩, topS := xT_BadMachine } }
  exact ⟨_, fun s v => .of_eq rfl, fun base _ _ => law_ok T⟩
theorem walk {q : Program} {loose : List Str} {XP : (Str → Option Value) → Heap → Prop} {YP : World → Heap → Prop} {d : DefRec} {K : Params → PySem.W.Frag} (hdf : d.params.defaults = [])
    (hY : ∀ (w : World) (h : Heap), YP w h → (K w.params).In h)
    (F : ∀ (w : World) (mg : Str → Option Value) (fa : Addr) (h : Heap), (K w.params).In h → h.Ns mainGlobals mg → mg d.name = some (.ref fa) →
      ∃ fd : FuncData, (∀ (s : Shared) (u : Value), BindsTo s fd ⟨[u], []⟩ [("script", u)]) ∧ ∀ base : Heap, (K w.params).In base → base.Ns mainGlobals mg → FnOk (PySem.Challenge.rw_someobjects_k10_who_objects).prog w (K w.params) mg base CX0 231 fa fd ["script"] (spLaw (K w.params))) :
    PySem.W.WalkO q loose XP YP (PySem.Challenge.rw_someobjects_k10_who_objects).row.toRowW d [] (fun f vs => PySem.call f vs) :=
  L2.walk_of (l := PySem.Challenge.rw_someobjects_k10_who_objects) (n := 63) (k := 231) (x := "script") (CX := fun _ => CX0) (sp := fun w => spLaw (K w.params)) rfl (by decide) hdf ⟨rfl, by decide, by decide⟩ hY F (fun _ _ a ns _ _ hS => ⟨a, ns, rfl, hS, fun _ => rfl⟩) fun _ _ _ _ _ z => z
end G
open PySem PySem.W PyProof.Rows in
set_option maxRecDepth 100000 in
set_option maxHeartbeats 0 in
theorem PySem.Challenge.cw_someobjects_k10_who_objects_holds : PySem.Challenge.rw_someobjects_k10_who_objects.Holds := by
  w_on; o_law; k_head; (case hw => w_witness2)
  k_fill
  refine G.walk rfl (fun w h Y => PySem.W.kIn_of Y) ?F
  case F =>
    intro w mg fa h KX hN hmg
    refine' G.all_mk KX hN hmg ?n_all ?n_bool ?n_enumerate ?n_int ?n_isinstance ?n_len ?n_list ?n_range ?n_set ?n_sorted ?n_str ?n_super ?n_tuple ?c_MOST_CHILDREN ?c_MOST_LETTERS ?c_MOST_LABELS ?gC_Machine ?gX_BadMachine ?a_people_of ?l_people_of ?c_people_of ?k_people_of ?a_nodes_from_below ?l_nodes_from_below ?c_nodes_from_below ?k_nodes_from_below ?a_move_fits ?l_move_fits ?c_move_fits ?k_move_fits ?a_check_parts ?l_check_parts ?c_check_parts ?k_check_parts ?a_Machine_initdd ?i_Machine_initdd ?l_Machine_initdd ?c_Machine_initdd ?k_Machine_initdd ?a_Machine_eqdd ?i_Machine_eqdd ?l_Machine_eqdd ?c_Machine_eqdd ?k_Machine_eqdd ?a_known_moves ?l_known_moves ?c_known_moves ?k_known_moves ?a_without_move ?l_without_move ?c_without_move ?k_without_move ?a_objectors ?l_objectors ?c_objectors ?k_objectors ?a_ring_objectors ?l_ring_objectors ?c_ring_objectors ?k_ring_objectors ?a_law_draw ?l_law_draw ?c_law_draw ?k_law_draw ?a_law_same ?l_law_same ?c_law_same ?k_law_same ?a_law_machine ?l_law_machine ?c_law_machine ?k_law_machine ?a_law_tree ?l_law_tree ?c_law_tree ?k_law_tree ?a_law_nodes ?l_law_nodes ?c_law_nodes ?k_law_nodes ?a_law_row_tree ?l_law_row_tree ?c_law_row_tree ?k_law_row_tree ?a_law_shape ?l_law_shape ?c_law_shape ?k_law_shape ?a_law_objects ?l_law_objects ?c_law_objects ?k_law_objects ?a_law_made ?l_law_made ?c_law_made ?k_law_made ?a_law_pool ?l_law_pool ?c_law_pool ?k_law_pool ?a_law ?l_law ?c_law ?k_law ?pg_Machine ?hd_Machine ?po_Machine ?sa_Machine ?no_Machine_ends ?no_Machine_labels ?no_Machine_letters ?no_Machine_moves ?mk_Machine ?kp_Machine ?oha_Machine ?ohn_Machine ?oht_Machine ?ohm_Machine ?okit_Machine ?xL_BadMachine ?xR_BadMachine ?xsa_BadMachine ?xga_BadMachine ?xgg_BadMachine ?xnoN_BadMachine ?xiC_BadMachine ?xtC_BadMachine ?xkC_BadMachine ?xexC_BadMachine ?xveC_BadMachine ?xtyC_BadMachine ?xhdC_BadMachine ?xms_BadMachine ?xsu_BadMachine ?xop_BadMachine ?xF_BadMachine ?xC_BadMachine ?xP_BadMachine ?xO_BadMachine ?xV_BadMachine ?xN_BadMachine ?xG_BadMachine ?xT_BadMachine
    (case n_all => first | k_is | ks_is | kts_exm | kit_is | rfl | decide +kernel)
    (case n_bool => first | k_is | ks_is | kts_exm | kit_is | rfl | decide +kernel)
    (case n_enumerate => first | k_is | ks_is | kts_exm | kit_is | rfl | decide +kernel)
    (case n_int => first | k_is | ks_is | kts_exm | kit_is | rfl | decide +kernel)
    (case n_isinstance => first | k_is | ks_is | kts_exm | kit_is | rfl | decide +kernel)
    (case n_len => first | k_is | ks_is | kts_exm | kit_is | rfl | decide +kernel)
    (case n_list => first | k_is | ks_is | kts_exm | kit_is | rfl | decide +kernel)
    (case n_range => first | k_is | ks_is | kts_exm | kit_is | rfl | decide +kernel)
    (case n_set => first | k_is | ks_is | kts_exm | kit_is | rfl | decide +kernel)
    (case n_sorted => first | k_is | ks_is | kts_exm | kit_is | rfl | decide +kernel)
    (case n_str => first | k_is | ks_is | kts_exm | kit_is | rfl | decide +kernel)
    (case n_super => first | k_is | ks_is | kts_exm | kit_is | rfl | decide +kernel)
    (case n_tuple => first | k_is | ks_is | kts_exm | kit_is | rfl | decide +kernel)
    (case c_MOST_CHILDREN => first | k_is | ks_is | kts_exm | kit_is | rfl | decide +kernel)
    (case c_MOST_LETTERS => first | k_is | ks_is | kts_exm | kit_is | rfl | decide +kernel)
    (case c_MOST_LABELS => first | k_is | ks_is | kts_exm | kit_is | rfl | decide +kernel)
    (case gC_Machine => first | k_is | ks_is | kts_exm | kit_is | rfl | decide +kernel)
    (case gX_BadMachine => first | k_is | ks_is | kts_exm | kit_is | rfl | decide +kernel)
    (case a_people_of => first | k_is | ks_is | kts_exm | kit_is | rfl | decide +kernel)
    (case l_people_of => first | k_is | ks_is | kts_exm | kit_is | rfl | decide +kernel)
    (case c_people_of => first | k_is | ks_is | kts_exm | kit_is | rfl | decide +kernel)
    (case k_people_of => first | k_is | ks_is | kts_exm | kit_is | rfl | decide +kernel)
    (case a_nodes_from_below => first | k_is | ks_is | kts_exm | kit_is | rfl | decide +kernel)
    (case l_nodes_from_below => first | k_is | ks_is | kts_exm | kit_is | rfl | decide +kernel)
    (case c_nodes_from_below => first | k_is | ks_is | kts_exm | kit_is | rfl | decide +kernel)
    (case k_nodes_from_below => first | k_is | ks_is | kts_exm | kit_is | rfl | decide +kernel)
    (case a_move_fits => first | k_is | ks_is | kts_exm | kit_is | rfl | decide +kernel)
    (case l_move_fits => first | k_is | ks_is | kts_exm | kit_is | rfl | decide +kernel)
    (case c_move_fits => first | k_is | ks_is | kts_exm | kit_is | rfl | decide +kernel)
    (case k_move_fits => first | k_is | ks_is | kts_exm | kit_is | rfl | decide +kernel)
    (case a_check_parts => first | k_is | ks_is | kts_exm | kit_is | rfl | decide +kernel)
    (case l_check_parts => first | k_is | ks_is | kts_exm | kit_is | rfl | decide +kernel)
    (case c_check_parts => first | k_is | ks_is | kts_exm | kit_is | rfl | decide +kernel)
    (case k_check_parts => first | k_is | ks_is | kts_exm | kit_is | rfl | decide +kernel)
    (case a_Machine_initdd => first | k_is | ks_is | kts_exm | kit_is | rfl | decide +kernel)
    (case i_Machine_initdd => first | k_is | ks_is | kts_exm | kit_is | rfl | decide +kernel)
    (case l_Machine_initdd => first | k_is | ks_is | kts_exm | kit_is | rfl | decide +kernel)
    (case c_Machine_initdd => first | k_is | ks_is | kts_exm | kit_is | rfl | decide +kernel)
    (case k_Machine_initdd => first | k_is | ks_is | kts_exm | kit_is | rfl | decide +kernel)
    (case a_Machine_eqdd => first | k_is | ks_is | kts_exm | kit_is | rfl | decide +kernel)
    (case i_Machine_eqdd => first | k_is | ks_is | kts_exm | kit_is | rfl | decide +kernel)
    (case l_Machine_eqdd => first | k_is | ks_is | kts_exm | kit_is | rfl | decide +kernel)
    (case c_Machine_eqdd => first | k_is | ks_is | kts_exm | kit_is | rfl | decide +kernel)
    (case k_Machine_eqdd => first | k_is | ks_is | kts_exm | kit_is | rfl | decide +kernel)
    (case a_known_moves => first | k_is | ks_is | kts_exm | kit_is | rfl | decide +kernel)
    (case l_known_moves => first | k_is | ks_is | kts_exm | kit_is | rfl | decide +kernel)
    (case c_known_moves => first | k_is | ks_is | kts_exm | kit_is | rfl | decide +kernel)
    (case k_known_moves => first | k_is | ks_is | kts_exm | kit_is | rfl | decide +kernel)
    (case a_without_move => first | k_is | ks_is | kts_exm | kit_is | rfl | decide +kernel)
    (case l_without_move => first | k_is | ks_is | kts_exm | kit_is | rfl | decide +kernel)
    (case c_without_move => first | k_is | ks_is | kts_exm | kit_is | rfl | decide +kernel)
    (case k_without_move => first | k_is | ks_is | kts_exm | kit_is | rfl | decide +kernel)
    (case a_objectors => first | k_is | ks_is | kts_exm | kit_is | rfl | decide +kernel)
    (case l_objectors => first | k_is | ks_is | kts_exm | kit_is | rfl | decide +kernel)
    (case c_objectors => first | k_is | ks_is | kts_exm | kit_is | rfl | decide +kernel)
    (case k_objectors => first | k_is | ks_is | kts_exm | kit_is | rfl | decide +kernel)
    (case a_ring_objectors => first | k_is | ks_is | kts_exm | kit_is | rfl | decide +kernel)
    (case l_ring_objectors => first | k_is | ks_is | kts_exm | kit_is | rfl | decide +kernel)
    (case c_ring_objectors => first | k_is | ks_is | kts_exm | kit_is | rfl | decide +kernel)
    (case k_ring_objectors => first | k_is | ks_is | kts_exm | kit_is | rfl | decide +kernel)
    (case a_law_draw => first | k_is | ks_is | kts_exm | kit_is | rfl | decide +kernel)
    (case l_law_draw => first | k_is | ks_is | kts_exm | kit_is | rfl | decide +kernel)
    (case c_law_draw => first | k_is | ks_is | kts_exm | kit_is | rfl | decide +kernel)
    (case k_law_draw => first | k_is | ks_is | kts_exm | kit_is | rfl | decide +kernel)
    (case a_law_same => first | k_is | ks_is | kts_exm | kit_is | rfl | decide +kernel)
    (case l_law_same => first | k_is | ks_is | kts_exm | kit_is | rfl | decide +kernel)
    (case c_law_same => first | k_is | ks_is | kts_exm | kit_is | rfl | decide +kernel)
    (case k_law_same => first | k_is | ks_is | kts_exm | kit_is | rfl | decide +kernel)
    (case a_law_machine => first | k_is | ks_is | kts_exm | kit_is | rfl | decide +kernel)
    (case l_law_machine => first | k_is | ks_is | kts_exm | kit_is | rfl | decide +kernel)
    (case c_law_machine => first | k_is | ks_is | kts_exm | kit_is | rfl | decide +kernel)
    (case k_law_machine => first | k_is | ks_is | kts_exm | kit_is | rfl | decide +kernel)
    (case a_law_tree => first | k_is | ks_is | kts_exm | kit_is | rfl | decide +kernel)
    (case l_law_tree => first | k_is | ks_is | kts_exm | kit_is | rfl | decide +kernel)
    (case c_law_tree => first | k_is | ks_is | kts_exm | kit_is | rfl | decide +kernel)
    (case k_law_tree => first | k_is | ks_is | kts_exm | kit_is | rfl | decide +kernel)
    (case a_law_nodes => first | k_is | ks_is | kts_exm | kit_is | rfl | decide +kernel)
    (case l_law_nodes => first | k_is | ks_is | kts_exm | kit_is | rfl | decide +kernel)
    (case c_law_nodes => first | k_is | ks_is | kts_exm | kit_is | rfl | decide +kernel)
    (case k_law_nodes => first | k_is | ks_is | kts_exm | kit_is | rfl | decide +kernel)
    (case a_law_row_tree => first | k_is | ks_is | kts_exm | kit_is | rfl | decide +kernel)
    (case l_law_row_tree => first | k_is | ks_is | kts_exm | kit_is | rfl | decide +kernel)
    (case c_law_row_tree => first | k_is | ks_is | kts_exm | kit_is | rfl | decide +kernel)
    (case k_law_row_tree => first | k_is | ks_is | kts_exm | kit_is | rfl | decide +kernel)
    (case a_law_shape => first | k_is | ks_is | kts_exm | kit_is | rfl | decide +kernel)
    (case l_law_shape => first | k_is | ks_is | kts_exm | kit_is | rfl | decide +kernel)
    (case c_law_shape => first | k_is | ks_is | kts_exm | kit_is | rfl | decide +kernel)
    (case k_law_shape => first | k_is | ks_is | kts_exm | kit_is | rfl | decide +kernel)
    (case a_law_objects => first | k_is | ks_is | kts_exm | kit_is | rfl | decide +kernel)
    (case l_law_objects => first | k_is | ks_is | kts_exm | kit_is | rfl | decide +kernel)
    (case c_law_objects => first | k_is | ks_is | kts_exm | kit_is | rfl | decide +kernel)
    (case k_law_objects => first | k_is | ks_is | kts_exm | kit_is | rfl | decide +kernel)
    (case a_law_made => first | k_is | ks_is | kts_exm | kit_is | rfl | decide +kernel)
    (case l_law_made => first | k_is | ks_is | kts_exm | kit_is | rfl | decide +kernel)
    (case c_law_made => first | k_is | ks_is | kts_exm | kit_is | rfl | decide +kernel)
    (case k_law_made => first | k_is | ks_is | kts_exm | kit_is | rfl | decide +kernel)
    (case a_law_pool => first | k_is | ks_is | kts_exm | kit_is | rfl | decide +kernel)
    (case l_law_pool => first | k_is | ks_is | kts_exm | kit_is | rfl | decide +kernel)
    (case c_law_pool => first | k_is | ks_is | kts_exm | kit_is | rfl | decide +kernel)
    (case k_law_pool => first | k_is | ks_is | kts_exm | kit_is | rfl | decide +kernel)
    (case a_law => first | k_is | ks_is | kts_exm | kit_is | rfl | decide +kernel)
    (case l_law => first | k_is | ks_is | kts_exm | kit_is | rfl | decide +kernel)
    (case c_law => first | k_is | ks_is | kts_exm | kit_is | rfl | decide +kernel)
    (case k_law => first | k_is | ks_is | kts_exm | kit_is | rfl | decide +kernel)
    (case pg_Machine => first | k_is | ks_is | kts_exm | kit_is | rfl | decide +kernel)
    (case hd_Machine => first | k_is | ks_is | kts_exm | kit_is | rfl | decide +kernel)
    (case po_Machine => first | k_is | ks_is | kts_exm | kit_is | rfl | decide +kernel)
    (case sa_Machine => first | k_is | ks_is | kts_exm | kit_is | rfl | decide +kernel)
    (case no_Machine_ends => first | k_is | ks_is | kts_exm | kit_is | rfl | decide +kernel)
    (case no_Machine_labels => first | k_is | ks_is | kts_exm | kit_is | rfl | decide +kernel)
    (case no_Machine_letters => first | k_is | ks_is | kts_exm | kit_is | rfl | decide +kernel)
    (case no_Machine_moves => first | k_is | ks_is | kts_exm | kit_is | rfl | decide +kernel)
    (case mk_Machine => first | k_is | ks_is | kts_exm | kit_is | rfl | decide +kernel)
    (case kp_Machine => first | k_is | ks_is | kts_exm | kit_is | rfl | decide +kernel)
    (case oha_Machine => first | k_is | ks_is | kts_exm | kit_is | rfl | decide +kernel)
    (case ohn_Machine => first | k_is | ks_is | kts_exm | kit_is | rfl | decide +kernel)
    (case oht_Machine => first | k_is | ks_is | kts_exm | kit_is | rfl | decide +kernel)
    (case ohm_Machine => first | k_is | ks_is | kts_exm | kit_is | rfl | decide +kernel)
    (case okit_Machine => first | k_is | ks_is | kts_exm | kit_is | rfl | decide +kernel)
    (case xL_BadMachine => first | k_is | ks_is | kts_exm | kit_is | rfl | decide +kernel)
    (case xR_BadMachine => first | k_is | ks_is | kts_exm | kit_is | rfl | decide +kernel)
    (case xsa_BadMachine => first | k_is | ks_is | kts_exm | kit_is | rfl | decide +kernel)
    (case xga_BadMachine => first | k_is | ks_is | kts_exm | kit_is | rfl | decide +kernel)
    (case xgg_BadMachine => first | k_is | ks_is | kts_exm | kit_is | rfl | decide +kernel)
    (case xnoN_BadMachine => first | k_is | ks_is | kts_exm | kit_is | rfl | decide +kernel)
    (case xiC_BadMachine => first | k_is | ks_is | kts_exm | kit_is | rfl | decide +kernel)
    (case xtC_BadMachine => first | k_is | ks_is | kts_exm | kit_is | rfl | decide +kernel)
    (case xkC_BadMachine => first | k_is | ks_is | kts_exm | kit_is | rfl | decide +kernel)
    (case xexC_BadMachine => first | k_is | ks_is | kts_exm | kit_is | rfl | decide +kernel)
    (case xveC_BadMachine => first | k_is | ks_is | kts_exm | kit_is | rfl | decide +kernel)
    (case xtyC_BadMachine => first | k_is | ks_is | kts_exm | kit_is | rfl | decide +kernel)
    (case xhdC_BadMachine => first | k_is | ks_is | kts_exm | kit_is | rfl | decide +kernel)
    (case xms_BadMachine => first | k_is | ks_is | kts_exm | kit_is | rfl | decide +kernel)
    (case xsu_BadMachine => first | k_is | ks_is | kts_exm | kit_is | rfl | decide +kernel)
    (case xop_BadMachine => first | k_is | ks_is | kts_exm | kit_is | rfl | decide +kernel)
    (case xF_BadMachine => first | k_is | ks_is | kts_exm | kit_is | rfl | decide +kernel)
    (case xC_BadMachine => first | k_is | ks_is | kts_exm | kit_is | rfl | decide +kernel)
    (case xP_BadMachine => first | k_is | ks_is | kts_exm | kit_is | rfl | decide +kernel)
    (case xO_BadMachine => first | k_is | ks_is | kts_exm | kit_is | rfl | decide +kernel)
    (case xV_BadMachine => first | k_is | ks_is | kts_exm | kit_is | rfl | decide +kernel)
    (case xN_BadMachine => first | k_is | ks_is | kts_exm | kit_is | rfl | decide +kernel)
    (case xG_BadMachine => first | k_is | ks_is | kts_exm | kit_is | rfl | decide +kernel)
    (case xT_BadMachine => first | k_is | ks_is | kts_exm | kit_is | rfl | decide +kernel)
end

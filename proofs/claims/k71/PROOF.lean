import PyProof.Rows.All
import Wide.All
import OpenK.AllK
import Wide.FinOn
import HandS.ForMost
import HandS.ForExc
import HandS.Evl
import HandS.Deep
import HandS.Flow
import HandS.Exc
import HandS.ExcCtx
import HandS.RevRange
import HandS.Rev
import HandS.Zip
import HandS.Comp
import HandS.Words
import HandS.Text
import HandS.IsInst
import HandS.Wide
import HandS.SortInts
import HandS.Iter
import HandS.Style
import HandS.TupAny
import HandS.FStr
import HandS.ExcInit
import KE.KExcSuper
import KE.KSuper
import HandS.Codes
import HandS.ExcOwn
import HandS.ExcIs
import HandS.HotCalls
import HandS.Star
import KE.IntTextText
import KE.IntTextLaws
import KE.RegKSuper
import KE.RegKTryMore
import KE.RegKIsAll
import PySem.Challenge.RW_someobjects_k71_whole_papers_are_read_ex
section
set_option Elab.async false
set_option linter.all false
set_option maxRecDepth 100000
set_option maxHeartbeats 4000000
namespace DL
open PySem L2
open Evl (Ex)

/-- data, without the heap -/
inductive D where
  | non | bl (b : Bool) | int (i : Int) | str (x : Str) | tup (l : List D) | lst (l : List D) | ins (C : Addr) (ns : List Str) (l : List D) | any | err (e0 dd C : Addr) (a : Str) (v : D) | scr (ns : List Int)

mutual
inductive Rep (K : PySem.W.Frag) (S : Hp) : V → D → Prop
  | non : Rep K S .non .non
  | any (v : V) : Rep K S v .any
  | bl (b : Bool) : Rep K S (.bl b) (.bl b)
  | int (i : Int) : Rep K S (.int i) (.int i)
  | str (x : Str) : Rep K S (.str x) (.str x)
  | lst {a : Addr} {xs : List V} {ds : List D} : S a = some (.lst xs) → Reps K S xs ds → Rep K S (.ref a) (.lst ds)
  | tup {a : Addr} {xs : List V} {ds : List D} : SqT K S a xs → Reps K S xs ds → Rep K S (.ref a) (.tup ds)
  | ins {a C dx : Addr} {fs : List (Str × V)} {ns : List Str} {xs : List V} {ds : List D} : S a = some (.ins C dx fs) → fs.map (·.1) = ns → fs.map (·.2) = xs → Reps K S xs ds → Rep K S (.ref a) (.ins C ns ds)
  | err {e0 dd C : Addr} {a : Str} {u : V} {v : D} : S dd = some (.xd [(a, u)]) → Rep K S u v → Rep K S (.ref e0) (.err e0 dd C a v)
  | scr {a : Addr} {ns : List Int} : SqL K S a (ns.map V.int) → Rep K S (.ref a) (.scr ns)
inductive Reps (K : PySem.W.Frag) (S : Hp) : List V → List D → Prop
  | nil : Reps K S [] []
  | cons {v : V} {vs : List V} {d : D} {ds : List D} : Rep K S v d → Reps K S vs ds → Reps K S (v :: vs) (d :: ds)
end

section
variable {K : PySem.W.Frag} {S S' H H' : Hp}
mutual
theorem Rep.mono (e : Ex S S') : ∀ {v : V} {d : D}, Rep K S v d → Rep K S' v d
  | _, _, .non => .non
  | _, _, .any v => .any v
  | _, _, .bl b => .bl b
  | _, _, .int i => .int i
  | _, _, .str x => .str x
  | _, _, .lst h r => .lst (e _ _ h) (Reps.mono e r)
  | _, _, .tup h r => .tup (Evl.ex_t e h) (Reps.mono e r)
  | _, _, .ins h h1 h2 r => .ins (e _ _ h) h1 h2 (Reps.mono e r)
  | _, _, .err h r => .err (e _ _ h) (Rep.mono e r)
  | _, _, .scr h => .scr (Evl.ex_l e h)
theorem Reps.mono (e : Ex S S') : ∀ {v : List V} {d : List D}, Reps K S v d → Reps K S' v d
  | _, _, .nil => .nil
  | _, _, .cons h r => .cons (Rep.mono e h) (Reps.mono e r)
end
theorem Reps.length : ∀ {vs : List V} {ds : List D}, Reps K S vs ds → vs.length = ds.length
  | _, _, .nil => rfl
  | _, _, .cons _ r => by rw [List.length_cons, List.length_cons, Reps.length r]
theorem Reps.get : ∀ {vs : List V} {ds : List D} {i : Nat} {d : D}, Reps K S vs ds → ds[i]? = some d → ∃ v, vs[i]? = some v ∧ Rep K S v d
  | _, _, _, _, .nil, e => by simp at e
  | _, _, 0, _, .cons h _, e => by
    simp at e
    subst e
    exact ⟨_, rfl, h⟩
  | _, _, i + 1, _, .cons _ r, e => by
    simp at e
    obtain ⟨v, h1, h2⟩ := Reps.get r e
    exact ⟨v, by simpa using h1, h2⟩
theorem Reps.getV : ∀ {vs : List V} {ds : List D} {i : Nat} {v : V}, Reps K S vs ds → vs[i]? = some v → ∃ d, ds[i]? = some d ∧ Rep K S v d
  | _, _, _, _, .nil, e => by simp at e
  | _, _, 0, _, .cons h _, e => by
    simp at e
    subst e
    exact ⟨_, rfl, h⟩
  | _, _, i + 1, _, .cons _ r, e => by
    simp at e
    obtain ⟨v, h1, h2⟩ := Reps.getV r e
    exact ⟨v, by simpa using h1, h2⟩
theorem Reps.append : ∀ {vs ws : List V} {ds es : List D}, Reps K S vs ds → Reps K S ws es → Reps K S (vs ++ ws) (ds ++ es)
  | _, _, _, _, .nil, q => q
  | _, _, _, _, .cons h r, q => .cons h (Reps.append r q)
theorem Reps.drop : ∀ (n : Nat) {vs : List V} {ds : List D}, Reps K S vs ds → Reps K S (vs.drop n) (ds.drop n)
  | 0, _, _, h => h
  | _ + 1, _, _, .nil => .nil
  | n + 1, _, _, .cons _ r => Reps.drop n r
theorem Reps.take : ∀ (n : Nat) {vs : List V} {ds : List D}, Reps K S vs ds → Reps K S (vs.take n) (ds.take n)
  | 0, _, _, _ => .nil
  | _ + 1, _, _, .nil => .nil
  | n + 1, _, _, .cons h r => .cons h (Reps.take n r)
theorem Reps.set : ∀ (n : Nat) {vs : List V} {ds : List D} {v : V} {d : D}, Reps K S vs ds → Rep K S v d → Reps K S (vs.set n v) (ds.set n d)
  | _, _, _, _, _, .nil, _ => .nil
  | 0, _, _, _, _, .cons _ r, q => .cons q r
  | n + 1, _, _, _, _, .cons h r, q => .cons h (Reps.set n r q)
theorem Reps.reverse : ∀ {vs : List V} {ds : List D}, Reps K S vs ds → Reps K S vs.reverse ds.reverse
  | _, _, .nil => .nil
  | _, _, .cons h r => by
    rw [List.reverse_cons, List.reverse_cons]
    exact Reps.append (Reps.reverse r) (.cons h .nil)
theorem Reps.ints : ∀ (l : List Int), Reps K S (l.map V.int) (l.map D.int)
  | [] => .nil
  | i :: l => .cons (.int i) (Reps.ints l)
theorem Reps.strs : ∀ (l : List Str), Reps K S (l.map V.str) (l.map D.str)
  | [] => .nil
  | i :: l => .cons (.str i) (Reps.strs l)
theorem Reps.ints_inv : ∀ {vs : List V} (l : List Int), Reps K S vs (l.map D.int) → vs = l.map V.int
  | _, [], h => by cases h; rfl
  | _, i :: l, h => by
    cases h with
    | cons h r =>
      cases h
      rw [Reps.ints_inv l r] <;> rfl
theorem Reps.strs_inv : ∀ {vs : List V} (l : List Str), Reps K S vs (l.map D.str) → vs = l.map V.str
  | _, [], h => by cases h; rfl
  | _, i :: l, h => by
    cases h with
    | cons h r =>
      cases h
      rw [Reps.strs_inv l r] <;> rfl
theorem Reps.bls_inv : ∀ {vs : List V} (l : List Bool), Reps K S vs (l.map D.bl) → vs = l.map V.bl
  | _, [], h => by cases h; rfl
  | _, i :: l, h => by
    cases h with
    | cons h r =>
      cases h
      rw [Reps.bls_inv l r] <;> rfl
end

/-- a thing that a name alone may change: a list, an instance with its fields -/
inductive FxL where
  | lst (l : List D) | ins (C dx : Addr) (ns : List Str) (l : List D)
def FxAt (K : PySem.W.Frag) (S : Hp) : FxL → HO → Prop
  | .lst l, o => ∃ vs, o = .lst vs ∧ Reps K S vs l
  | .ins C dx ns l, o => ∃ fs : List (Str × V), o = .ins C dx fs ∧ fs.map (·.1) = ns ∧ Reps K S (fs.map (·.2)) l
theorem FxAt.mono {K : PySem.W.Frag} {S S' : Hp} (e : Ex S S') {l : FxL} {o : HO} (h : FxAt K S l o) : FxAt K S' l o := by
  cases l with
  | lst l =>
    obtain ⟨vs, h1, h2⟩ := h
    exact ⟨vs, h1, h2.mono e⟩
  | ins C dx ns l =>
    obtain ⟨fs, h1, h2, h3⟩ := h
    exact ⟨fs, h1, h2, h3.mono e⟩
/-- what an expression has given: a value; a new list of its own; the own list of the i-th name, looked at; the pool -/
inductive R where
  | val (d : D) | own (l : List D) | brw (i : Nat) (l : List D) | pool
/-- what a name holds -/
inductive Nv where
  | val (d : D) | own (l : List D) | pool | fix (p : Addr) (l : FxL)
abbrev En := List (Option Nv)
abbrev Has (env : En) (i : Nat) (n : Nv) : Prop := env[i]? = some (some n)
abbrev Slt (σ : St) (i : Nat) (v : V) : Prop := σ[i]? = some (some v)
theorem Has.inj {env : En} {i : Nat} {a b : Nv} (h : Has env i a) (k : Has env i b) : a = b := Option.some.inj (Option.some.inj (h.symm.trans k))
theorem Slt.inj {σ : St} {i : Nat} {a b : V} (h : Slt σ i a) (k : Slt σ i b) : a = b := Option.some.inj (Option.some.inj (h.symm.trans k))
theorem Slt.ref {σ : St} {i : Nat} {a b : Addr} (h : Slt σ i (.ref a)) (k : Slt σ i (.ref b)) : a = b := by
  have := h.inj k
  cases this
  rfl

def R.data : R → D
  | .val d => d
  | .own l => .lst l
  | .brw _ l => .lst l
  | .pool => .any

/-- the pool of a law: its list at a, the script's ints -/
def PoolAt (S H : Hp) (a : Addr) : Prop :=
  S a = none ∧ ∃ (l : Addr) (cells : List Int) (pos big seed cnt bud : Int), H a = some (.lst [.ref l, .int pos, .int big, .int seed, .int cnt, .int bud]) ∧ S l = some (.lst (cells.map V.int)) ∧ 0 ≤ pos

/-- the first item of a list -/
def headO : Option HO → Option V
  | some (.lst (x :: _)) => some x
  | _ => none
/-- what a def's run stands on: the heaps at its entry, the pool's place -/
structure Bs where
  S0 : Hp
  H0 : Hp
  pa : Option Addr

structure SR (K : PySem.W.Frag) (B : Bs) (S H : Hp) (env : En) (σ : St) : Prop where
  ex0 : Ex B.S0 S
  nw0 : ∀ a o, B.H0 a = some o → B.S0 a = none → S a = none
  keep0 : ∀ a o, B.H0 a = some o → B.pa ≠ some a → H a = some o
  old0 : ∀ a, H a = none → B.H0 a = none
  len : env.length = σ.length
  ex : Ex S H
  val : ∀ i d, Has env i (.val d) → ∃ v, Slt σ i v ∧ Rep K S v d
  own : ∀ i l, Has env i (.own l) → ∃ p vs, Slt σ i (.ref p) ∧ S p = none ∧ B.H0 p = none ∧ H p = some (.lst vs) ∧ Reps K S vs l
  dis : ∀ i j l m p, Has env i (.own l) → Has env j (.own m) → Slt σ i (.ref p) → Slt σ j (.ref p) → i = j
  pl : ∀ i, Has env i .pool → ∃ a, B.pa = some a ∧ Slt σ i (.ref a)
  pool : ∀ a, B.pa = some a → PoolAt S H a ∧ ∃ o, B.H0 a = some o
  fix : ∀ i p l, Has env i (.fix p l) → Slt σ i (.ref p) ∧ S p = none ∧ B.H0 p = none ∧ ∃ o, H p = some o ∧ FxAt K S l o
  dfx : ∀ i j p l m, Has env i (.fix p l) → Has env j (.own m) → ¬ Slt σ j (.ref p)
  dff : ∀ i j p l m, Has env i (.fix p l) → Has env j (.fix p m) → i = j
  pin : ∀ a, B.pa = some a → headO (H a) = headO (B.H0 a)

/-- the places that belong to the names, or are the pool's -/
def Ow (B : Bs) (env : En) (σ : St) (a : Addr) : Prop := B.pa = some a ∨ (∃ i l, Has env i (.own l) ∧ Slt σ i (.ref a)) ∨ ∃ i l, Has env i (.fix a l)

/-- a name's list may have come to stand still -/
def Frz (env env' : En) : Prop := env'.length = env.length ∧ ∀ i : Nat, env'[i]? = env[i]? ∨ ∃ l, Has env i (.own l) ∧ Has env' i (.val (.lst l))
theorem Frz.refl (env : En) : Frz env env := ⟨rfl, fun _ => .inl rfl⟩
theorem Frz.trans {a b c : En} (h : Frz a b) (k : Frz b c) : Frz a c := ⟨k.1.trans h.1, fun i => by
  rcases h.2 i with e | ⟨l, e1, e2⟩
  · rcases k.2 i with q | ⟨l, q1, q2⟩
    · exact .inl (q.trans e)
    · exact .inr ⟨l, e.symm.trans q1, q2⟩
  · rcases k.2 i with q | ⟨m, q1, q2⟩
    · exact .inr ⟨l, e1, q.trans e2⟩
    · exact nomatch Has.inj e2 q1⟩

/-- new things alone have come; what belongs to the names (A) may have changed -/
structure Go (A : Addr → Prop) (S H S' H' : Hp) : Prop where
  ex : Ex S S'
  keep : ∀ a o, H a = some o → ¬ A a → H' a = some o
  nw : ∀ a o, H a = some o → ¬ A a → S a = none → S' a = none
  old : ∀ a, H' a = none → H a = none

def Res (K : PySem.W.Frag) (B : Bs) (A : Addr → Prop) (H S' H' : Hp) (env' : En) (σ : St) : R → V → Prop
  | .val d, v => Rep K S' v d
  | .own l, v => ∃ p vs, v = .ref p ∧ S' p = none ∧ B.H0 p = none ∧ H p = none ∧ ¬ Ow B env' σ p ∧ H' p = some (.lst vs) ∧ Reps K S' vs l
  | .brw i l, v => ∃ p, v = .ref p ∧ Slt σ i (.ref p) ∧ (Has env' i (.own l))
  | .pool, v => ∃ a, B.pa = some a ∧ v = .ref a

/-- behind an expression -/
structure EPo (K : PySem.W.Frag) (B : Bs) (S H : Hp) (env : En) (σ : St) (S' H' : Hp) (env' : En) (r : R) (v : V) : Prop where
  sr : SR K B S' H' env' σ
  go : Go (Ow B env σ) S H S' H'
  fz : Frz env env'
  res : Res K B (Ow B env σ) H S' H' env' σ r v

abbrev DM := En → (En → R → Prop) → Prop
def DE (X : Cx) (e : Expr) (m : DM) (t : TE) : Prop := PE X e t ∧ ∀ (B : Bs) (S H : Hp) (env : En) (σ : St) (Q : En → R → Prop) (Qv : VK), SR X.K B S H env σ → m env Q →
  (∀ v H' S' env' r, EPo X.K B S H env σ S' H' env' r v → Q env' r → Qv v H') → t σ H Qv
/-- a test -/
abbrev DTM := En → (En → Bool → Prop) → Prop
structure TPo (K : PySem.W.Frag) (B : Bs) (S H : Hp) (env : En) (σ : St) (S' H' : Hp) (env' : En) : Prop where
  sr : SR K B S' H' env' σ
  go : Go (Ow B env σ) S H S' H'
  fz : Frz env env'
def DT (X : Cx) (e : Expr) (m : DTM) (t : TT) : Prop := PT X e t ∧ ∀ (B : Bs) (S H : Hp) (env : En) (σ : St) (Q : En → Bool → Prop) (Qv : Bool → Hp → Prop), SR X.K B S H env σ → m env Q →
  (∀ b H' S' env', TPo X.K B S H env σ S' H' env' → Q env' b → Qv b H') → t σ H Qv

/-! ### lemmas on the state -/
section
variable {K : PySem.W.Frag} {B : Bs} {S H S' H' S'' H'' : Hp} {env env' env'' : En} {σ : St} {A A' : Addr → Prop}
theorem Go.refl : Go A S H S H := ⟨Ex.refl _, fun _ _ h _ => h, fun _ _ _ _ h => h, fun _ h => h⟩
theorem Go.trans (a : Go A S H S' H') (b : Go A' S' H' S'' H'') (hs : ∀ x o, H x = some o → ¬ A x → ¬ A' x) : Go A S H S'' H'' :=
  ⟨a.ex.trans b.ex, fun x o h n => b.keep x o (a.keep x o h n) (hs x o h n), fun x o h n e => b.nw x o (a.keep x o h n) (hs x o h n) (a.nw x o h n e), fun x h => a.old x (b.old x h)⟩
theorem Go.mono (a : Go A S H S' H') (hs : ∀ x, A x → A' x) : Go A' S H S' H' := ⟨a.ex, fun x o h n => a.keep x o h (fun z => n (hs x z)), fun x o h n => a.nw x o h (fun z => n (hs x z)), a.old⟩
theorem Ow.frz {x : Addr} (f : Frz env env') (h : Ow B env' σ x) : Ow B env σ x := by
  rcases h with h | ⟨i, l, h1, h2⟩ | ⟨i, l, h1⟩
  · exact .inl h
  · rcases f.2 i with e | ⟨m, e1, e2⟩
    · exact .inr (.inl ⟨i, l, e.symm.trans h1, h2⟩)
    · exact nomatch Has.inj e2 h1
  · rcases f.2 i with e | ⟨m, e1, e2⟩
    · exact .inr (.inr ⟨i, l, e.symm.trans h1⟩)
    · exact nomatch Has.inj e2 h1
/-- new things alone -/
structure Nw (S H S' H' : Hp) : Prop where
  ex : Ex S S'
  keep : Ex H H'
  nw : ∀ a o, H a = some o → S a = none → S' a = none
  sh : Ex S' H'
theorem Nw.refl (h : Ex S H) : Nw S H S H := ⟨Ex.refl _, Ex.refl _, fun _ _ _ h => h, h⟩
theorem Nw.trans (a : Nw S H S' H') (b : Nw S' H' S'' H'') : Nw S H S'' H'' := ⟨a.ex.trans b.ex, a.keep.trans b.keep, fun x o h e => b.nw x o (a.keep x o h) (a.nw x o h e), b.sh⟩
theorem Nw.old (a : Nw S H S' H') : ∀ x, H' x = none → H x = none := fun x h => Evl.fresh_back a.keep h
theorem Nw.go (a : Nw S H S' H') : Go A S H S' H' := ⟨a.ex, fun x o h _ => a.keep x o h, fun x o h _ e => a.nw x o h e, a.old⟩
/-- a new object, known from now on | not known -/
theorem Nw.add (e : Ex S H) {p : Addr} {o : HO} (h : H p = none) : Nw S H (upd S p o) (upd H p o) := by
  have s : S p = none := Evl.fresh_back e h
  refine ⟨Ex.new s, Ex.new h, fun a u q z => ?_, fun a u q => ?_⟩
  · rw [upd_ne (ne_of_none q h)]
    exact z
  · by_cases c : a = p
    · subst c
      rw [upd_same] at q ⊢
      exact q
    · rw [upd_ne c] at q ⊢
      exact e a u q
theorem Nw.hid (e : Ex S H) {p : Addr} {o : HO} (h : H p = none) : Nw S H S (upd H p o) := ⟨Ex.refl _, Ex.new h, fun _ _ _ z => z, e.trans (Ex.new h)⟩
theorem PoolAt.nw {a : Addr} (h : PoolAt S H a) (n : Nw S H S' H') : PoolAt S' H' a := by
  obtain ⟨s, l, cells, pos, big, seed, cnt, bud, h1, h2, r⟩ := h
  exact ⟨n.nw _ _ h1 s, l, cells, pos, big, seed, cnt, bud, n.keep _ _ h1, n.ex _ _ h2, r⟩
theorem SR.nw (r : SR K B S H env σ) (n : Nw S H S' H') : SR K B S' H' env σ where
  ex0 := r.ex0.trans n.ex
  nw0 := fun a o h e => by
    by_cases c : B.pa = some a
    · exact (r.pool a c).1.nw n |>.1
    · exact n.nw a o (r.keep0 a o h c) (r.nw0 a o h e)
  keep0 := fun a o h c => n.keep a o (r.keep0 a o h c)
  old0 := fun a h => r.old0 a (n.old a h)
  len := r.len
  ex := n.sh
  val := fun i d h => let ⟨v, h1, h2⟩ := r.val i d h; ⟨v, h1, h2.mono n.ex⟩
  own := fun i l h => let ⟨p, vs, h1, h2, h3, h4, h5⟩ := r.own i l h; ⟨p, vs, h1, n.nw _ _ h4 h2, h3, n.keep _ _ h4, h5.mono n.ex⟩
  dis := r.dis
  fix := fun i p l h => let ⟨k1, k2, k3, vs, k4, k5⟩ := r.fix i p l h; ⟨k1, n.nw _ _ k4 k2, k3, vs, n.keep _ _ k4, k5.mono n.ex⟩
  dfx := r.dfx
  dff := r.dff
  pin := fun a e => by
    obtain ⟨⟨_, l, cells, y1, y2, y3, y4, y5, y6, _⟩, _⟩ := r.pool a e
    rw [n.keep _ _ y6, ← r.pin a e, y6]
  pl := r.pl
  pool := fun a h => let ⟨q, o⟩ := r.pool a h; ⟨q.nw n, o⟩
theorem SR.hp0 (r : SR K B S H env σ) {p : Addr} (h : H p = none) : B.H0 p = none := r.old0 p h
theorem SR.sp0 (r : SR K B S H env σ) {p : Addr} (h : H p = none) : S p = none := Evl.fresh_back r.ex h
theorem SR.now (r : SR K B S H env σ) {p : Addr} (h : H p = none) : ¬ Ow B env σ p := by
  rintro (e | ⟨i, l, e, e2⟩ | ⟨i, l, e⟩)
  · obtain ⟨⟨_, l, cells, pos, big, seed, cnt, bud, h1, _⟩, _⟩ := r.pool p e
    rw [h] at h1
    cases h1
  · obtain ⟨q, vs, h1, _, _, h4, _⟩ := r.own i l e
    cases Slt.ref e2 h1
    rw [h] at h4
    cases h4
  · obtain ⟨_, _, _, vs, h4, _⟩ := r.fix i p l e
    rw [h] at h4
    cases h4
/-- what a rule by values has given: new things alone -/
def NwR (K : PySem.W.Frag) (S H S' H' : Hp) : R → V → Prop
  | .val d, v => Nw S H S' H' ∧ Rep K S' v d
  | .own l, v => Nw S H S' H' ∧ ∃ p vs, v = .ref p ∧ H p = none ∧ S' p = none ∧ H' p = some (.lst vs) ∧ Reps K S' vs l
  | _, _ => False
theorem NwR.nw {r : R} {v : V} (h : NwR K S H S' H' r v) : Nw S H S' H' := by
  cases r with
  | val d => exact h.1
  | own l => exact h.1
  | brw i l => exact h.elim
  | pool => exact h.elim
theorem EPo.of {r : R} {v : V} (s : SR K B S H env σ) (h : NwR K S H S' H' r v) : EPo K B S H env σ S' H' env r v := by
  refine ⟨s.nw h.nw, h.nw.go, .refl _, ?_⟩
  cases r with
  | val d => exact h.2
  | own l =>
    obtain ⟨n, p, vs, e, h1, h2, h3, h4⟩ := h
    exact ⟨p, vs, e, h2, s.hp0 h1, h1, s.now h1, h3, h4⟩
  | brw i l => exact h.elim
  | pool => exact h.elim
/-- two steps, the second one's result -/
theorem EPo.trans {r q : R} {v u : V} (a : EPo K B S H env σ S' H' env' r v) (b : EPo K B S' H' env' σ S'' H'' env'' q u) : EPo K B S H env σ S'' H'' env'' q u := by
  refine ⟨b.sr, a.go.trans b.go fun x o _ n z => n (Ow.frz a.fz z), a.fz.trans b.fz, ?_⟩
  have hq := b.res
  cases q with
  | val d => exact hq
  | own l =>
    obtain ⟨p, vs, e, h1, h2, h3, h4⟩ := hq
    exact ⟨p, vs, e, h1, h2, a.go.old p h3, h4⟩
  | brw i l => exact hq
  | pool => exact hq
/-- looked at: what the value is, its top list perhaps a name's own -/
def RepB (K : PySem.W.Frag) (S H : Hp) (v : V) (d : D) : Prop := Rep K S v d ∨ ∃ p vs l, v = .ref p ∧ d = .lst l ∧ H p = some (.lst vs) ∧ Reps K S vs l
theorem Res.look {r : R} {v : V} (s : SR K B S' H' env' σ) (h : Res K B A H S' H' env' σ r v) : RepB K S' H' v r.data := by
  cases r with
  | val d => exact .inl h
  | own l =>
    obtain ⟨p, vs, e, _, _, _, _, h3, h4⟩ := h
    exact .inr ⟨p, vs, l, e, rfl, h3, h4⟩
  | brw i l =>
    obtain ⟨p, e, h1, h2⟩ := h
    obtain ⟨q, vs, k1, _, _, k4, k5⟩ := s.own i l h2
    cases Slt.ref h1 k1
    exact .inr ⟨p, vs, l, e, rfl, k4, k5⟩
  | pool => exact .inl (.any v)
/-- .. behind a further step -/
theorem EPo.look {r q : R} {v u : V} (a : EPo K B S H env σ S' H' env' r v) (b : EPo K B S' H' env' σ S'' H'' env'' q u) : RepB K S'' H'' v r.data := by
  have h := a.res
  cases r with
  | val d => exact .inl (Rep.mono b.go.ex h)
  | own l =>
    obtain ⟨p, vs, e, h1, _, _, h2, h3, h4⟩ := h
    exact .inr ⟨p, vs, l, e, rfl, b.go.keep p _ h3 h2, h4.mono b.go.ex⟩
  | brw i l =>
    obtain ⟨p, e, h1, h2⟩ := h
    rcases b.fz.2 i with f | ⟨m, f1, f2⟩
    · obtain ⟨q, vs, k1, _, _, k4, k5⟩ := b.sr.own i l (f.trans h2)
      cases Slt.ref h1 k1
      exact .inr ⟨p, vs, l, e, rfl, k4, k5⟩
    · cases Has.inj h2 f1
      obtain ⟨w, k1, k2⟩ := b.sr.val i _ f2
      cases Slt.inj h1 k1
      subst e
      exact .inl k2
  | pool => exact .inl (.any v)
theorem RepB.nw {v : V} {d : D} (h : RepB K S H v d) (n : Nw S H S' H') : RepB K S' H' v d := by
  rcases h with h | ⟨p, vs, l, h1, h2, h3, h4⟩
  · exact .inl (h.mono n.ex)
  · exact .inr ⟨p, vs, l, h1, h2, n.keep _ _ h3, h4.mono n.ex⟩
theorem EPo.t {r : R} {v : V} (a : EPo K B S H env σ S' H' env' r v) : TPo K B S H env σ S' H' env' := ⟨a.sr, a.go, a.fz⟩
theorem TPo.trans (a : TPo K B S H env σ S' H' env') (b : TPo K B S' H' env' σ S'' H'' env'') : TPo K B S H env σ S'' H'' env'' :=
  ⟨b.sr, a.go.trans b.go fun x o _ n z => n (Ow.frz a.fz z), a.fz.trans b.fz⟩
theorem TPo.refl (s : SR K B S H env σ) : TPo K B S H env σ S H env := ⟨s, .refl, .refl _⟩
theorem TPo.e {q : R} {u : V} (a : TPo K B S H env σ S' H' env') (b : EPo K B S' H' env' σ S'' H'' env'' q u) : EPo K B S H env σ S'' H'' env'' q u :=
  EPo.trans (r := .val .any) (v := .non) ⟨a.sr, a.go, a.fz, .any _⟩ b
theorem TPo.nw (a : TPo K B S H env σ S' H' env') (n : Nw S' H' S'' H'') : TPo K B S H env σ S'' H'' env' := a.trans ⟨a.sr.nw n, n.go, .refl _⟩
/-- RepB behind a further test or step -/
theorem RepB.go {v : V} {d : D} {r : R} (a : EPo K B S H env σ S' H' env' r v) (hd : d = r.data) (b : TPo K B S' H' env' σ S'' H'' env'') : RepB K S'' H'' v d := by
  subst hd
  exact a.look (q := .val .any) (u := .non) ⟨b.sr, b.go, b.fz, .any _⟩
end
end DL
end

section
set_option Elab.async false
set_option linter.all false
set_option maxRecDepth 100000
set_option maxHeartbeats 4000000
namespace DL
open PySem L2
open Evl (Ex)

/-! data as Python's == sees it -/
mutual
def toPy : D → PyData
  | .non => .none
  | .bl b => .bool b
  | .int i => .int i
  | .str x => .str x
  | .tup l => .tuple (toPys l)
  | .lst l => .list (toPys l)
  | .ins _ _ _ => .dict []
  | .any => .dict []
  | .err _ _ _ _ _ => .dict []
  | .scr _ => .dict []
def toPys : List D → List PyData
  | [] => []
  | d :: l => toPy d :: toPys l
end
/-! plain data, all the way down -/
mutual
def isDat : D → Bool
  | .non => true
  | .bl _ => true
  | .int _ => true
  | .str _ => true
  | .tup l => isDats l
  | .lst l => isDats l
  | .ins _ _ _ => false
  | .any => false
  | .err _ _ _ _ _ => false
  | .scr _ => false
def isDats : List D → Bool
  | [] => true
  | d :: l => isDat d && isDats l
end
def eqD (x y : D) : Bool := PyData.eqv (toPy x) (toPy y)
def okD (x : D) : Prop := isDat x = true ∧ SeqAt.shaped (toPy x) = true

section
variable {K : PySem.W.Frag} {S H : Hp}
mutual
theorem Rep.dp (e : Ex S H) : ∀ {v : V} {d : D}, Rep K S v d → isDat d = true → Dp K H v (toPy d)
  | _, _, .non, _ => by
    rw [toPy]
    exact .non
  | _, _, .any v, h => by
    rw [isDat] at h
    cases h
  | _, _, .bl b, _ => by
    rw [toPy]
    exact .bl b
  | _, _, .int i, _ => by
    rw [toPy]
    exact .int i
  | _, _, .str x, _ => by
    rw [toPy]
    exact .str x
  | _, _, .lst h r, q => by
    rw [toPy]
    rw [isDat] at q
    exact .lst (SqL.of (e _ _ h)) (Reps.dp e r q)
  | _, _, .tup h r, q => by
    rw [toPy]
    rw [isDat] at q
    exact .tup (Evl.ex_t e h) (Reps.dp e r q)
  | _, _, .ins h h1 h2 r, q => by
    rw [isDat] at q
    cases q
  | _, _, .err h r, q => by
    rw [isDat] at q
    cases q
  | _, _, .scr h, q => by
    rw [isDat] at q
    cases q
theorem Reps.dp (e : Ex S H) : ∀ {v : List V} {d : List D}, Reps K S v d → isDats d = true → DpAll K H v (toPys d)
  | _, _, .nil, _ => by
    rw [toPys]
    exact .nil
  | _, _, .cons h r, q => by
    rw [isDats, Bool.and_eq_true] at q
    rw [toPys]
    exact .cons (Rep.dp e h q.1) (Reps.dp e r q.2)
end
theorem RepB.dp (e : Ex S H) {v : V} {d : D} (h : RepB K S H v d) (q : isDat d = true) : Dp K H v (toPy d) := by
  rcases h with h | ⟨p, vs, l, rfl, rfl, h3, h4⟩
  · exact h.dp e q
  · rw [toPy]
    rw [isDat] at q
    exact .lst (SqL.of h3) (h4.dp e q)
/-- a list that is looked at -/
theorem RepB.lst (e : Ex S H) {v : V} {l : List D} (h : RepB K S H v (.lst l)) : ∃ p vs, v = .ref p ∧ SqL K H p vs ∧ Reps K S vs l := by
  rcases h with h | ⟨p, vs, l, rfl, h2, h3, h4⟩
  · cases h with
    | lst h r => exact ⟨_, _, rfl, SqL.of (e _ _ h), r⟩
  · cases h2
    exact ⟨p, vs, rfl, SqL.of h3, h4⟩
theorem RepB.lstH (e : Ex S H) {v : V} {l : List D} (h : RepB K S H v (.lst l)) : ∃ p vs, v = .ref p ∧ H p = some (.lst vs) ∧ Reps K S vs l := by
  rcases h with h | ⟨p, vs, l, rfl, h2, h3, h4⟩
  · cases h with
    | lst h r => exact ⟨_, _, rfl, e _ _ h, r⟩
  · cases h2
    exact ⟨p, vs, rfl, h3, h4⟩
theorem RepB.tup (e : Ex S H) {v : V} {l : List D} (h : RepB K S H v (.tup l)) : ∃ p vs, v = .ref p ∧ SqT K H p vs ∧ Reps K S vs l := by
  rcases h with h | ⟨p, vs, l, rfl, h2, h3, h4⟩
  · cases h with
    | tup h r => exact ⟨_, _, rfl, Evl.ex_t e h, r⟩
  · cases h2
theorem RepB.int {v : V} {i : Int} (h : RepB K S H v (.int i)) : v = .int i := by
  rcases h with h | ⟨p, vs, l, rfl, h2, h3, h4⟩
  · cases h
    rfl
  · cases h2
theorem RepB.bl {v : V} {i : Bool} (h : RepB K S H v (.bl i)) : v = .bl i := by
  rcases h with h | ⟨p, vs, l, rfl, h2, h3, h4⟩
  · cases h
    rfl
  · cases h2
theorem RepB.str {v : V} {i : Str} (h : RepB K S H v (.str i)) : v = .str i := by
  rcases h with h | ⟨p, vs, l, rfl, h2, h3, h4⟩
  · cases h
    rfl
  · cases h2
theorem RepB.non {v : V} (h : RepB K S H v .non) : v = .non := by
  rcases h with h | ⟨p, vs, l, rfl, h2, h3, h4⟩
  · cases h
    rfl
  · cases h2
theorem RepB.ins {v : V} {C : Addr} {ns : List Str} {l : List D} (h : RepB K S H v (.ins C ns l)) : Rep K S v (.ins C ns l) := by
  rcases h with h | ⟨p, vs, l, rfl, h2, h3, h4⟩
  · exact h
  · cases h2
/-- is it None? -/
def isNon : D → Option Bool
  | .non => some true
  | .any => none
  | _ => some false
theorem RepB.isNon {v : V} {d : D} (h : RepB K S H v d) {b : Bool} (e : isNon d = some b) : decide (v = V.non) = b := by
  rcases h with h | ⟨p, vs, l, rfl, rfl, h3, h4⟩
  · cases h <;> first
      | (cases e; rfl)
      | cases e
  · cases e
    rfl
end

/-! ### rules by values -/
abbrev M1 := D → (R → Prop) → Prop
abbrev M2 := D → D → (R → Prop) → Prop
abbrev MA := List D → (R → Prop) → Prop
/-- two values looked at, new things made -/
def OpD (K : PySem.W.Frag) (r : R2) (m : M2) : Prop := ∀ (S H : Hp) (x y : V) (dx dy : D) (Q : R → Prop) (Qv : VK), Ex S H → RepB K S H x dx → RepB K S H y dy → m dx dy Q →
  (∀ v H' S' q, NwR K S H S' H' q v → Q q → Qv v H') → r x y H Qv
def UnD (K : PySem.W.Frag) (r : V → Hp → VK → Prop) (m : M1) : Prop := ∀ (S H : Hp) (x : V) (dx : D) (Q : R → Prop) (Qv : VK), Ex S H → RepB K S H x dx → m dx Q →
  (∀ v H' S' q, NwR K S H S' H' q v → Q q → Qv v H') → r x H Qv
inductive RepBs (K : PySem.W.Frag) (S H : Hp) : List V → List D → Prop
  | nil : RepBs K S H [] []
  | cons {v : V} {vs : List V} {d : D} {ds : List D} : RepB K S H v d → RepBs K S H vs ds → RepBs K S H (v :: vs) (d :: ds)
def CallD (K : PySem.W.Frag) (r : List V → Hp → VK → Prop) (m : MA) : Prop := ∀ (S H : Hp) (vs : List V) (ds : List D) (Q : R → Prop) (Qv : VK), Ex S H → RepBs K S H vs ds → m ds Q →
  (∀ v H' S' q, NwR K S H S' H' q v → Q q → Qv v H') → r vs H Qv
theorem RepBs.nw {K : PySem.W.Frag} {S H S' H' : Hp} (n : Nw S H S' H') : ∀ {vs : List V} {ds : List D}, RepBs K S H vs ds → RepBs K S' H' vs ds
  | _, _, .nil => .nil
  | _, _, .cons h r => .cons (h.nw n) (RepBs.nw n r)

def tTruth (K : PySem.W.Frag) (ta : TE) : TT := fun σ H Q => ta σ H fun x H' => ∃ k, TruV K x H' k ∧ Q k H'
/-! ### expressions -/
def dVar (i : Nat) : DM := fun env Q => match env[i]? with
  | some (some (.val d)) => Q env (.val d)
  | some (some (.own l)) => Q env (.brw i l)
  | some (some .pool) => Q env .pool
  | _ => False
def dC (d : D) : DM := fun env Q => Q env (.val d)
/-- what is kept: a list of one's own stands still from now on -/
def dKeep (m : DM) : DM := fun env Q => m env fun env' r => match r with
  | .val d => Q env' (.val d)
  | .own l => Q env' (.val (.lst l))
  | .brw i l => Q (env'.set i (some (.val (.lst l)))) (.val (.lst l))
  | .pool => Q env' .pool
def dOp (m : M2) (ma mb : DM) : DM := fun env Q => ma env fun env1 r1 => mb env1 fun env2 r2 => m r1.data r2.data fun q => Q env2 q
def dUn (m : M1) (ma : DM) : DM := fun env Q => ma env fun env1 r1 => m r1.data fun q => Q env1 q
/-- both ways of a test -/
def dIte (c : Bool) (p q : Prop) : Prop := (c = true → p) ∧ (c = false → q)
theorem dIte_of {c : Bool} {p q : Prop} (h1 : c = true → p) (h2 : c = false → q) : dIte c p q := ⟨h1, h2⟩
theorem dIte_t {p q : Prop} (h : dIte true p q) : p := h.1 rfl
theorem dIte_f {p q : Prop} (h : dIte false p q) : q := h.2 rfl
def dIf (t : DTM) (ma mb : DM) : DM := fun env Q => t env fun env1 c => dIte c (ma env1 Q) (mb env1 Q)
def dAndV (ma mb : DM) : DM := fun env Q => ma env fun env1 r => match r with
  | .val (.bl c) => dIte c (mb env1 Q) (Q env1 (.val (.bl false)))
  | _ => False
def dOrV (ma mb : DM) : DM := fun env Q => ma env fun env1 r => match r with
  | .val (.bl c) => dIte c (Q env1 (.val (.bl true))) (mb env1 Q)
  | _ => False
def dNotV (ma : DM) : DM := fun env Q => ma env fun env1 r => match r with
  | .val (.bl c) => Q env1 (.val (.bl (!c)))
  | _ => False
/-- tests -/
def dB (m : DM) : DTM := fun env Q => m env fun env1 r => match r with
  | .val (.bl c) => Q env1 c
  | _ => False
def dAnd (ma mb : DTM) : DTM := fun env Q => ma env fun env1 c => dIte c (mb env1 Q) (Q env1 false)
def dOr (ma mb : DTM) : DTM := fun env Q => ma env fun env1 c => dIte c (Q env1 true) (mb env1 Q)
def dNot (ma : DTM) : DTM := fun env Q => ma env fun env1 c => Q env1 (!c)
/-- a value's truth -/
def truD : D → Option Bool
  | .non => some false
  | .bl b => some b
  | .int i => some (i != 0)
  | .str x => if x.length ≤ sizeLine then some ((x.length : Int) != 0) else none
  | .lst l => some (!l.isEmpty)
  | .tup l => some (!l.isEmpty)
  | _ => none
def dTru (m : DM) : DTM := fun env Q => m env fun env1 r => ∃ b, truD r.data = some b ∧ Q env1 b

section
variable {X : Cx} {a b c : Expr} {ma mb mc : DM} {pos : Pos} {ta tb : TE} {tc td : TT}
theorem Frz.set {env : En} {i : Nat} {l : List D} (h : Has env i (.own l)) : Frz env (env.set i (some (.val (.lst l)))) := ⟨List.length_set, fun j => by
  by_cases c : i = j
  · subst c
    refine .inr ⟨l, h, ?_⟩
    have : i < env.length := (List.getElem?_eq_some_iff.mp h).1
    show (env.set i _)[i]? = _
    rw [List.getElem?_set_self this]
  · exact .inl (List.getElem?_set_ne c)⟩
/-- a name's list stands still from now on -/
theorem SR.frz {K : PySem.W.Frag} {B : Bs} {S H : Hp} {env : En} {σ : St} {i : Nat} {l : List D} (s : SR K B S H env σ) (h : Has env i (.own l)) :
    ∃ p S', Slt σ i (.ref p) ∧ TPo K B S H env σ S' H (env.set i (some (.val (.lst l)))) ∧ Rep K S' (.ref p) (.lst l) := by
  have hh := h
  obtain ⟨p, vs, h1, h2, h3, h4, h5⟩ := s.own i l h
  have e1 : Ex S (upd S p (.lst vs)) := Ex.new h2
  have nx : ∀ a, a ≠ p → upd S p (.lst vs) a = S a := fun a c => upd_ne c
  have hp : ∀ a, B.pa = some a → a ≠ p := fun a e c => by
    obtain ⟨_, o, q⟩ := s.pool a e
    rw [c, h3] at q
    cases q
  have rp : Rep K (upd S p (.lst vs)) (.ref p) (.lst l) := .lst upd_same (h5.mono e1)
  have hi : i < env.length := (List.getElem?_eq_some_iff.mp h).1
  have self : (env.set i (some (.val (.lst l))))[i]? = some (some (.val (.lst l))) := List.getElem?_set_self hi
  have other : ∀ j, j ≠ i → (env.set i (some (.val (.lst l))))[j]? = env[j]? := fun j c => List.getElem?_set_ne (Ne.symm c)
  refine ⟨p, upd S p (.lst vs), h1, ⟨⟨s.ex0.trans e1, fun a o h e => ?_, s.keep0, s.old0, by rw [List.length_set]; exact s.len, fun a o q => ?_, fun j d hj => ?_, fun j m hj => ?_, fun j k m n q hj hk r1 r2 => ?_, fun j hj => ?_, fun a e => ?_, fun j q m hj => ?_, fun j k q m n hj hk r1 => ?_, fun j k q m n hj hk => ?_, s.pin⟩, ⟨e1, fun _ _ h _ => h, fun a o _ n e => ?_, fun _ h => h⟩, .set hh⟩, rp⟩
  · rw [nx a (fun c => by rw [c, h3] at h; cases h)]
    exact s.nw0 a o h e
  · by_cases c : a = p
    · subst c
      rw [upd_same] at q
      cases q
      exact h4
    · rw [nx a c] at q
      exact s.ex a o q
  · by_cases c : j = i
    · subst c
      rw [Has.inj hj self |> fun z => (by injection z : d = .lst l)]
      exact ⟨_, h1, rp⟩
    · obtain ⟨v, q1, q2⟩ := s.val j d ((other j c).symm.trans hj)
      exact ⟨v, q1, q2.mono e1⟩
  · by_cases c : j = i
    · subst c
      exact nomatch Has.inj hj self
    · have hj' : Has env j (.own m) := (other j c).symm.trans hj
      obtain ⟨q, ws, q1, q2, q3, q4, q5⟩ := s.own j m hj'
      refine ⟨q, ws, q1, ?_, q3, q4, q5.mono e1⟩
      rw [nx q (fun z => c (s.dis j i m l p hj' h (z ▸ q1) h1))]
      exact q2
  · have c1 : j ≠ i := fun z => by
      subst z
      exact nomatch Has.inj hj self
    have c2 : k ≠ i := fun z => by
      subst z
      exact nomatch Has.inj hk self
    exact s.dis j k m n q ((other j c1).symm.trans hj) ((other k c2).symm.trans hk) r1 r2
  · by_cases c : j = i
    · subst c
      exact nomatch Has.inj hj self
    · exact s.pl j ((other j c).symm.trans hj)
  · obtain ⟨⟨z, l', cells, pos, big, seed, cnt, bud, k1, k2, k3⟩, o⟩ := s.pool a e
    exact ⟨⟨(nx a (hp a e)).trans z, l', cells, pos, big, seed, cnt, bud, k1, e1 _ _ k2, k3⟩, o⟩
  · have c : j ≠ i := fun c => by
      subst c
      exact nomatch Has.inj hj self
    have hj' := (other j c).symm.trans hj
    obtain ⟨k1, k2, k3, ws, k4, k5⟩ := s.fix j q m hj'
    refine ⟨k1, ?_, k3, ws, k4, k5.mono e1⟩
    rw [nx q (fun z => s.dfx j i q m l hj' h (z ▸ h1))]
    exact k2
  · have c1 : j ≠ i := fun c => by
      subst c
      exact nomatch Has.inj hj self
    have c2 : k ≠ i := fun c => by
      subst c
      exact nomatch Has.inj hk self
    exact s.dfx j k q m n ((other j c1).symm.trans hj) ((other k c2).symm.trans hk) r1
  · have c1 : j ≠ i := fun c => by
      subst c
      exact nomatch Has.inj hj self
    have c2 : k ≠ i := fun c => by
      subst c
      exact nomatch Has.inj hk self
    exact s.dff j k q m n ((other j c1).symm.trans hj) ((other k c2).symm.trans hk)
  · rw [nx a (fun c => n (.inr (.inl ⟨i, l, hh, c ▸ h1⟩)))]
    exact e
theorem de_var (i : Nat) (h : PE X a (tVar i)) : DE X a (dVar i) (tVar i) := by
  refine ⟨h, fun B S H env σ Q Qv s m k => ?_⟩
  unfold dVar at m
  split at m
  · rename_i d e
    obtain ⟨v, h1, h2⟩ := s.val i d e
    exact ⟨v, h1, k v H S env (.val d) ⟨s, .refl, .refl _, h2⟩ m⟩
  · rename_i l e
    obtain ⟨p, vs, h1, h2, h3, h4, h5⟩ := s.own i l e
    exact ⟨_, h1, k _ H S env (.brw i l) ⟨s, .refl, .refl _, p, rfl, h1, e⟩ m⟩
  · rename_i e
    obtain ⟨a, h1, h2⟩ := s.pl i e
    exact ⟨_, h2, k _ H S env .pool ⟨s, .refl, .refl _, a, h1, rfl⟩ m⟩
  · exact m.elim
theorem de_c {v : V} {d : D} (h : PE X a (tC v)) (r : ∀ K S, Rep K S v d) : DE X a (dC d) (tC v) :=
  ⟨h, fun B S H env σ Q Qv s m k => k v H S env (.val d) ⟨s, .refl, .refl _, r _ _⟩ m⟩
theorem de_int {i : Int} {j pos} : DE X (.Constant (.int i) j pos) (dC (.int i)) (tC (.int i)) := de_c pe_int fun _ _ => .int i
theorem de_bl {i : Bool} {j pos} : DE X (.Constant (.bool i) j pos) (dC (.bl i)) (tC (.bl i)) := de_c pe_bl fun _ _ => .bl i
theorem de_str {i : Str} {j pos} : DE X (.Constant (.str i) j pos) (dC (.str i)) (tC (.str i)) := de_c pe_str fun _ _ => .str i
theorem de_non {j pos} : DE X (.Constant .none j pos) (dC .non) (tC .non) := de_c pe_non fun _ _ => .non
/-- a list of one's own is known from now on -/
theorem SR.add {K : PySem.W.Frag} {B : Bs} {S H : Hp} {env : En} {σ : St} {p : Addr} {o' : HO} (s : SR K B S H env σ) (z1 : S p = none) (z2 : B.H0 p = none) (z4 : ¬ Ow B env σ p) (z5 : H p = some o') : SR K B (upd S p o') H env σ := by
  have e1 : Ex S (upd S p o') := Ex.new z1
  have nx : ∀ b, b ≠ p → upd S p o' b = S b := fun b c => upd_ne c
  refine ⟨s.ex0.trans e1, fun b o h1 h2 => ?_, s.keep0, s.old0, s.len, fun b o h1 => ?_, fun i d h1 => ?_, fun i m h1 => ?_, s.dis, s.pl, fun b h1 => ?_, fun i q m h1 => ?_, s.dfx, s.dff, s.pin⟩
  · rw [nx b (fun c => by rw [c, z2] at h1; cases h1)]
    exact s.nw0 b o h1 h2
  · by_cases c : b = p
    · subst c
      rw [upd_same] at h1
      cases h1
      exact z5
    · rw [nx b c] at h1
      exact s.ex b o h1
  · obtain ⟨v, q1, q2⟩ := s.val i d h1
    exact ⟨v, q1, q2.mono e1⟩
  · obtain ⟨q, ws, q1, q2, q3, q4, q5⟩ := s.own i m h1
    refine ⟨q, ws, q1, ?_, q3, q4, q5.mono e1⟩
    rw [nx q (fun c => z4 (.inr (.inl ⟨i, m, h1, c ▸ q1⟩)))]
    exact q2
  · obtain ⟨⟨y, l', cells, pos, big, seed, cnt, bud, k1, k2, k3⟩, o⟩ := s.pool b h1
    exact ⟨⟨(nx b (fun c => z4 (.inl (c ▸ h1)))).trans y, l', cells, pos, big, seed, cnt, bud, k1, e1 _ _ k2, k3⟩, o⟩
  · obtain ⟨k1, k2, k3, ws, k4, k5⟩ := s.fix i q m h1
    refine ⟨k1, ?_, k3, ws, k4, k5.mono e1⟩
    rw [nx q (fun c => z4 (.inr (.inr ⟨i, m, c ▸ h1⟩)))]
    exact k2
theorem de_keep (h : DE X a ma ta) : DE X a (dKeep ma) ta := by
  obtain ⟨h1, h2⟩ := h
  refine ⟨h1, fun B S H env σ Q Qv s m k => h2 B S H env σ _ Qv s m fun v H' S' env' r e q => ?_⟩
  have er := e.res
  cases r with
  | val d => exact k v H' S' env' _ e q
  | own l =>
    obtain ⟨p, vs, rfl, z1, z2, z3, z4, z5, z6⟩ := er
    have ne : ∀ b o, H b = some o → b ≠ p := fun b o q z => by rw [z, z3] at q; cases q
    have e1 : Ex S' (upd S' p (.lst vs)) := Ex.new z1
    exact k _ H' (upd S' p (.lst vs)) env' (.val (.lst l)) ⟨e.sr.add z1 z2 z4 z5, ⟨e.go.ex.trans e1, e.go.keep, fun b o h1 h2 h3 => by rw [upd_ne (ne b o h1)]; exact e.go.nw b o h1 h2 h3, e.go.old⟩, e.fz, .lst upd_same (z6.mono e1)⟩ q
  | brw i l =>
    obtain ⟨p, rfl, z1, z2⟩ := er
    obtain ⟨p', S2, y1, y2, y3⟩ := e.sr.frz z2
    cases Slt.ref z1 y1
    exact k _ H' S2 _ (.val (.lst l)) (e.t.e ⟨y2.sr, y2.go, y2.fz, y3⟩) q
  | pool => exact k v H' S' env' .pool e q
/-- behind the operands: what a rule by values has given -/
theorem EPo.fin {K : PySem.W.Frag} {B : Bs} {S H S' H' S'' H'' : Hp} {env env' : En} {σ : St} {q : R} {v : V} (t : TPo K B S H env σ S' H' env') (n : NwR K S' H' S'' H'' q v) : EPo K B S H env σ S'' H'' env' q v := t.e (.of t.sr n)
theorem EPo.look1 {K : PySem.W.Frag} {B : Bs} {S H S' H' : Hp} {env env' : En} {σ : St} {q : R} {v : V} (e : EPo K B S H env σ S' H' env' q v) : RepB K S' H' v q.data := e.res.look e.sr
theorem de_op {op : Operator} {r : R2} {m : M2} (ho : OpR X (binaryOp op) r) (hd : OpD X.K r m) (ha : DE X a ma ta) (hb : DE X b mb tb) : DE X (.BinOp a op b pos) (dOp m ma mb) (tOp r ta tb) := by
  obtain ⟨a1, a2⟩ := ha
  obtain ⟨b1, b2⟩ := hb
  refine ⟨pe_op ho a1 b1, fun B S H env σ Q Qv s q k => ?_⟩
  refine a2 B S H env σ _ _ s q fun x H1 S1 env1 r1 e1 q1 => ?_
  refine b2 B S1 H1 env1 σ _ _ e1.sr q1 fun y H2 S2 env2 r2 e2 q2 => ?_
  exact hd S2 H2 x y _ _ _ _ e2.sr.ex (e1.look e2) e2.look1 q2 fun v H3 S3 q n q3 => k v H3 S3 env2 q (.fin (e1.t.trans e2.t) n) q3
theorem de_cmp {op : CmpOp} {r : R2} {m : M2} (ho : OpR X (compareOp op) r) (hd : OpD X.K r m) (ha : DE X a ma ta) (hb : DE X b mb tb) (hm : behindInMarks op b = false) : DE X (.Compare a [op] [b] pos) (dOp m ma mb) (tOp r ta tb) := by
  obtain ⟨a1, a2⟩ := ha
  obtain ⟨b1, b2⟩ := hb
  refine ⟨pe_cmpR ho a1 b1 hm, fun B S H env σ Q Qv s q k => ?_⟩
  refine a2 B S H env σ _ _ s q fun x H1 S1 env1 r1 e1 q1 => ?_
  refine b2 B S1 H1 env1 σ _ _ e1.sr q1 fun y H2 S2 env2 r2 e2 q2 => ?_
  exact hd S2 H2 x y _ _ _ _ e2.sr.ex (e1.look e2) e2.look1 q2 fun v H3 S3 q n q3 => k v H3 S3 env2 q (.fin (e1.t.trans e2.t) n) q3
theorem de_ix {r : R2} {m : M2} (ho : IxR X r) (hd : OpD X.K r m) (ha : DE X a ma ta) (hb : DE X b mb tb) (hs : PlainIx b) : DE X (.Subscript a b pos) (dOp m ma mb) (tOp r ta tb) := by
  obtain ⟨a1, a2⟩ := ha
  obtain ⟨b1, b2⟩ := hb
  refine ⟨pe_ix ho a1 b1 hs, fun B S H env σ Q Qv s q k => ?_⟩
  refine a2 B S H env σ _ _ s q fun x H1 S1 env1 r1 e1 q1 => ?_
  refine b2 B S1 H1 env1 σ _ _ e1.sr q1 fun y H2 S2 env2 r2 e2 q2 => ?_
  exact hd S2 H2 x y _ _ _ _ e2.sr.ex (e1.look e2) e2.look1 q2 fun v H3 S3 q n q3 => k v H3 S3 env2 q (.fin (e1.t.trans e2.t) n) q3
theorem de_un {op : UnaryOp} {r : V → Hp → VK → Prop} {m : M1} (ho : UnR X (unaryOp op) r) (hd : UnD X.K r m) (ha : DE X a ma ta) : DE X (.UnaryOp op a pos) (dUn m ma) (tUn r ta) := by
  obtain ⟨a1, a2⟩ := ha
  refine ⟨pe_un ho a1, fun B S H env σ Q Qv s q k => ?_⟩
  refine a2 B S H env σ _ _ s q fun x H1 S1 env1 r1 e1 q1 => ?_
  exact hd S1 H1 x _ _ _ e1.sr.ex e1.look1 q1 fun v H3 S3 q n q3 => k v H3 S3 env1 q (.fin e1.t n) q3
theorem de_if {t : DTM} (hc : DT X c t tc) (ha : DE X a ma ta) (hb : DE X b mb tb) : DE X (.IfExp c a b pos) (dIf t ma mb) (L2.tIf tc ta tb) := by
  obtain ⟨c1, c2⟩ := hc
  obtain ⟨a1, a2⟩ := ha
  obtain ⟨b1, b2⟩ := hb
  refine ⟨pe_ifExp c1 a1 b1, fun B S H env σ Q Qv s q k => ?_⟩
  refine c2 B S H env σ _ _ s q fun c H1 S1 env1 e1 q1 => ?_
  cases c with
  | true => exact a2 B S1 H1 env1 σ _ _ e1.sr (dIte_t q1) fun v H2 S2 env2 r2 e2 q2 => k v H2 S2 env2 r2 (e1.e e2) q2
  | false => exact b2 B S1 H1 env1 σ _ _ e1.sr (dIte_f q1) fun v H2 S2 env2 r2 e2 q2 => k v H2 S2 env2 r2 (e1.e e2) q2
theorem Res.bl {K : PySem.W.Frag} {B : Bs} {A : Addr → Prop} {H S' H' : Hp} {env' : En} {σ : St} {c : Bool} {v : V} (h : Res K B A H S' H' env' σ (.val (.bl c)) v) : v = .bl c := by
  have h' : Rep K S' v (.bl c) := h
  cases h'
  rfl
theorem de_one {op : BoolOp} (ha : DE X a ma ta) : DE X (.BoolOp op [a] pos) ma ta := by
  obtain ⟨a1, a2⟩ := ha
  exact ⟨pe_one a1, a2⟩
theorem de_and {rest : List Expr} (ha : DE X a ma ta) (hb : DE X (.BoolOp .And (b :: rest) pos) mb tb) : DE X (.BoolOp .And (a :: b :: rest) pos) (dAndV ma mb) (tAndV ta tb) := by
  obtain ⟨a1, a2⟩ := ha
  obtain ⟨b1, b2⟩ := hb
  refine ⟨pe_and a1 b1, fun B S H env σ Q Qv s q k => ?_⟩
  refine a2 B S H env σ _ _ s q fun x H1 S1 env1 r1 e1 q1 => ?_
  split at q1
  · rename_i c
    refine ⟨c, e1.res.bl, ?_⟩
    cases c with
    | true => exact b2 B S1 H1 env1 σ _ _ e1.sr (dIte_t q1) fun v H2 S2 env2 r2 e2 q2 => k v H2 S2 env2 r2 (e1.t.e e2) q2
    | false => exact k _ H1 S1 env1 (.val (.bl false)) ⟨e1.sr, e1.go, e1.fz, Rep.bl _⟩ (dIte_f q1)
  · exact q1.elim
theorem de_or {rest : List Expr} (ha : DE X a ma ta) (hb : DE X (.BoolOp .Or (b :: rest) pos) mb tb) : DE X (.BoolOp .Or (a :: b :: rest) pos) (dOrV ma mb) (tOrV ta tb) := by
  obtain ⟨a1, a2⟩ := ha
  obtain ⟨b1, b2⟩ := hb
  refine ⟨pe_or a1 b1, fun B S H env σ Q Qv s q k => ?_⟩
  refine a2 B S H env σ _ _ s q fun x H1 S1 env1 r1 e1 q1 => ?_
  split at q1
  · rename_i c
    refine ⟨c, e1.res.bl, ?_⟩
    cases c with
    | true => exact k _ H1 S1 env1 (.val (.bl true)) ⟨e1.sr, e1.go, e1.fz, Rep.bl _⟩ (dIte_t q1)
    | false => exact b2 B S1 H1 env1 σ _ _ e1.sr (dIte_f q1) fun v H2 S2 env2 r2 e2 q2 => k v H2 S2 env2 r2 (e1.t.e e2) q2
  · exact q1.elim
theorem de_not (ha : DE X a ma ta) : DE X (.UnaryOp .Not a pos) (dNotV ma) (tNotV ta) := by
  obtain ⟨a1, a2⟩ := ha
  refine ⟨pe_not a1, fun B S H env σ Q Qv s q k => ?_⟩
  refine a2 B S H env σ _ _ s q fun x H1 S1 env1 r1 e1 q1 => ?_
  split at q1
  · rename_i c
    exact ⟨c, e1.res.bl, k _ H1 S1 env1 (.val (.bl (!c))) ⟨e1.sr, e1.go, e1.fz, Rep.bl _⟩ q1⟩
  · exact q1.elim

/-! ### tests -/
def DW (X : Cx) (e : Expr) (m : DTM) (t : TT) : Prop := PW X e t ∧ ∀ (B : Bs) (S H : Hp) (env : En) (σ : St) (Q : En → Bool → Prop) (Qv : Bool → Hp → Prop), SR X.K B S H env σ → m env Q →
  (∀ b H' S' env', TPo X.K B S H env σ S' H' env' → Q env' b → Qv b H') → t σ H Qv
theorem DW.dt {e : Expr} {m : DTM} (h : DW X e m tc) : DT X e m tc := by
  obtain ⟨h1, h2⟩ := h
  exact ⟨h1.pt, h2⟩
theorem dt_val (ha : DE X a ma ta) (he : ∀ whole, isTrue a X.env whole = (do let v ← whole; standAt a.pos; holding [v] (truthy v)) := by intro _; rfl) : DT X a (dB ma) (tB ta) := by
  obtain ⟨a1, a2⟩ := ha
  refine ⟨pt_val a1 he, fun B S H env σ Q Qv s q k => ?_⟩
  refine a2 B S H env σ _ _ s q fun x H1 S1 env1 r1 e1 q1 => ?_
  split at q1
  · rename_i c
    exact ⟨c, e1.res.bl, k _ H1 S1 env1 e1.t q1⟩
  · exact q1.elim
theorem dt_cmp {op : CmpOp} {r : R2} {m : M2} (ho : OpR X (compareOp op) r) (hd : OpD X.K r m) (ha : DE X a ma ta) (hb : DE X b mb tb) (hm : behindInMarks op b = false) : DT X (.Compare a [op] [b] pos) (dB (dOp m ma mb)) (tTest (tOp r ta tb)) := by
  obtain ⟨a1, a2⟩ := ha
  obtain ⟨b1, b2⟩ := hb
  refine ⟨pt_cmpR ho a1 b1 hm, fun B S H env σ Q Qv s q k => ?_⟩
  refine a2 B S H env σ _ _ s q fun x H1 S1 env1 r1 e1 q1 => ?_
  refine b2 B S1 H1 env1 σ _ _ e1.sr q1 fun y H2 S2 env2 r2 e2 q2 => ?_
  refine hd S2 H2 x y _ _ _ _ e2.sr.ex (e1.look e2) e2.look1 q2 fun v H3 S3 q n q3 => ?_
  have f := EPo.fin (e1.t.trans e2.t) n
  dsimp only at q3
  split at q3
  · rename_i c
    exact ⟨c, f.res.bl, k _ H3 S3 env2 f.t q3⟩
  · exact q3.elim
theorem dw_and1 {m : DTM} (ha : DT X a m tc) : DW X (.BoolOp .And [a] pos) m tc := by
  obtain ⟨a1, a2⟩ := ha
  exact ⟨pw_and1 a1, a2⟩
theorem dw_or1 {m : DTM} (ha : DT X a m tc) : DW X (.BoolOp .Or [a] pos) m tc := by
  obtain ⟨a1, a2⟩ := ha
  exact ⟨pw_or1 a1, a2⟩
theorem dw_and {m n : DTM} {rest : List Expr} (ha : DT X a m tc) (hb : DW X (.BoolOp .And (b :: rest) pos) n td) : DW X (.BoolOp .And (a :: b :: rest) pos) (dAnd m n) (tAnd tc td) := by
  obtain ⟨a1, a2⟩ := ha
  obtain ⟨b1, b2⟩ := hb
  refine ⟨pw_and a1 b1, fun B S H env σ Q Qv s q k => ?_⟩
  refine a2 B S H env σ _ _ s q fun c H1 S1 env1 e1 q1 => ?_
  cases c with
  | true => exact b2 B S1 H1 env1 σ _ _ e1.sr (dIte_t q1) fun v H2 S2 env2 e2 q2 => k v H2 S2 env2 (e1.trans e2) q2
  | false => exact k _ H1 S1 env1 e1 (dIte_f q1)
theorem dw_or {m n : DTM} {rest : List Expr} (ha : DT X a m tc) (hb : DW X (.BoolOp .Or (b :: rest) pos) n td) : DW X (.BoolOp .Or (a :: b :: rest) pos) (dOr m n) (tOr tc td) := by
  obtain ⟨a1, a2⟩ := ha
  obtain ⟨b1, b2⟩ := hb
  refine ⟨pw_or a1 b1, fun B S H env σ Q Qv s q k => ?_⟩
  refine a2 B S H env σ _ _ s q fun c H1 S1 env1 e1 q1 => ?_
  cases c with
  | true => exact k _ H1 S1 env1 e1 (dIte_t q1)
  | false => exact b2 B S1 H1 env1 σ _ _ e1.sr (dIte_f q1) fun v H2 S2 env2 e2 q2 => k v H2 S2 env2 (e1.trans e2) q2
theorem dt_not {m : DTM} (ha : DT X a m tc) : DT X (.UnaryOp .Not a pos) (dNot m) (tNot tc) := by
  obtain ⟨a1, a2⟩ := ha
  refine ⟨pt_not a1, fun B S H env σ Q Qv s q k => ?_⟩
  exact a2 B S H env σ _ _ s q fun c H1 S1 env1 e1 q1 => k _ H1 S1 env1 e1 q1
theorem RepB.tru {K : PySem.W.Frag} {S H : Hp} {v : V} {d : D} {b : Bool} (e : Ex S H) (h : RepB K S H v d) (q : truD d = some b) : TruV K v H b := by
  have em : ∀ {vs : List V} {l : List D}, Reps K S vs l → (!l.isEmpty) = !vs.isEmpty := fun r => by cases r <;> rfl
  cases d with
  | non => rw [h.non]; cases q; rfl
  | bl c => rw [h.bl]; cases q; rfl
  | int i => rw [h.int]; cases q; rfl
  | str x =>
    rw [h.str]
    have q' : (if x.length ≤ sizeLine then some ((x.length : Int) != 0) else Option.none) = some b := q
    split at q'
    · rename_i c
      cases q'
      exact ⟨c, rfl⟩
    · cases q'
  | lst l =>
    obtain ⟨p, vs, rfl, h1, h2⟩ := h.lst e
    cases q
    exact .inl ⟨vs, h1, em h2⟩
  | tup l =>
    obtain ⟨p, vs, rfl, h1, h2⟩ := h.tup e
    cases q
    exact .inr (.inl ⟨vs, h1, em h2⟩)
  | ins C ns l => cases q
  | any => cases q
  | err _ _ _ _ _ => cases q
  | scr _ => cases q
theorem dt_tru (ha : DE X a ma ta) (he : ∀ whole, isTrue a X.env whole = (do let v ← whole; standAt a.pos; holding [v] (truthy v)) := by intro _; rfl) : DT X a (dTru ma) (tTruth X.K ta) := by
  obtain ⟨a1, a2⟩ := ha
  refine ⟨pt_truth a1 he, fun B S H env σ Q Qv s q k => ?_⟩
  refine a2 B S H env σ _ _ s q fun x H1 S1 env1 r1 e1 q1 => ?_
  obtain ⟨b, h1, h2⟩ := q1
  exact ⟨b, e1.look1.tru e1.sr.ex h1, k _ H1 S1 env1 e1.t h2⟩

/-! ### arguments, displays, calls of built-ins -/
abbrev DAM := En → (En → List R → Prop) → Prop
/-- a value looked at, or the pool -/
inductive LkA (K : PySem.W.Frag) (B : Bs) (S H : Hp) : List V → List R → Prop
  | nil : LkA K B S H [] []
  | cons {v : V} {vs : List V} {r : R} {rs : List R} : RepB K S H v r.data → (∀ d, r = .val d → Rep K S v d) → (r = .pool → ∃ a, B.pa = some a ∧ v = .ref a) → LkA K B S H vs rs → LkA K B S H (v :: vs) (r :: rs)
def DA (X : Cx) (es : List Expr) (m : DAM) (t : TA) : Prop := PA X es t ∧ ∀ (B : Bs) (S H : Hp) (env : En) (σ : St) (Q : En → List R → Prop) (Qv : List V → Hp → Prop), SR X.K B S H env σ → m env Q →
  (∀ vs H' S' env' rs, TPo X.K B S H env σ S' H' env' → LkA X.K B S' H' vs rs → vs.length = es.length → Q env' rs → Qv vs H') → t σ H Qv
def dNil : DAM := fun env Q => Q env []
def dCons (m : DM) (n : DAM) : DAM := fun env Q => m env fun env1 r => n env1 fun env2 rs => Q env2 (r :: rs)
theorem da_nil : DA X [] dNil tNil := ⟨pa_nil, fun B S H env σ Q Qv s q k => k [] H S env [] (.refl s) .nil rfl q⟩
theorem da_cons {es : List Expr} {n : DAM} {tn : TA} (ha : DE X a ma ta) (hb : DA X es n tn) (hs : starEach (a :: es) X.env = (false, eval a X.env) :: starEach es X.env := by rfl) : DA X (a :: es) (dCons ma n) (tCons ta tn) := by
  obtain ⟨a1, a2⟩ := ha
  obtain ⟨b1, b2⟩ := hb
  refine ⟨pa_cons a1 b1 hs, fun B S H env σ Q Qv s q k => ?_⟩
  refine a2 B S H env σ _ _ s q fun x H1 S1 env1 r1 e1 q1 => ?_
  refine b2 B S1 H1 env1 σ _ _ e1.sr q1 fun vs H2 S2 env2 rs e2 l2 len2 q2 => ?_
  refine k _ H2 S2 env2 _ (e1.t.trans e2) (.cons (RepB.go e1 rfl e2) (fun d e => ?_) (fun e => ?_) l2) (by rw [List.length_cons, List.length_cons, len2]) q2
  · subst e
    have := e1.res
    exact Rep.mono e2.go.ex this
  · subst e
    exact e1.res
/-- plain values -/
def vals : List R → Option (List D)
  | [] => some []
  | .val d :: r => (vals r).map (d :: ·)
  | _ => none
theorem LkA.vals {K : PySem.W.Frag} {B : Bs} {S H : Hp} : ∀ {vs : List V} {rs : List R} {ds : List D}, LkA K B S H vs rs → vals rs = some ds → Reps K S vs ds
  | _, _, ds, .nil, e => by
    cases e
    exact .nil
  | _, _, ds, .cons (r := r) (rs := rs) h k p t, e => by
    cases r with
    | val d =>
      have e' : (DL.vals rs).map (d :: ·) = some ds := e
      cases q : DL.vals rs with
      | none =>
        rw [q] at e'
        cases e'
      | some l =>
        rw [q] at e'
        cases e'
        exact .cons (k d rfl) (LkA.vals t q)
    | own l => cases e
    | brw i l => cases e
    | pool => cases e
theorem LkA.repBs {K : PySem.W.Frag} {B : Bs} {S H : Hp} : ∀ {vs : List V} {rs : List R}, LkA K B S H vs rs → RepBs K S H vs (rs.map R.data)
  | _, _, .nil => .nil
  | _, _, .cons h k p t => .cons h (LkA.repBs t)
def dTup (n : DAM) : DM := fun env Q => n env fun env' rs => ∃ ds, vals rs = some ds ∧ ds.length ≤ sizeLine ∧ Q env' (.val (.tup ds))
def dLst (n : DAM) : DM := fun env Q => n env fun env' rs => ∃ ds, vals rs = some ds ∧ ds.length ≤ sizeLine ∧ Q env' (.own ds)
def dCB (m : MA) (n : DAM) : DM := fun env Q => n env fun env' rs => m (rs.map R.data) fun q => Q env' q
theorem de_tup {es : List Expr} {x1} {n : DAM} {tn : TA} (h : DA X es n tn) : DE X (.Tuple es x1 pos) (dTup n) (tTup tn) := by
  obtain ⟨a1, a2⟩ := h
  refine ⟨pe_tup a1, fun B S H env σ Q Qv s q k => ?_⟩
  refine a2 B S H env σ _ _ s q fun vs H1 S1 env1 rs e1 l1 _ q1 => ?_
  obtain ⟨ds, h1, h2, h3⟩ := q1
  have r := l1.vals h1
  refine ⟨by rw [r.length]; exact h2, fun p hp => ?_⟩
  have n := Nw.add e1.sr.ex (o := .tup vs) hp
  exact k _ _ _ env1 (.val (.tup ds)) (EPo.fin e1 (q := .val (.tup ds)) ⟨n, .tup (SqT.of upd_same) (r.mono n.ex)⟩) h3
theorem de_lst {es : List Expr} {n : DAM} {tn : TA} (h : DA X es n tn) : DE X (.List es pos) (dLst n) (tLst tn) := by
  obtain ⟨a1, a2⟩ := h
  refine ⟨pe_lst a1, fun B S H env σ Q Qv s q k => ?_⟩
  refine a2 B S H env σ _ _ s q fun vs H1 S1 env1 rs e1 l1 _ q1 => ?_
  obtain ⟨ds, h1, h2, h3⟩ := q1
  have r := l1.vals h1
  refine ⟨by rw [r.length]; exact h2, fun p hp => ?_⟩
  have n := Nw.hid e1.sr.ex (o := .lst vs) hp
  exact k _ _ _ env1 (.own ds) (EPo.fin e1 (q := .own ds) ⟨n, p, vs, rfl, hp, e1.sr.sp0 hp, upd_same, r⟩) h3
theorem de_callB {id : String} {r : List V → Hp → VK → Prop} {m : MA} {x : Str} {p : Pos} {es : List Expr} {n : DAM} {tn : TA} (hc : CallR X (.builtin id) r) (hd : CallD X.K r m) (hg : Gl X x) (hm : X.mg x = none) (hv : bootBuiltins x = some (.builtin id)) (ha : DA X (a :: es) n tn)
    (hn : x ≠ "__name__" := by decide) (hdb : (x == ("__debug__" : Str)) = false := by decide)
    (he : starEach (a :: es) X.env = (false, eval a X.env) :: starEach es X.env := by rfl) (hpl : (backTo pos (starEach es X.env)).any (·.1) = false := by rfl) : DE X (.Call (.Name x p) (a :: es) [] pos) (dCB m n) (tCB r tn) := by
  obtain ⟨a1, a2⟩ := ha
  refine ⟨pe_callB hc hg hm hv a1 hn hdb he hpl, fun B S H env σ Q Qv s q k => ?_⟩
  refine a2 B S H env σ _ _ s q fun vs H1 S1 env1 rs e1 l1 _ q1 => ?_
  exact hd S1 H1 vs _ _ _ e1.sr.ex l1.repBs q1 fun v H3 S3 q n q3 => k v H3 S3 env1 q (.fin e1 n) q3
theorem de_callTy {T : String} {r : List V → Hp → VK → Prop} {m : MA} {x : Str} {p : Pos} {es : List Expr} {n : DAM} {tn : TA} (hc : CallR X (.type T) r) (hd : CallD X.K r m) (hg : Gl X x) (hm : X.mg x = none) (hv : bootBuiltins x = some (.type T)) (ha : DA X (a :: es) n tn)
    (hn : x ≠ "__name__" := by decide) (hdb : (x == ("__debug__" : Str)) = false := by decide)
    (he : starEach (a :: es) X.env = (false, eval a X.env) :: starEach es X.env := by rfl) (hpl : (backTo pos (starEach es X.env)).any (·.1) = false := by rfl) : DE X (.Call (.Name x p) (a :: es) [] pos) (dCB m n) (tCB r tn) := by
  obtain ⟨a1, a2⟩ := ha
  refine ⟨pe_callTy hc hg hm hv a1 hn hdb he hpl, fun B S H env σ Q Qv s q k => ?_⟩
  refine a2 B S H env σ _ _ s q fun vs H1 S1 env1 rs e1 l1 _ q1 => ?_
  exact hd S1 H1 vs _ _ _ e1.sr.ex l1.repBs q1 fun v H3 S3 q n q3 => k v H3 S3 env1 q (.fin e1 n) q3
end
end DL
end

section
set_option Elab.async false
set_option linter.all false
set_option maxRecDepth 100000
set_option maxHeartbeats 4000000
namespace DL
open PySem L2
open Evl (Ex)

/-- what an error tells: its class, its field, the field's data -/
structure Xd where
  C : Addr
  a : Str
  v : D
/-- the weakest wish of what leaves X -/
def wk (X : Cx) : WX := fun cls d σ H => ∀ u s', L2N.XE X (fun c' d' σ' H' => c' = cls ∧ d' = d ∧ σ' = σ ∧ H' = H) u s' → X.xe u s'
theorem takes_wk {X : Cx} : L2N.Takes X (wk X) := fun u s' ⟨a, B, sI, pins, σ, H, cls, d, e, I, nb, up, sky, na, os, ag, w⟩ => w u s' ⟨a, B, sI, pins, σ, H, cls, d, e, I, nb, up, sky, na, os, ag, rfl, rfl, rfl, rfl⟩
theorem wk_of {X : Cx} {W : WX} (t : L2N.Takes X W) {cls : Value} {d : Option Addr} {σ : L2.St} {H : Hp} (h : W cls d σ H) : wk X cls d σ H := fun u s' ⟨a, B, sI, pins, σ', H', cls', d', e, I, nb, up, sky, na, os, ag, w⟩ => by
  obtain ⟨rfl, rfl, rfl, rfl⟩ := w
  exact t u s' ⟨a, B, sI, pins, σ', H', cls', d', e, I, nb, up, sky, na, os, ag, h⟩
structure DEn where
  nx : En → Prop
  rt : En → R → Prop
  bk : En → Prop := fun _ => False
  ct : En → Prop := fun _ => False
  xc : Xd → Prop := fun _ => False
/-- what a def hands back -/
def RetR (K : PySem.W.Frag) (B : Bs) (S H : Hp) : R → V → Prop
  | .val d, v => Rep K S v d
  | .own l, v => ∃ p vs, v = .ref p ∧ S p = none ∧ B.H0 p = none ∧ H p = some (.lst vs) ∧ Reps K S vs l
  | .pool, v => ∃ a, B.pa = some a ∧ v = .ref a
  | .brw _ _, _ => False
/-- an error leaves -/
def XcOk (X : Cx) (B : Bs) (σ : L2.St) (Qx : Xd → Prop) : Prop := ∀ S H env d x v, SR X.K B S H env σ → B.H0 d = none → S d = none → H d = some (.xd [(x.a, v)]) → Rep X.K S v x.v → Qx x → wk X (.ref x.C) (some d) σ H
structure EndOk (X : Cx) (B : Bs) (E : DEn) (D : Ends) : Prop where
  nx : ∀ S H env σ, SR X.K B S H env σ → E.nx env → D.nx σ H
  rt : ∀ S H env σ r v, SR X.K B S H env σ → RetR X.K B S H r v → E.rt env r → D.rt v H
  bk : ∀ S H env σ, SR X.K B S H env σ → E.bk env → D.bk σ H
  ct : ∀ S H env σ, SR X.K B S H env σ → E.ct env → D.ct σ H
  xc : ∀ σ, XcOk X B σ E.xc := by intro _ _ _ _ _ _ _ _ _ _ _ _ z; exact z.elim
abbrev DSM := DEn → En → Prop
def DS (X : Cx) (st : Stmt) (m : DSM) (t : TS) : Prop := PS X st t ∧ ∀ (B : Bs) (S H : Hp) (env : En) (σ : St) (E : DEn) (D : Ends), SR X.K B S H env σ → m E env → EndOk X B E D → t D σ H
def DSs (X : Cx) (st : List Stmt) (m : DSM) (t : TS) : Prop := PSs X st t ∧ ∀ (B : Bs) (S H : Hp) (env : En) (σ : St) (E : DEn) (D : Ends), SR X.K B S H env σ → m E env → EndOk X B E D → t D σ H

/-! ### stores -/
def R.nv : R → Option Nv
  | .val d => some (.val d)
  | .own l => some (.own l)
  | .pool => some .pool
  | .brw _ _ => none
section
variable {K : PySem.W.Frag} {B : Bs} {S H S' H' : Hp} {env env' : En} {σ : St}
theorem set_self {env : En} {i : Nat} {n : Option Nv} {m : Nv} (h : Has (env.set i n) i m) : n = some m := by
  have hi : i < (env.set i n).length := (List.getElem?_eq_some_iff.mp h).1
  rw [List.length_set] at hi
  have q : (env.set i n)[i]? = some (some m) := h
  rw [List.getElem?_set_self hi] at q
  exact Option.some.inj q
theorem set_other {env : En} {i j : Nat} {n : Option Nv} {m : Nv} (h : Has (env.set i n) j m) (c : j ≠ i) : Has env j m := (List.getElem?_set_ne (Ne.symm c)).symm.trans h
theorem sset_self {σ : St} {i : Nat} {v : V} (h : i < σ.length) : Slt (σ.set i (some v)) i v := List.getElem?_set_self h
theorem sset_other {σ : St} {i j : Nat} {n : Option V} {v : V} (c : j ≠ i) : Slt (σ.set i n) j v ↔ Slt σ j v := by
  show (σ.set i n)[j]? = _ ↔ σ[j]? = _
  rw [List.getElem?_set_ne (Ne.symm c)]
/-- a name takes what an expression gave -/
theorem SR.store {i : Nat} {n : Option Nv} {v : V} (s : SR K B S H env σ) (hv : ∀ d, n = some (.val d) → Rep K S v d)
    (ho : ∀ l, n = some (.own l) → ∃ p vs, v = .ref p ∧ S p = none ∧ B.H0 p = none ∧ H p = some (.lst vs) ∧ Reps K S vs l ∧ (∀ j m, j ≠ i → Has env j (.own m) → ¬ Slt σ j (.ref p)) ∧ ∀ j m, ¬ Has env j (.fix p m)) (hp : n = some .pool → ∃ a, B.pa = some a ∧ v = .ref a) (hf : ∀ q m, n ≠ some (.fix q m) := by intro q m e; cases e) :
    SR K B S H (env.set i n) (σ.set i (some v)) := by
  have hl : ∀ j (m : Nv), Has (env.set i n) j m → j < σ.length := fun j m h => by
    have q := (List.getElem?_eq_some_iff.mp h).1
    rw [List.length_set] at q
    exact s.len ▸ q
  refine ⟨s.ex0, s.nw0, s.keep0, s.old0, by rw [List.length_set, List.length_set]; exact s.len, s.ex, fun j d h => ?_, fun j l h => ?_, fun j k l m p h1 h2 h3 h4 => ?_, fun j h => ?_, s.pool, fun j q m h => ?_, fun j k q m n h1 h2 h3 => ?_, fun j k q m n h1 h2 => ?_, s.pin⟩
  · by_cases c : j = i
    · subst c
      exact ⟨v, sset_self (hl _ _ h), hv d (set_self h)⟩
    · obtain ⟨w, q1, q2⟩ := s.val j d (set_other h c)
      exact ⟨w, (sset_other c).mpr q1, q2⟩
  · by_cases c : j = i
    · subst c
      obtain ⟨p, vs, rfl, q1, q2, q3, q4, _⟩ := ho l (set_self h)
      exact ⟨p, vs, sset_self (hl _ _ h), q1, q2, q3, q4⟩
    · obtain ⟨p, vs, q1, q2⟩ := s.own j l (set_other h c)
      exact ⟨p, vs, (sset_other c).mpr q1, q2⟩
  · by_cases c : j = i
    · subst c
      by_cases c2 : k = j
      · exact c2.symm
      · obtain ⟨q, vs, rfl, q1, q2, q3, q4, q5⟩ := ho l (set_self h1)
        cases Slt.ref h3 (sset_self (hl _ _ h1))
        exact absurd ((sset_other c2).mp h4) (q5.1 k m c2 (set_other h2 c2))
    · by_cases c2 : k = i
      · subst c2
        obtain ⟨q, vs, rfl, q1, q2, q3, q4, q5⟩ := ho m (set_self h2)
        cases Slt.ref h4 (sset_self (hl _ _ h2))
        exact absurd ((sset_other c).mp h3) (q5.1 j l c (set_other h1 c))
      · exact s.dis j k l m p (set_other h1 c) (set_other h2 c2) ((sset_other c).mp h3) ((sset_other c2).mp h4)
  · by_cases c : j = i
    · subst c
      obtain ⟨a, e1, e2⟩ := hp (set_self h)
      subst e2
      exact ⟨a, e1, sset_self (hl _ _ h)⟩
    · obtain ⟨a, e1, e2⟩ := s.pl j (set_other h c)
      exact ⟨a, e1, (sset_other c).mpr e2⟩
  · have c : j ≠ i := fun z => by
      subst z
      exact hf q m (set_self h)
    obtain ⟨k1, k2⟩ := s.fix j q m (set_other h c)
    exact ⟨(sset_other c).mpr k1, k2⟩
  · have c : j ≠ i := fun z => by
      subst z
      exact hf q m (set_self h1)
    by_cases c2 : k = i
    · subst c2
      obtain ⟨p, vs, rfl, _, _, _, _, _, nf⟩ := ho n (set_self h2)
      cases Slt.ref h3 (sset_self (hl _ _ h2))
      exact nf j m (set_other h1 c)
    · exact s.dfx j k q m n (set_other h1 c) (set_other h2 c2) ((sset_other c2).mp h3)
  · have c : j ≠ i := fun z => by
      subst z
      exact hf q m (set_self h1)
    have c2 : k ≠ i := fun z => by
      subst z
      exact hf q n (set_self h2)
    exact s.dff j k q m n (set_other h1 c) (set_other h2 c2)
theorem SR.storeD {i : Nat} {d : D} {v : V} (s : SR K B S H env σ) (h : Rep K S v d) : SR K B S H (env.set i (some (.val d))) (σ.set i (some v)) :=
  s.store (fun d' e => by cases e; exact h) (fun l e => by cases e) fun e => by cases e
/-- a name is forgotten -/
theorem SR.drop {i : Nat} {n : Option V} (s : SR K B S H env σ) : SR K B S H (env.set i none) (σ.set i n) := by
  have ne : ∀ j (m : Nv), Has (env.set i none) j m → j ≠ i := fun j m h c => by
    subst c
    exact nomatch set_self h
  exact ⟨s.ex0, s.nw0, s.keep0, s.old0, by rw [List.length_set, List.length_set]; exact s.len, s.ex,
    fun j d h => let ⟨w, q1, q2⟩ := s.val j d (set_other h (ne j _ h)); ⟨w, (sset_other (ne j _ h)).mpr q1, q2⟩,
    fun j l h => let ⟨p, vs, q1, q2⟩ := s.own j l (set_other h (ne j _ h)); ⟨p, vs, (sset_other (ne j _ h)).mpr q1, q2⟩,
    fun j k l m p h1 h2 h3 h4 => s.dis j k l m p (set_other h1 (ne j _ h1)) (set_other h2 (ne k _ h2)) ((sset_other (ne j _ h1)).mp h3) ((sset_other (ne k _ h2)).mp h4),
    fun j h => let ⟨a, e1, e2⟩ := s.pl j (set_other h (ne j _ h)); ⟨a, e1, (sset_other (ne j _ h)).mpr e2⟩, s.pool,
    fun j q m h => let ⟨k1, k2⟩ := s.fix j q m (set_other h (ne j _ h)); ⟨(sset_other (ne j _ h)).mpr k1, k2⟩,
    fun j k q m n h1 h2 h3 => s.dfx j k q m n (set_other h1 (ne j _ h1)) (set_other h2 (ne k _ h2)) ((sset_other (ne k _ h2)).mp h3),
    fun j k q m n h1 h2 => s.dff j k q m n (set_other h1 (ne j _ h1)) (set_other h2 (ne k _ h2)), s.pin⟩
/-- an own list is written -/
theorem SR.put {i : Nat} {l l' : List D} {p : Addr} {vs' : List V} (s : SR K B S H env σ) (h : Has env i (.own l)) (hp : Slt σ i (.ref p)) (r : Reps K S vs' l') : SR K B S (upd H p (.lst vs')) (env.set i (some (.own l'))) σ := by
  obtain ⟨q, vs, h1, h2, h3, h4, h5⟩ := s.own i l h
  cases Slt.ref hp h1
  have hi : i < env.length := (List.getElem?_eq_some_iff.mp h).1
  have npa : ∀ a, B.pa = some a → a ≠ p := fun a e c => by
    obtain ⟨_, o, q⟩ := s.pool a e
    rw [c, h3] at q
    cases q
  refine ⟨s.ex0, s.nw0, fun a o e c => ?_, fun a e => ?_, by rw [List.length_set]; exact s.len, fun a o e => ?_, fun j d e => ?_, fun j m e => ?_, fun j k m n q e1 e2 e3 e4 => ?_, fun j e => ?_, fun a e => ?_, fun j q m e => ?_, fun j k q m n e1 e2 e3 => ?_, fun j k q m n e1 e2 => ?_, fun a e => by rw [upd_ne (npa a e)]; exact s.pin a e⟩
  · rw [upd_ne (fun z => by rw [z, h3] at e; cases e)]
    exact s.keep0 a o e c
  · by_cases z : a = p
    · subst z
      exact h3
    · rw [upd_ne z] at e
      exact s.old0 a e
  · rw [upd_ne (fun z => by rw [z, h2] at e; cases e)]
    exact s.ex a o e
  · by_cases z : j = i
    · subst z
      exact nomatch set_self e
    · exact s.val j d (set_other e z)
  · by_cases z : j = i
    · subst z
      cases set_self e
      exact ⟨p, vs', hp, h2, h3, upd_same, r⟩
    · obtain ⟨q, ws, q1, q2, q3, q4, q5⟩ := s.own j m (set_other e z)
      refine ⟨q, ws, q1, q2, q3, ?_, q5⟩
      rw [upd_ne (fun c => z (s.dis j i m l p (set_other e z) h (by rw [← c]; exact q1) hp))]
      exact q4
  · have own' : ∀ j m, Has (env.set i (some (.own l'))) j (.own m) → ∃ m', Has env j (.own m') := fun j m e => by
      by_cases z : j = i
      · subst z
        exact ⟨l, h⟩
      · exact ⟨m, set_other e z⟩
    obtain ⟨m', e1'⟩ := own' j m e1
    obtain ⟨n', e2'⟩ := own' k n e2
    exact s.dis j k m' n' q e1' e2' e3 e4
  · by_cases z : j = i
    · subst z
      exact nomatch set_self e
    · exact s.pl j (set_other e z)
  · obtain ⟨⟨y, l', cells, pos, big, seed, cnt, bud, k1, k2, k3⟩, o⟩ := s.pool a e
    exact ⟨⟨y, l', cells, pos, big, seed, cnt, bud, (upd_ne (npa a e)).trans k1, k2, k3⟩, o⟩
  · have c : j ≠ i := fun z => by
      subst z
      cases set_self e
    obtain ⟨k1, k2, k3, ws, k4, k5⟩ := s.fix j q m (set_other e c)
    refine ⟨k1, k2, k3, ws, ?_, k5⟩
    rw [upd_ne (fun z => s.dfx j i q m l (set_other e c) h (by rw [z]; exact hp))]
    exact k4
  · have c : j ≠ i := fun z => by
      subst z
      cases set_self e1
    by_cases z : k = i
    · subst z
      exact s.dfx j k q m l (set_other e1 c) h e3
    · exact s.dfx j k q m n (set_other e1 c) (set_other e2 z) e3
  · have c : j ≠ i := fun z => by
      subst z
      cases set_self e1
    have c2 : k ≠ i := fun z => by
      subst z
      cases set_self e2
    exact s.dff j k q m n (set_other e1 c) (set_other e2 c2)
/-- another start: what is known now -/
theorem SR.base {S1 H1 : Hp} {env1 : En} {σ1 : St} (s1 : SR K B S1 H1 env1 σ1) : SR K ⟨S1, B.H0, B.pa⟩ S1 H1 env1 σ1 :=
  ⟨Ex.refl _, fun _ _ _ e => e, s1.keep0, s1.old0, s1.len, s1.ex, s1.val, s1.own, s1.dis, s1.pl, s1.pool, s1.fix, s1.dfx, s1.dff, s1.pin⟩
theorem SR.unbase {S1 H1 : Hp} {env1 : En} {σ1 : St} (s1 : SR K B S1 H1 env1 σ1) (s : SR K ⟨S1, B.H0, B.pa⟩ S H env σ) : SR K B S H env σ :=
  ⟨s1.ex0.trans s.ex0, fun a o h e => s.nw0 a o h (s1.nw0 a o h e), s.keep0, s.old0, s.len, s.ex, s.val, s.own, s.dis, s.pl, s.pool, s.fix, s.dfx, s.dff, s.pin⟩
theorem EndOk.base {S1 H1 : Hp} {env1 : En} {σ1 : St} {X : Cx} {E : DEn} {D : Ends} (s1 : SR X.K B S1 H1 env1 σ1) (e : EndOk X B E D) : EndOk X ⟨S1, B.H0, B.pa⟩ E D :=
  ⟨fun S H env σ s h => e.nx S H env σ (s1.unbase s) h, fun S H env σ r v s q h => e.rt S H env σ r v (s1.unbase s) (by cases r <;> exact q) h, fun S H env σ s h => e.bk S H env σ (s1.unbase s) h, fun S H env σ s h => e.ct S H env σ (s1.unbase s) h, fun σ S H env d x v s h0 h1 h r q => e.xc σ S H env d x v (s1.unbase s) h0 h1 h r q⟩
end

/-! ### small statements -/
def dNext : DSM := fun E env => E.nx env
def dSeq (m n : DSM) : DSM := fun E env => m { E with nx := n E } env
def dDrop (m : DM) : DSM := fun E env => m env fun env' _ => E.nx env'
def dSet (i : Nat) (m : DM) : DSM := fun E env => m env fun env' r => match r with
  | .val d => E.nx (env'.set i (some (.val d)))
  | .own l => E.nx (env'.set i (some (.own l)))
  | .brw j l => E.nx ((env'.set j (some (.val (.lst l)))).set i (some (.val (.lst l))))
  | .pool => E.nx (env'.set i (some .pool))
def dRet (m : DM) : DSM := fun E env => m env fun env' r => match r with
  | .val d => E.rt env' (.val d)
  | .own l => E.rt env' (.own l)
  | .brw _ l => E.rt env' (.own l)
  | .pool => E.rt env' .pool
def dRetN : DSM := fun E env => E.rt env (.val .non)
def dBrk : DSM := fun E env => E.bk env
def dCnt : DSM := fun E env => E.ct env
def dIfS (t : DTM) (m n : DSM) : DSM := fun E env => t env fun env1 c => dIte c (m E env1) (n E env1)
def dAug (i : Nat) (op : M2) (m : DM) : DSM := fun E env => ∃ x, Has env i (.val x) ∧ m env fun env1 r => op x r.data fun q => match q with
  | .val d => E.nx (env1.set i (some (.val d)))
  | _ => False
/-- name.append(e) -/
def dApp (i : Nat) (m : DM) : DSM := fun E env => match env[i]? with
  | some (some (.own _)) => dKeep m env fun env1 r => match r, env1[i]? with
    | .val d, some (some (.own l)) => l.length < sizeLine ∧ E.nx (env1.set i (some (.own (l ++ [d]))))
    | _, _ => False
  | _ => False
/-- name[e] = e2 -/
def dPut (i : Nat) (mi m : DM) : DSM := fun E env => dKeep m env fun env1 r => (∃ l0, Has env1 i (.own l0)) ∧ mi env1 fun env2 k => match r, k, env2[i]? with
  | .val d, .val (.int j), some (some (.own l)) => ∃ n, ixN l.length j = some n ∧ E.nx (env2.set i (some (.own (l.set n d))))
  | _, _, _ => False
def dNever : DSM := fun _ _ => False

section
variable {X : Cx} {a b c : Expr} {ma mb : DM} {pos : Pos} {st : Stmt} {rest sts : List Stmt} {m n : DSM} {ta tb : TE} {tc : TT} {tm tn : TS}
theorem dss_nil : DSs X [] dNext tNext := ⟨pss_nil, fun B S H env σ E D s q e => e.nx S H env σ s q⟩
theorem dss_cons (h : DS X st m tm) (k : DSs X rest n tn) : DSs X (st :: rest) (dSeq m n) (tSeq tm tn) := by
  obtain ⟨h1, h2⟩ := h
  obtain ⟨k1, k2⟩ := k
  exact ⟨pss_cons h1 k1, fun B S H env σ E D s q e => h2 B S H env σ { E with nx := n E } _ s q ⟨fun S' H' env' σ' s' q' => k2 B S' H' env' σ' E D s' q' e, e.rt, e.bk, e.ct, e.xc⟩⟩
theorem dss_one (h : DS X st m tm) : DSs X [st] m tm := by
  obtain ⟨h1, h2⟩ := h
  exact ⟨pss_one h1, h2⟩
theorem ds_pass : DS X (.Pass pos) dNext tNext := ⟨ps_pass, fun B S H env σ E D s q e => e.nx S H env σ s q⟩
theorem ds_break : DS X (.Break pos) dBrk tBreak := ⟨ps_break, fun B S H env σ E D s q e => e.bk S H env σ s q⟩
theorem ds_continue : DS X (.Continue pos) dCnt tCont := ⟨ps_continue, fun B S H env σ E D s q e => e.ct S H env σ s q⟩
theorem ds_never : DS X st dNever tNever := ⟨ps_never, fun B S H env σ E D s q e => q.elim⟩
theorem dss_never : DSs X sts dNever tNever := ⟨pss_never, fun B S H env σ E D s q e => q.elim⟩
theorem ds_expr (ha : DE X a ma ta) (hs : swapsWith a none pos.line X.env = pure false := by rfl) : DS X (.Expr a pos) (dDrop ma) (tDrop ta) := by
  obtain ⟨h1, h2⟩ := ha
  exact ⟨ps_expr h1 hs, fun B S H env σ E D s q e => h2 B S H env σ _ _ s q fun v H' S' env' r z q' => e.nx S' H' env' σ z.sr q'⟩
theorem ds_set {i : Nat} {x : Str} {pos' : Pos} (hN : X.N.Nodup) (hi : X.N[i]? = some x) (hx : Loc X.env.scope x) (ha : DE X a ma ta) (hs : swapsWith a (some (.Name x pos')) pos.line X.env = pure false := by rfl)
    (hf : X.fn x = true ∨ X.env.scope.names.lookup x = some .local := by first | exact .inl rfl | exact .inr rfl | assumption) : DS X (.Assign [.Name x pos'] a pos) (dSet i ma) (tAsg ta (gName i)) := by
  obtain ⟨h1, h2⟩ := ha
  refine ⟨ps_set hN hi hx h1 hs hf, fun B S H env σ E D s q e => h2 B S H env σ _ _ s q fun v H' S' env' r z q' => ?_⟩
  have zr := z.res
  cases r with
  | val d => exact e.nx S' H' _ _ (z.sr.storeD zr) q'
  | own l =>
    obtain ⟨p, vs, rfl, z1, z2, z3, z4, z5, z6⟩ := zr
    exact e.nx S' H' _ _ (z.sr.store (fun d e => by cases e) (fun l' e => by cases e; exact ⟨p, vs, rfl, z1, z2, z5, z6, fun j m _ h1 h2 => z4 (.inr (.inl ⟨j, m, h1, h2⟩)), fun j m h1 => z4 (.inr (.inr ⟨j, m, h1⟩))⟩) fun e => by cases e) q'
  | brw j l =>
    obtain ⟨p, rfl, z1, z2⟩ := zr
    obtain ⟨p', S2, y1, y2, y3⟩ := z.sr.frz z2
    cases Slt.ref z1 y1
    exact e.nx S2 H' _ _ (y2.sr.storeD y3) q'
  | pool =>
    obtain ⟨a, z1, rfl⟩ := zr
    exact e.nx S' H' _ _ (z.sr.store (fun d e => by cases e) (fun l' e => by cases e) fun _ => ⟨a, z1, rfl⟩) q'
theorem ds_ret (ha : DE X a ma ta) : DS X (.Return (some a) pos) (dRet ma) (tRet ta) := by
  obtain ⟨h1, h2⟩ := ha
  refine ⟨ps_ret h1, fun B S H env σ E D s q e => h2 B S H env σ _ _ s q fun v H' S' env' r z q' => ?_⟩
  have zr := z.res
  cases r with
  | val d => exact e.rt S' H' env' σ (.val d) v z.sr zr q'
  | own l =>
    obtain ⟨p, vs, rfl, z1, z2, z3, z4, z5, z6⟩ := zr
    exact e.rt S' H' env' σ (.own l) _ z.sr ⟨p, vs, rfl, z1, z2, z5, z6⟩ q'
  | brw j l =>
    obtain ⟨p, rfl, z1, z2⟩ := zr
    obtain ⟨p', vs, y1, y2, y3, y4, y5⟩ := z.sr.own j l z2
    cases Slt.ref z1 y1
    exact e.rt S' H' env' σ (.own l) _ z.sr ⟨p, vs, rfl, y2, y3, y4, y5⟩ q'
  | pool => exact e.rt S' H' env' σ .pool v z.sr zr q'
theorem ds_retN : DS X (.Return none pos) dRetN tRetN := ⟨ps_retN, fun B S H env σ E D s q e => e.rt S H env σ (.val .non) .non s .non q⟩
theorem ds_if {t : DTM} {p q : List Stmt} (hc : DT X c t tc) (h : DSs X p m tm) (k : DSs X q n tn) : DS X (.If c p q pos) (dIfS t m n) (tIfS tc tm tn) := by
  obtain ⟨c1, c2⟩ := hc
  obtain ⟨h1, h2⟩ := h
  obtain ⟨k1, k2⟩ := k
  refine ⟨ps_if c1 h1 k1, fun B S H env σ E D s q e => c2 B S H env σ _ _ s q fun b H1 S1 env1 z q1 => ?_⟩
  cases b with
  | true => exact h2 B S1 H1 env1 σ E D z.sr (dIte_t q1) e
  | false => exact k2 B S1 H1 env1 σ E D z.sr (dIte_f q1) e
theorem ds_aug {i : Nat} {x : Str} {op : Operator} {r : R2} {o : M2} {pos' : Pos} (hN : X.N.Nodup) (hi : X.N[i]? = some x) (hx : Loc X.env.scope x) (ha : DE X a ma ta) (ho : OpR X (inplaceOp op) r) (hd : OpD X.K r o)
    (hf : X.fn x = true ∨ X.env.scope.names.lookup x = some .local := by first | exact .inl rfl | exact .inr rfl | assumption) : DS X (.AugAssign (.Name x pos') op a pos) (dAug i o ma) (tAug i ta r) := by
  obtain ⟨h1, h2⟩ := ha
  refine ⟨ps_aug hN hi hx h1 (ti := r) (fun pins s σ H x y v u Q I => ho pins s σ H x y v u Q I) hf, fun B S H env σ E D s q e => ?_⟩
  obtain ⟨x, q1, q2⟩ := q
  obtain ⟨v, s1, s2⟩ := s.val i x q1
  refine ⟨v, s1, h2 B S H env σ _ _ s q2 fun w H' S' env' k z q' => ?_⟩
  refine hd S' H' v w _ _ _ _ z.sr.ex (.inl (s2.mono z.go.ex)) z.look1 q' fun u H2 S2 g n q2 => ?_
  split at q2
  · rename_i d
    exact e.nx S2 H2 _ _ ((z.sr.nw n.nw).storeD n.2) q2
  · exact q2.elim
theorem ds_app {i : Nat} {x : Str} {xp apos cpos : Pos} (hv : PE X (.Name x xp) (tVar i)) (ha : DE X a ma ta)
    (hbase : attributeBase (.Name x xp) "append" X.env (eval (.Name x xp) X.env) = eval (.Name x xp) X.env := by rfl)
    (hfew : ((backTo cpos (starEach (a :: []) X.env)).all (fun x => !x.1) && (backToKw cpos (keywordEach [] X.env)).all (fun x => x.1.isSome)
      && decide ((a :: []).length + ([] : List Keyword).length + (if ([] : List Keyword).isEmpty then 0 else 1) < 30)) = true := by rfl)
    (hline : (apos.endLine == cpos.line) = true := by rfl) (hs : starEach (a :: []) X.env = (false, eval a X.env) :: starEach [] X.env := by rfl) (hplain : (backTo cpos (starEach [] X.env)).any (·.1) = false := by rfl)
    (hsw : swapsWith (.Call (.Attribute (.Name x xp) "append" apos) [a] [] cpos) none pos.line X.env = pure false := by rfl) : DS X (.Expr (.Call (.Attribute (.Name x xp) "append" apos) [a] [] cpos) pos) (dApp i ma) (tDrop (tBM X.K "list" rAppend (tVar i) (tCons ta tNil))) := by
  obtain ⟨h1, h2⟩ := de_keep ha
  refine ⟨ps_expr (pe_bm PySem.F.plainAttrs_list PySem.F.slot_list_append PySem.F.type_list_append mt_append hv (pa_cons h1 pa_nil hs) hbase hfew hline hs hplain) hsw, fun B S H env σ E D s q e => ?_⟩
  unfold dApp at q
  split at q
  · rename_i l0 c0
    obtain ⟨p, vs, hp, p1, p2, p3, p4⟩ := s.own i l0 c0
    refine ⟨.ref p, hp, .inl ⟨rfl, _, SqL.of p3⟩, ?_⟩
    refine h2 B S H env σ _ _ s q fun v H' S' env' r z q' => ?_
    split at q'
    · rename_i d l c
      obtain ⟨p', ws, y1, y2, y3, y4, y5⟩ := z.sr.own i l c
      cases Slt.ref hp y1
      refine ⟨p, ws, v, rfl, rfl, y4, by rw [y5.length]; exact q'.1, ?_⟩
      exact e.nx S' _ _ σ (z.sr.put c hp (y5.append (.cons z.res .nil))) q'.2
    · exact q'.elim
  · exact q.elim
theorem ds_put {i : Nat} {x : Str} {xp tp : Pos} (hv : PE X (.Name x xp) (tVar i)) (hb : DE X b mb tb) (ha : DE X a ma ta)
    (hss : ∀ v, assign (.Subscript (.Name x xp) b tp) X.env v = (do
      let ov ← holding [v] (eval (.Name x xp) X.env)
      let iv ← holding [v, ov] (eval b X.env)
      standAt tp
      holding [v, ov, iv] (setItem ov iv v)
      release [v, ov, iv] []) := by intro _; rfl)
    (hs : swapsWithSole [.Subscript (.Name x xp) b tp] a pos.line X.env = pure false := by rfl) (hw : swappedStores [.Subscript (.Name x xp) b tp] a X.env = pure none := by rfl)
    (h1 : (assignEach [.Subscript (.Name x xp) b tp] X.env).map (·.2) = [assign (.Subscript (.Name x xp) b tp) X.env] := by rfl) : DS X (.Assign [.Subscript (.Name x xp) b tp] a pos) (dPut i mb ma) (tAsg ta (gSub (tVar i) tb rSetL)) := by
  obtain ⟨t1, t2⟩ := de_keep ha
  obtain ⟨u1, u2⟩ := hb
  refine ⟨ps_asg t1 (pg_sub hv u1 set_list hss) hs hw h1, fun B S H env σ E D s q e => ?_⟩
  refine t2 B S H env σ _ _ s q fun v H1 S1 env1 r z1 q1 => ?_
  obtain ⟨⟨l0, c0⟩, q1⟩ := q1
  obtain ⟨o, vs0, ho, _⟩ := z1.sr.own i l0 c0
  refine ⟨_, ho, u2 B S1 H1 env1 σ _ _ z1.sr q1 fun w H2 S2 env2 k z2 q2 => ?_⟩
  split at q2
  · rename_i d j l c
    obtain ⟨n, n1, n2⟩ := q2
    obtain ⟨p, vs, y1, y2, y3, y4, y5⟩ := z2.sr.own i l c
    have y1' := y1
    cases Slt.inj ho y1
    have e2 : w = .int j := by
      have := z2.res
      have h' : Rep X.K S2 w (.int j) := this
      cases h'
      rfl
    refine ⟨_, vs, j, n, rfl, e2, y4, by rw [y5.length]; exact n1, ?_⟩
    have r1 : Rep X.K S1 v d := z1.res
    exact e.nx S2 _ _ σ (z2.sr.put c y1' (y5.set n (r1.mono z2.go.ex))) n2
  · exact q2.elim
end
end DL
end

section
set_option Elab.async false
set_option linter.all false
set_option maxRecDepth 100000
set_option maxHeartbeats 4000000
namespace L2
open PySem PySem.Spec PyProof.Rows
section
variable {X : Cx} {tg : Expr}
/-- a list or a tuple, walked -/
def iSeq (K : PySem.W.Frag) (tl : TE) : TI := fun σ H R => tl σ H fun x H1 => ∃ a, x = .ref a ∧ (((∃ xs, SqL K H1 a xs) ∧ R (Itl K a) H1) ∨ ((∃ xs, SqT K H1 a xs) ∧ R (Itt K a) H1))
theorem pi_seq {l : Expr} {tl : TE} (hl : PE X l tl) : PI X tg l (iSeq X.K tl) := by
  refine ⟨fun pins s σ H R I h => ?_⟩
  refine thn (hl.run pins s σ H _ I h) fun v s1 ⟨x, H1, I1, r1, q1⟩ => ?_
  obtain ⟨a, e, q⟩ := q1
  subst e
  cases r1
  rcases q with ⟨⟨xs, hq⟩, q⟩ | ⟨⟨xs, hq⟩, q⟩
  · obtain ⟨its, rv, p, hz⟩ := I1.list hq
    refine wpAny_pyIter_list p.isList ?_
    refine ⟨s1.heap.objs.size, [s1.heap.objs.size], _, _, H1, rfl, I1.kept (t' := s1.toks) fun b o e => Heap.get?_push_of_some _ e, turn_list a _, ⟨_, Heap.get?_push_size _ rfl, rfl, rfl⟩, fun b hb => ?_, q⟩
    have e : b = s1.heap.objs.size := by simpa using hb
    subst e
    exact I1.fpOk (Nat.le_refl _) (I1.hok.fresh (Nat.le_refl _))
  · obtain ⟨its, rv, p, hz⟩ := I1.tuple hq
    refine wpAny_pyIter_tuple (show s1.heap.IsTuple a its.toArray from p) ?_
    refine ⟨s1.heap.objs.size, [s1.heap.objs.size], _, _, H1, rfl, I1.kept (t' := s1.toks) fun b o e => Heap.get?_push_of_some _ e, turn_tuple a _, ⟨_, Heap.get?_push_size _ rfl, rfl, rfl⟩, fun b hb => ?_, q⟩
    have e : b = s1.heap.objs.size := by simpa using hb
    subst e
    exact I1.fpOk (Nat.le_refl _) (I1.hok.fresh (Nat.le_refl _))
end
end L2
namespace DL
open PySem L2
open Evl (Ex)

/-! ### what a loop walks -/
structure ItD (K : PySem.W.Frag) (J : It) (S : Hp) (ds : List D) : Prop where
  go : ∀ i, i < ds.length → ∀ S' H', Ex S S' → Ex S' H' → J.go i H'
  yld : ∀ i d, ds[i]? = some d → ∀ S' H' x H'', Ex S S' → Ex S' H' → J.yld i H' x H'' → ∃ S'', Nw S' H' S'' H'' ∧ Rep K S'' x d
  stop : ∀ S' H', Ex S S' → Ex S' H' → J.stop ds.length H'
abbrev DIM := En → (En → List D → Prop) → Prop
def DI (X : Cx) (tg iter : Expr) (mi : DIM) (wi : TI) : Prop := PI X tg iter wi ∧ ∀ (B : Bs) (S H : Hp) (env : En) (σ : St) (Q : En → List D → Prop) (R : It → Hp → Prop), SR X.K B S H env σ → mi env Q →
  (∀ J H' S' env' ds, TPo X.K B S H env σ S' H' env' → ItD X.K J S' ds → Q env' ds → R J H') → wi σ H R
def itemsOf : D → Option (List D)
  | .lst l => some l
  | .tup l => some l
  | _ => none
/-- over a list or a tuple -/
def dOver (m : DM) : DIM := fun env Q => dKeep m env fun env' r => match r with
  | .val (.lst l) => Q env' l
  | .val (.tup l) => Q env' l
  | _ => False
def rangeD (lo hi : Int) : List D := (List.range (hi - lo).toNat).map fun k => .int (lo + (k : Nat))
def dRng1 (m : DM) : DIM := fun env Q => m env fun env' r => match r with
  | .val (.int j) => -(2 ^ 62) ≤ j ∧ j < 2 ^ 62 ∧ Q env' (rangeD 0 j)
  | _ => False
def dRng2 (m n : DM) : DIM := fun env Q => m env fun env1 r => n env1 fun env2 q => match r, q with
  | .val (.int i), .val (.int j) => (-(2 ^ 62) ≤ i ∧ i < 2 ^ 62 ∧ -(2 ^ 62) ≤ j ∧ j < 2 ^ 62) ∧ Q env2 (rangeD i j)
  | _, _ => False
section
variable {X : Cx} {tg a b : Expr} {ma mb : DM} {pos : Pos} {ta tb : TE} {tc : TT} {tm : TS}
theorem ItD.list {K : PySem.W.Frag} {S : Hp} {p : Addr} {vs : List V} {ds : List D} (h : SqL K S p vs) (r : Reps K S vs ds) : ItD K (Itl K p) S ds :=
  ⟨fun i hi S' H' e1 e2 => ⟨vs, vs[i]'(by rw [r.length]; exact hi), Evl.ex_l (e1.trans e2) h, List.getElem?_eq_getElem _⟩,
   fun i d hd S' H' x H'' e1 e2 y => by
    obtain ⟨rfl, y⟩ := y
    obtain ⟨v, h1, h2⟩ := r.get hd
    have q := y vs (Evl.ex_l (e1.trans e2) h)
    rw [h1] at q
    cases q
    exact ⟨S', .refl e2, h2.mono e1⟩,
   fun S' H' e1 e2 => ⟨vs, Evl.ex_l (e1.trans e2) h, by rw [r.length]; exact Nat.le_refl _⟩⟩
theorem ItD.tup {K : PySem.W.Frag} {S : Hp} {p : Addr} {vs : List V} {ds : List D} (h : SqT K S p vs) (r : Reps K S vs ds) : ItD K (Itt K p) S ds :=
  ⟨fun i hi S' H' e1 e2 => ⟨vs, vs[i]'(by rw [r.length]; exact hi), Evl.ex_t (e1.trans e2) h, List.getElem?_eq_getElem _⟩,
   fun i d hd S' H' x H'' e1 e2 y => by
    obtain ⟨rfl, y⟩ := y
    obtain ⟨v, h1, h2⟩ := r.get hd
    have q := y vs (Evl.ex_t (e1.trans e2) h)
    rw [h1] at q
    cases q
    exact ⟨S', .refl e2, h2.mono e1⟩,
   fun S' H' e1 e2 => ⟨vs, Evl.ex_t (e1.trans e2) h, by rw [r.length]; exact Nat.le_refl _⟩⟩
theorem ItD.range {K : PySem.W.Frag} {S : Hp} (lo hi : Int) : ItD K (Itr lo (hi - lo).toNat) S (rangeD lo hi) := by
  have hl : (rangeD lo hi).length = (hi - lo).toNat := by unfold rangeD; simp
  refine ⟨fun i h S' H' _ _ => hl ▸ h, fun i d hd S' H' x H'' e1 e2 y => ?_, fun S' H' _ _ => Nat.le_of_eq hl.symm⟩
  obtain ⟨rfl, rfl⟩ := y
  have hi' : i < (hi - lo).toNat := hl ▸ (List.getElem?_eq_some_iff.mp hd).1
  have : d = .int (lo + (i : Nat)) := by
    have q : (rangeD lo hi)[i]? = some d := hd
    unfold rangeD at q
    simp [hi'] at q
    exact q.symm
  subst this
  exact ⟨S', .refl e2, .int _⟩
theorem di_over (ha : DE X a ma ta) : DI X tg a (dOver ma) (iSeq X.K ta) := by
  obtain ⟨h1, h2⟩ := de_keep ha
  refine ⟨pi_seq h1, fun B S H env σ Q R s q k => h2 B S H env σ _ _ s q fun v H' S' env' r z q' => ?_⟩
  split at q'
  · rename_i l
    have zr : Rep X.K S' v (.lst l) := z.res
    cases zr with
    | lst h r => exact ⟨_, rfl, .inl ⟨⟨_, SqL.of (z.sr.ex _ _ h)⟩, k _ H' S' env' l z.t (.list (SqL.of h) r) q'⟩⟩
  · rename_i l
    have zr : Rep X.K S' v (.tup l) := z.res
    cases zr with
    | tup h r => exact ⟨_, rfl, .inr ⟨⟨_, Evl.ex_t z.sr.ex h⟩, k _ H' S' env' l z.t (.tup h r) q'⟩⟩
  · exact q'.elim
theorem di_rng1 {p : Pos} (hg : Gl X "range") (hm : X.mg "range" = none) (ha : DE X a ma ta) (hs : starEach [a] X.env = [(false, eval a X.env)] := by rfl) : DI X tg (.Call (.Name "range" p) [a] [] pos) (dRng1 ma) (iRng1 (tCons ta tNil)) := by
  obtain ⟨h1, h2⟩ := ha
  refine ⟨pi_range1 hg hm (pa_cons h1 pa_nil (by rw [hs] <;> rfl)) hs, fun B S H env σ Q R s q k => h2 B S H env σ _ _ s q fun v H' S' env' r z q' => ?_⟩
  split at q'
  · rename_i j
    have zr : Rep X.K S' v (.int j) := z.res
    cases zr
    have d := ItD.range (K := X.K) (S := S') 0 j
    rw [Int.sub_zero] at d
    exact ⟨j, rfl, q'.1, q'.2.1, k _ H' S' env' _ z.t d q'.2.2⟩
  · exact q'.elim
theorem di_rng2 {p : Pos} (hg : Gl X "range") (hm : X.mg "range" = none) (ha : DE X a ma ta) (hb : DE X b mb tb) (hs : starEach [a, b] X.env = [(false, eval a X.env), (false, eval b X.env)] := by rfl) (hs2 : starEach [b] X.env = [(false, eval b X.env)] := by rfl) :
    DI X tg (.Call (.Name "range" p) [a, b] [] pos) (dRng2 ma mb) (iRng2 (tCons ta (tCons tb tNil))) := by
  obtain ⟨h1, h2⟩ := ha
  obtain ⟨k1, k2⟩ := hb
  refine ⟨pi_range2 hg hm (pa_cons h1 (pa_cons k1 pa_nil (by rw [hs2] <;> rfl)) (by rw [hs, hs2])) hs hs2, fun B S H env σ Q R s q k => h2 B S H env σ _ _ s q fun v H1 S1 env1 r z q1 => k2 B S1 H1 env1 σ _ _ z.sr q1 fun w H' S' env' g y q' => ?_⟩
  split at q'
  · rename_i i j
    have zr : Rep X.K S1 v (.int i) := z.res
    cases zr
    have yr : Rep X.K S' w (.int j) := y.res
    cases yr
    exact ⟨i, j, rfl, q'.1, k _ H' S' env' _ (z.t.trans y.t) (.range i j) q'.2⟩
  · exact q'.elim

/-! ### targets -/
abbrev DGM := D → En → (En → Prop) → Prop
def DG (X : Cx) (tg : Expr) (g : DGM) (t : TG) : Prop := PG X tg t ∧ ∀ (B : Bs) (S H : Hp) (env : En) (σ : St) (v : V) (d : D) (Q : En → Prop) (Qv : St → Hp → Prop), SR X.K B S H env σ → Rep X.K S v d → g d env Q →
  (∀ env' σ', SR X.K B S H env' σ' → Q env' → Qv σ' H) → t v σ H Qv
abbrev DGsM := List D → En → (En → Prop) → Prop
def DGs (X : Cx) (ts : List Expr) (g : DGsM) (t : TGs) : Prop := PGs X ts t ∧ ∀ (B : Bs) (S H : Hp) (env : En) (σ : St) (vs : List V) (ds : List D) (Q : En → Prop) (Qv : St → Hp → Prop), SR X.K B S H env σ → Reps X.K S vs ds → g ds env Q →
  (∀ env' σ', SR X.K B S H env' σ' → Q env' → Qv σ' H) → t vs σ H Qv
def dName (i : Nat) : DGM := fun d env Q => Q (env.set i (some (.val d)))
def dTNil : DGsM := fun ds env Q => match ds with
  | [] => Q env
  | _ => False
def dTCons (g : DGM) (h : DGsM) : DGsM := fun ds env Q => match ds with
  | d :: r => g d env fun env' => h r env' Q
  | [] => False
def dTg (n : Nat) (h : DGsM) : DGM := fun d env Q => match d with
  | .tup l => l.length = n ∧ h l env Q
  | _ => False
theorem dg_name {i : Nat} {x : Str} (hN : X.N.Nodup) (hi : X.N[i]? = some x) (hx : Loc X.env.scope x) (hf : X.fn x = true ∨ X.env.scope.names.lookup x = some .local := by first | exact .inl rfl | exact .inr rfl | assumption) : DG X (.Name x pos) (dName i) (gName i) :=
  ⟨pg_name hN hi hx hf, fun B S H env σ v d Q Qv s r q k => k _ _ (s.storeD r) q⟩
theorem dgs_nil : DGs X [] dTNil gNil := ⟨pgs_nil, fun B S H env σ vs ds Q Qv s r q k => by
  cases r with
  | nil => exact ⟨rfl, k env σ s q⟩
  | cons h r => exact q.elim⟩
theorem dgs_cons {e : Expr} {es : List Expr} {g : DGM} {h : DGsM} {tg1 : TG} {tg2 : TGs} (h1 : DG X e g tg1) (h2 : DGs X es h tg2) (hs : (assignEach (e :: es) X.env).map (·.2) = assign e X.env :: (assignEach es X.env).map (·.2) := by rfl) : DGs X (e :: es) (dTCons g h) (gCons tg1 tg2) := by
  obtain ⟨t1, t2⟩ := h1
  obtain ⟨u1, u2⟩ := h2
  refine ⟨pgs_cons t1 u1 hs, fun B S H env σ vs ds Q Qv s r q k => ?_⟩
  cases r with
  | nil => exact q.elim
  | cons r1 r2 => exact ⟨_, _, rfl, t2 B S H env σ _ _ _ _ s r1 q fun env' σ' s' q' => u2 B S H env' σ' _ _ _ _ s' r2 q' k⟩
theorem dg_tup {es : List Expr} {k : Nat} {h : DGsM} {n : Nat} (hc : X.calm = true) {tg2 : TGs} (hh : DGs X es h tg2) (hn : (assignEach es X.env).length = n := by rfl) (hst : (assignEach es X.env).findIdx? (·.1) = none := by rfl) : DG X (.Tuple es k pos) (dTg n h) (gTup X.K n tg2) := by
  obtain ⟨t1, t2⟩ := hh
  refine ⟨pg_tup hc t1 hn hst, fun B S H env σ v d Q Qv s r q k => ?_⟩
  unfold dTg at q
  split at q
  · rename_i l
    cases r with
    | tup h r => exact ⟨_, _, rfl, Evl.ex_t s.ex h, by rw [r.length]; exact q.1, t2 B S H env σ _ _ _ _ s r q.2 k⟩
  · exact q.elim
/-- targets = e -/
def dAsg (g : DGM) (m : DM) : DSM := fun E env => dKeep m env fun env' r => match r with
  | .val d => g d env' E.nx
  | _ => False
theorem ds_asg {g : DGM} {tg1 : TG} (ha : DE X a ma ta) (hg : DG X tg g tg1) (hs : swapsWithSole [tg] a pos.line X.env = pure false := by rfl) (hw : swappedStores [tg] a X.env = pure none := by rfl)
    (h1 : (assignEach [tg] X.env).map (·.2) = [assign tg X.env] := by rfl) : DS X (.Assign [tg] a pos) (dAsg g ma) (tAsg ta tg1) := by
  obtain ⟨t1, t2⟩ := de_keep ha
  obtain ⟨u1, u2⟩ := hg
  refine ⟨ps_asg t1 u1 hs hw h1, fun B S H env σ E D s q e => t2 B S H env σ _ _ s q fun v H' S' env' r z q' => ?_⟩
  split at q'
  · rename_i d
    exact u2 B S' H' env' σ v d _ _ z.sr z.res q' fun env2 σ2 s2 q2 => e.nx S' H' env2 σ2 s2 q2
  · exact q'.elim

/-! ### loops -/
def dLoop (g : DGM) (m : DSM) (E : DEn) : List D → En → Prop
  | [], env => E.nx env
  | d :: r, env => g d env fun env' => m { E with nx := dLoop g m E r, ct := dLoop g m E r, bk := E.nx } env'
def dFor (mi : DIM) (g : DGM) (m : DSM) : DSM := fun E env => mi env fun env' ds => dLoop g m E ds env'
theorem ds_for {iter : Expr} {body : List Stmt} {mi : DIM} {g : DGM} {m : DSM} {wi : TI} {tg1 : TG} (hp : PassesOwn (model X.prog X.w) X.A X.env X.xe) (hc : X.calm = true) (hi : DI X tg iter mi wi) (hg : DG X tg g tg1) (hb : DSs X body m tm)
    (hs : ∀ x, foldedSetIterable iter X.env x = pure x := by intro _; rfl) : DS X (.For tg iter body [] pos) (dFor mi g m) (tFor wi tg1 tm) := by
  obtain ⟨i1, i2⟩ := hi
  obtain ⟨g1, g2⟩ := hg
  obtain ⟨b1, b2⟩ := hb
  refine ⟨ps_for hp hc i1 g1 b1 hs, fun B S H env σ E D s q e => i2 B S H env σ _ _ s q fun J H1 S1 env1 ds z it q1 => ?_⟩
  have s1 := z.sr
  let B' : Bs := ⟨S1, B.H0, B.pa⟩
  have eb : EndOk X B' E D := e.base s1
  refine ⟨fun i m' σ' H' => m' = ds.length - i ∧ i ≤ ds.length ∧ ∃ S' env', SR X.K B' S' H' env' σ' ∧ dLoop g m E (ds.drop i) env', ⟨_, rfl, Nat.zero_le _, S1, env1, s1.base, q1⟩, ?_⟩
  rintro i m' σ' H' ⟨rfl, hi, S', env', s', l'⟩
  have ex1 : Ex S1 S' := s'.ex0
  by_cases c : i < ds.length
  · refine .inr ⟨it.go i c S' H' ex1 s'.ex, fun σ2 H2 => ∃ S2 env2, SR X.K B' S2 H2 env2 σ2 ∧ dLoop g m E (ds.drop (i + 1)) env2, fun σ2 H2 ⟨S2, env2, a1, a2⟩ => ⟨_, by omega, rfl, c, S2, env2, a1, a2⟩, fun x H2 y => ?_⟩
    have hd : ds[i]? = some ds[i] := List.getElem?_eq_getElem c
    obtain ⟨S2, n2, r2⟩ := it.yld i _ hd S' H' x H2 ex1 s'.ex y
    rw [List.drop_eq_getElem_cons c] at l'
    refine g2 B' S2 H2 env' σ' x _ _ _ (s'.nw n2) r2 l' fun env3 σ3 s3 q3 => ?_
    exact b2 B' S2 H2 env3 σ3 _ _ s3 q3 ⟨fun S4 H4 env4 σ4 s4 q4 => ⟨S4, env4, s4, q4⟩, eb.rt, fun S4 H4 env4 σ4 s4 q4 => eb.nx S4 H4 env4 σ4 s4 q4, fun S4 H4 env4 σ4 s4 q4 => ⟨S4, env4, s4, q4⟩, eb.xc⟩
  · have hi' : i = ds.length := by omega
    subst hi'
    rw [List.drop_length] at l'
    exact .inl ⟨it.stop S' H' ex1 s'.ex, eb.nx S' H' env' σ' s' l'⟩
def dWh (t : DTM) (m : DSM) (E : DEn) : Nat → En → Prop
  | 0, _ => False
  | n + 1, env => t env fun env1 b => dIte b (m { E with nx := dWh t m E n, ct := dWh t m E n, bk := E.nx } env1) (E.nx env1)
def dWhile (t : DTM) (m : DSM) : DSM := fun E env => ∃ n, dWh t m E n env
theorem ds_while {c : Expr} {body : List Stmt} {t : DTM} {m : DSM} (hp : PassesOwn (model X.prog X.w) X.A X.env X.xe) (hc : DT X c t tc) (hb : DSs X body m tm) : DS X (.While c body [] pos) (dWhile t m) (tWhile tc tm) := by
  obtain ⟨c1, c2⟩ := hc
  obtain ⟨b1, b2⟩ := hb
  refine ⟨ps_while hp c1 b1, fun B S H env σ E D s q e => ?_⟩
  obtain ⟨n, q⟩ := q
  refine ⟨fun n σ' H' => ∃ S' env', SR X.K B S' H' env' σ' ∧ dWh t m E n env', ⟨n, S, env, s, q⟩, ?_⟩
  rintro n σ' H' ⟨S', env', s', q'⟩
  cases n with
  | zero => exact q'.elim
  | succ n =>
    refine c2 B S' H' env' σ' _ _ s' q' fun b H1 S1 env1 z q1 => ?_
    cases b with
    | true =>
      rw [if_pos rfl]
      refine ⟨fun σ2 H2 => ∃ S2 env2, SR X.K B S2 H2 env2 σ2 ∧ dWh t m E n env2, fun σ2 H2 a => ⟨n, Nat.lt_succ_self n, a⟩, ?_⟩
      exact b2 B S1 H1 env1 σ' _ _ z.sr (dIte_t q1) ⟨fun S4 H4 env4 σ4 s4 q4 => ⟨S4, env4, s4, q4⟩, e.rt, fun S4 H4 env4 σ4 s4 q4 => e.nx S4 H4 env4 σ4 s4 q4, fun S4 H4 env4 σ4 s4 q4 => ⟨S4, env4, s4, q4⟩, e.xc⟩
    | false =>
      rw [if_neg Bool.false_ne_true]
      exact e.nx S1 H1 env1 σ' z.sr (dIte_f q1)
end
end DL
end

section
set_option Elab.async false
set_option linter.all false
set_option maxRecDepth 100000
set_option maxHeartbeats 4000000
namespace DL
open PySem L2
open Evl (Ex)

/-! ### comprehensions -/
def wipeD (env : En) : List Nat → En
  | [] => env
  | v :: vs => (wipeD env vs).set v none
/-- the names of a block take back what they held -/
def backD (env0 : En) (env : En) : List Nat → En
  | [] => env
  | v :: vs => (backD env0 env vs).set v (env0[v]?.getD none)
def plainAt (env : En) : List Nat → Bool
  | [] => true
  | v :: vs => (match env[v]? with
    | some (some (.val _)) => true
    | some none => true
    | _ => false) && plainAt env vs
def DTs (X : Cx) (es : List Expr) (m : DTM) (t : TT) : Prop := PTs X es t ∧ ∀ (B : Bs) (S H : Hp) (env : En) (σ : St) (Q : En → Bool → Prop) (Qv : Bool → Hp → Prop), SR X.K B S H env σ → m env Q →
  (∀ b H' S' env', TPo X.K B S H env σ S' H' env' → Q env' b → Qv b H') → t σ H Qv
def dYes : DTM := fun env Q => Q env true
theorem dts_nil {X : Cx} : DTs X [] dYes tYes := ⟨pts_nil, fun B S H env σ Q Qv s q k => k true H S env (.refl s) q⟩
theorem dts_one {X : Cx} {c : Expr} {m : DTM} {t : TT} (h : DT X c m t) : DTs X [c] m t := ⟨pts_one h.1, h.2⟩
def dLcT (t : DTM) (m : DM) (nxt : En → List D → Prop) (acc : List D) : En → Prop := fun env1 => t env1 fun env2 b => dIte b
      (dKeep m env2 fun env3 q => match q with
        | .val x => acc.length < sizeLine ∧ nxt env3 (acc ++ [x])
        | _ => False)
      (nxt env2 acc)
def dLcL (vs : List Nat) (g : DGM) (t : DTM) (m : DM) : List D → En → List D → (En → List D → Prop) → Prop
  | [], env, acc, Q => Q env acc
  | d :: r, env, acc, Q => g d env (dLcT t m (fun env acc => dLcL vs g t m r (wipeD env vs) acc Q) acc)
def dLc (mi : DIM) (vs : List Nat) (g : DGM) (t : DTM) (m : DM) : DM := fun env Q => mi env fun env1 ds => plainAt env1 vs = true ∧ dLcL vs g t m ds (wipeD env1 vs) [] fun env2 acc => Q (backD env1 env2 vs) (.own acc)
/-- a target stores into the block's own names alone -/
def TgIn (t : TG) (vs : List Nat) : Prop := ∀ (v : V) (σ : St) (H : Hp) (Q Q' : St → Hp → Prop), (∀ σ2 H2, wipe σ2 vs = wipe σ vs → Q σ2 H2 → Q' σ2 H2) → t v σ H Q → t v σ H Q'
def TgsIn (t : TGs) (vs : List Nat) : Prop := ∀ (us : List V) (σ : St) (H : Hp) (Q Q' : St → Hp → Prop), (∀ σ2 H2, wipe σ2 vs = wipe σ vs → Q σ2 H2 → Q' σ2 H2) → t us σ H Q → t us σ H Q'
theorem wipe_set {σ : St} {i : Nat} {x : Option V} : ∀ {vs : List Nat}, i ∈ vs → wipe (σ.set i x) vs = wipe σ vs
  | [], h => by cases h
  | v :: vs, h => by
    unfold wipe
    by_cases c : i ∈ vs
    · rw [wipe_set c]
    · have e : i = v := by
        rcases List.mem_cons.mp h with e | e
        · exact e
        · exact absurd e c
      subst e
      have gen : ∀ (ws : List Nat) (τ : St), (wipe (τ.set i x) ws).set i none = (wipe τ ws).set i none := by
        intro ws
        induction ws with
        | nil => intro τ; unfold wipe; rw [List.set_set]
        | cons w ws ih =>
          intro τ
          unfold wipe
          by_cases d : w = i
          · subst d
            rw [List.set_set, List.set_set]
            exact ih τ
          · rw [List.set_comm _ _ d, List.set_comm _ _ d, ih]
      exact gen vs σ
theorem tgin_name {i : Nat} {vs : List Nat} (h : i ∈ vs) : TgIn (gName i) vs := fun v σ H Q Q' k q => k _ _ (wipe_set h) q
theorem tgsin_nil {vs : List Nat} : TgsIn gNil vs := fun us σ H Q Q' k q => ⟨q.1, k _ _ rfl q.2⟩
theorem tgsin_cons {vs : List Nat} {t : TG} {u : TGs} (h : TgIn t vs) (k : TgsIn u vs) : TgsIn (gCons t u) vs := fun us σ H Q Q' w q => by
  obtain ⟨v, r, e, q⟩ := q
  exact ⟨v, r, e, h _ _ _ _ _ (fun σ2 H2 z q2 => k _ _ _ _ _ (fun σ3 H3 z3 q3 => w σ3 H3 (z3.trans z) q3) q2) q⟩
theorem tgin_tup {K : PySem.W.Frag} {n : Nat} {vs : List Nat} {u : TGs} (k : TgsIn u vs) : TgIn (gTup K n u) vs := fun v σ H Q Q' w q => by
  obtain ⟨a, xs, e, h, l, q⟩ := q
  exact ⟨a, xs, e, h, l, k _ _ _ _ _ w q⟩

section
variable {K : PySem.W.Frag} {B : Bs} {S H S' H' : Hp} {env env' : En} {σ σ' : St}
theorem SR.wipe (s : SR K B S H env σ) : ∀ vs : List Nat, SR K B S H (wipeD env vs) (L2.wipe σ vs)
  | [] => s
  | v :: vs => (SR.wipe s vs).drop
/-- more is known of the slots -/
theorem SR.more (s : SR K B S H env σ) (hl : σ'.length = σ.length) (h : ∀ i v, Slt σ i v → Slt σ' i v) : SR K B S H env σ' := by
  refine ⟨s.ex0, s.nw0, s.keep0, s.old0, s.len.trans hl.symm, s.ex, fun i d e => let ⟨v, h1, h2⟩ := s.val i d e; ⟨v, h i v h1, h2⟩,
    fun i l e => let ⟨p, vs, h1, h2⟩ := s.own i l e; ⟨p, vs, h _ _ h1, h2⟩, fun i j l m p h1 h2 h3 h4 => ?_, fun i e => let ⟨a, h1, h2⟩ := s.pl i e; ⟨a, h1, h _ _ h2⟩, s.pool, fun i p l e => let ⟨k1, k2⟩ := s.fix i p l e; ⟨h _ _ k1, k2⟩, fun i j p l m e1 e2 e3 => ?_, s.dff, s.pin⟩
  obtain ⟨p1, _, q1, _⟩ := s.own i l h1
  obtain ⟨p2, _, q2, _⟩ := s.own j m h2
  have e1 := Slt.ref h3 (h _ _ q1)
  have e2 := Slt.ref h4 (h _ _ q2)
  subst e1
  subst e2
  exact s.dis i j l m _ h1 h2 q1 q2
  obtain ⟨p1, _, q1, _⟩ := s.own j m e2
  have e4 := Slt.ref e3 (h _ _ q1)
  subst e4
  exact s.dfx i j _ l m e1 e2 q1
/-- a name that is not told is told a value again -/
theorem SR.tell {i : Nat} {n : Option Nv} (s : SR K B S H env σ) (h : ∀ m, n = some m → ∃ d v, m = .val d ∧ Slt σ i v ∧ Rep K S v d) : SR K B S H (env.set i n) σ := by
  have ow : ∀ j l, Has (env.set i n) j (.own l) → j ≠ i ∧ Has env j (.own l) := fun j l e => by
    by_cases c : j = i
    · subst c
      obtain ⟨d, v, e2, _⟩ := h _ (set_self e)
      cases e2
    · exact ⟨c, set_other e c⟩
  have fw : ∀ j p l, Has (env.set i n) j (.fix p l) → Has env j (.fix p l) := fun j p l e => by
    by_cases c : j = i
    · subst c
      obtain ⟨d, v, e2, _⟩ := h _ (set_self e)
      cases e2
    · exact set_other e c
  refine ⟨s.ex0, s.nw0, s.keep0, s.old0, by rw [List.length_set]; exact s.len, s.ex, fun j d e => ?_, fun j l e => s.own j l (ow j l e).2, fun j k l m p h1 h2 h3 h4 => s.dis j k l m p (ow _ _ h1).2 (ow _ _ h2).2 h3 h4, fun j e => ?_, s.pool, fun j p l e => s.fix j p l (fw j p l e), fun j k p l m e1 e2 e3 => s.dfx j k p l m (fw j p l e1) (ow k m e2).2 e3, fun j k p l m e1 e2 => s.dff j k p l m (fw j p l e1) (fw k p m e2), s.pin⟩
  · by_cases c : j = i
    · subst c
      obtain ⟨d', v, e2, h1, h2⟩ := h _ (set_self e)
      cases e2
      exact ⟨v, h1, h2⟩
    · exact s.val j d (set_other e c)
  · by_cases c : j = i
    · subst c
      obtain ⟨d', v, e2, _⟩ := h _ (set_self e)
      cases e2
    · exact s.pl j (set_other e c)
/-- an object that is nobody's is written -/
theorem SR.stray {p : Addr} {o : HO} (s : SR K B S H env σ) (h1 : S p = none) (h2 : B.H0 p = none) (h3 : ¬ Ow B env σ p) : SR K B S (upd H p o) env σ := by
  refine ⟨s.ex0, s.nw0, fun a u e c => ?_, fun a e => ?_, s.len, fun a u e => ?_, s.val, fun i l e => ?_, s.dis, s.pl, fun a e => ?_, fun i q l e => ?_, s.dfx, s.dff, fun a e => by rw [upd_ne (fun z => h3 (.inl (by rw [← z]; exact e)))]; exact s.pin a e⟩
  · rw [upd_ne (fun z => by rw [z, h2] at e; cases e)]
    exact s.keep0 a u e c
  · by_cases z : a = p
    · rw [z]; exact h2
    · rw [upd_ne z] at e
      exact s.old0 a e
  · rw [upd_ne (fun z => by rw [z, h1] at e; cases e)]
    exact s.ex a u e
  · obtain ⟨q, vs, q1, q2, q3, q4, q5⟩ := s.own i l e
    refine ⟨q, vs, q1, q2, q3, ?_, q5⟩
    rw [upd_ne (fun z => h3 (.inr (.inl ⟨i, l, e, by rw [← z]; exact q1⟩)))]
    exact q4
  · obtain ⟨⟨y, l', cells, pos, big, seed, cnt, bud, k1, k2, k3⟩, o⟩ := s.pool a e
    exact ⟨⟨y, l', cells, pos, big, seed, cnt, bud, (upd_ne (fun z => h3 (.inl (by rw [← z]; exact e)))).trans k1, k2, k3⟩, o⟩
  · obtain ⟨k1, k2, k3, ws, k4, k5⟩ := s.fix i q l e
    refine ⟨k1, k2, k3, ws, ?_, k5⟩
    rw [upd_ne (fun z => h3 (.inr (.inr ⟨i, l, by rw [← z]; exact e⟩)))]
    exact k4
theorem wipeD_length : ∀ vs : List Nat, (wipeD env vs).length = env.length
  | [] => rfl
  | v :: vs => by unfold wipeD; rw [List.length_set, wipeD_length vs]
theorem backD_length : ∀ vs : List Nat, (backD env env' vs).length = env'.length
  | [] => rfl
  | v :: vs => by unfold backD; rw [List.length_set, backD_length vs]
theorem wipeD_has {i : Nat} {n : Nv} : ∀ {vs : List Nat}, Has (wipeD env vs) i n → Has env i n ∧ i ∉ vs
  | [], h => ⟨h, by simp⟩
  | v :: vs, h => by
    have c : i ≠ v := fun c => by
      subst c
      exact nomatch set_self h
    obtain ⟨h1, h2⟩ := wipeD_has (set_other h c)
    exact ⟨h1, fun z => by
      rcases List.mem_cons.mp z with z | z
      · exact c z
      · exact h2 z⟩
theorem wipeD_out {i : Nat} : ∀ {vs : List Nat}, i ∉ vs → (wipeD env vs)[i]? = env[i]?
  | [], _ => rfl
  | v :: vs, h => by
    unfold wipeD
    rw [List.getElem?_set_ne (fun e => h (by rw [e]; exact List.mem_cons_self))]
    exact wipeD_out fun z => h (List.mem_cons_of_mem _ z)
theorem backD_out {i : Nat} : ∀ {vs : List Nat}, i ∉ vs → (backD env env' vs)[i]? = env'[i]?
  | [], _ => rfl
  | v :: vs, h => by
    unfold backD
    rw [List.getElem?_set_ne (fun e => h (by rw [e]; exact List.mem_cons_self))]
    exact backD_out fun z => h (List.mem_cons_of_mem _ z)
theorem backD_in {i : Nat} (hl : env'.length = env.length) : ∀ {vs : List Nat}, i ∈ vs → (backD env env' vs)[i]? = env[i]?
  | [], h => by cases h
  | v :: vs, h => by
    unfold backD
    by_cases c : i = v
    · subst c
      by_cases d : i < env.length
      · rw [List.getElem?_set_self (by rw [backD_length, hl]; exact d), List.getElem?_eq_getElem d]
        rfl
      · rw [List.getElem?_eq_none (by rw [List.length_set, backD_length, hl]; omega), List.getElem?_eq_none (by omega)]
    · rw [List.getElem?_set_ne (Ne.symm c)]
      exact backD_in hl ((List.mem_cons.mp h).resolve_left c)
theorem plainAt_mem {i : Nat} : ∀ {vs : List Nat}, plainAt env vs = true → i ∈ vs → (∃ d, env[i]? = some (some (.val d))) ∨ env[i]? = some none
  | [], _, h => by cases h
  | v :: vs, p, h => by
    unfold plainAt at p
    rw [Bool.and_eq_true] at p
    by_cases c : i = v
    · subst c
      have p1 := p.1
      split at p1
      · rename_i d e
        exact .inl ⟨d, e⟩
      · rename_i e
        exact .inr e
      · cases p1
    · exact plainAt_mem p.2 ((List.mem_cons.mp h).resolve_left c)
theorem SR.back {env1 : En} {S1 H1 : Hp} (s1 : SR K B S1 H1 env1 σ) (s : SR K B S H env σ) (e : Ex S1 S) (hl : env.length = env1.length) : ∀ vs : List Nat, plainAt env1 vs = true → SR K B S H (backD env1 env vs) σ
  | [], _ => s
  | v :: vs, p => by
    have p' := p
    unfold plainAt at p
    rw [Bool.and_eq_true] at p
    unfold backD
    refine SR.tell (SR.back s1 s e hl vs p.2) fun m hm => ?_
    rcases plainAt_mem p' (List.mem_cons_self (a := v) (l := vs)) with ⟨d, q⟩ | q
    · rw [q] at hm
      cases hm
      obtain ⟨w, h1, h2⟩ := s1.val v d q
      exact ⟨d, w, rfl, h1, h2.mono e⟩
    · rw [q] at hm
      cases hm
/-- ownership shrinks when names are wiped -/
theorem Ow.wipe {a : Addr} {vs : List Nat} (h : Ow B (wipeD env vs) (L2.wipe σ vs) a) : Ow B env σ a := by
  rcases h with h | ⟨i, l, h1, h2⟩ | ⟨i, l, h1⟩
  · exact .inl h
  · exact .inr (.inl ⟨i, l, (wipeD_has h1).1, (wipe_some h2).1⟩)
  · exact .inr (.inr ⟨i, l, (wipeD_has h1).1⟩)
end
/-- what stays of the names through a block: each as it was, or come to stand still, or a name of the block -/
def Fz (vs : List Nat) (env env' : En) : Prop := env'.length = env.length ∧ ∀ i : Nat, i ∉ vs → env'[i]? = env[i]? ∨ ∃ l, Has env i (.own l) ∧ Has env' i (.val (.lst l))
theorem Fz.trans {vs : List Nat} {a b c : En} (h : Fz vs a b) (k : Frz b c) : Fz vs a c := ⟨k.1.trans h.1, fun i hi => by
  rcases h.2 i hi with e | ⟨l, e1, e2⟩
  · rcases k.2 i with q | ⟨l, q1, q2⟩
    · exact .inl (q.trans e)
    · exact .inr ⟨l, e.symm.trans q1, q2⟩
  · rcases k.2 i with q | ⟨m, q1, q2⟩
    · exact .inr ⟨l, e1, q.trans e2⟩
    · exact nomatch Has.inj e2 q1⟩
theorem Fz.wipe {vs : List Nat} {a b : En} (h : Fz vs a b) : Fz vs a (wipeD b vs) := ⟨(wipeD_length vs).trans h.1, fun i hi => by
  rcases h.2 i hi with e | ⟨l, e1, e2⟩
  · exact .inl ((wipeD_out hi).trans e)
  · exact .inr ⟨l, e1, (wipeD_out hi).trans e2⟩⟩
theorem Fz.back {vs : List Nat} {a b : En} (h : Fz vs a b) : Frz a (backD a b vs) := ⟨(backD_length vs).trans h.1, fun i => by
  by_cases c : i ∈ vs
  · exact .inl (backD_in h.1 c)
  · rcases h.2 i c with e | ⟨l, e1, e2⟩
    · exact .inl ((backD_out c).trans e)
    · exact .inr ⟨l, e1, (backD_out c).trans e2⟩⟩
/-- the target's names are the block's -/
structure GFact (vs : List Nat) (env env' : En) : Prop where
  len : env'.length = env.length
  out : ∀ i : Nat, i ∉ vs → env'[i]? = env[i]?
  own : ∀ i l, Has env' i (.own l) → Has env i (.own l)
  fix : ∀ i p l, Has env' i (.fix p l) → Has env i (.fix p l)
def GIn (g : DGM) (vs : List Nat) : Prop := ∀ d env (Q Q' : En → Prop), (∀ env', GFact vs env env' → Q env' → Q' env') → g d env Q → g d env Q'
def GsIn (g : DGsM) (vs : List Nat) : Prop := ∀ d env (Q Q' : En → Prop), (∀ env', GFact vs env env' → Q env' → Q' env') → g d env Q → g d env Q'
theorem GFact.refl (vs : List Nat) (env : En) : GFact vs env env := ⟨rfl, fun _ _ => rfl, fun _ _ h => h, fun _ _ _ h => h⟩
theorem GFact.trans {vs : List Nat} {a b c : En} (h : GFact vs a b) (k : GFact vs b c) : GFact vs a c := ⟨k.len.trans h.len, fun i hi => (k.out i hi).trans (h.out i hi), fun i l e => h.own i l (k.own i l e), fun i p l e => h.fix i p l (k.fix i p l e)⟩
theorem gin_name {i : Nat} {vs : List Nat} (h : i ∈ vs) : GIn (dName i) vs := fun d env Q Q' k q => k _ ⟨List.length_set, fun j hj => List.getElem?_set_ne (fun e => hj (by rw [← e]; exact h)), fun j l e => by
  by_cases c : j = i
  · subst c
    exact nomatch set_self e
  · exact set_other e c, fun j p l e => by
  by_cases c : j = i
  · subst c
    exact nomatch set_self e
  · exact set_other e c⟩ q
theorem gsin_nil {vs : List Nat} : GsIn dTNil vs := fun ds env Q Q' k q => by
  unfold dTNil at q ⊢
  split at q
  · exact k _ (.refl _ _) q
  · exact q.elim
theorem gsin_cons {vs : List Nat} {g : DGM} {h : DGsM} (hi : GIn g vs) (k : GsIn h vs) : GsIn (dTCons g h) vs := fun ds env Q Q' w q => by
  cases ds with
  | nil => exact q.elim
  | cons d r => exact hi d env _ _ (fun env1 f1 q1 => k r env1 _ _ (fun env2 f2 q2 => w env2 (f1.trans f2) q2) q1) q
theorem gin_tup {vs : List Nat} {n : Nat} {h : DGsM} (k : GsIn h vs) : GIn (dTg n h) vs := fun d env Q Q' w q => by
  unfold dTg at q ⊢
  split at q
  · exact ⟨q.1, k _ env _ _ w q.2⟩
  · exact q.elim
theorem wipe_out {σ : St} {i : Nat} : ∀ {vs : List Nat}, i ∉ vs → (wipe σ vs)[i]? = σ[i]?
  | [], _ => rfl
  | v :: vs, h => by
    unfold wipe
    rw [List.getElem?_set_ne (fun e => h (by rw [e]; exact List.mem_cons_self))]
    exact wipe_out fun z => h (List.mem_cons_of_mem _ z)
theorem Go.stray {A : Addr → Prop} {S H S' H' : Hp} {p : Addr} {o : HO} (g : Go A S H S' H') (h : H p = none) : Go A S H S' (upd H' p o) :=
  ⟨g.ex, fun a u e n => by rw [upd_ne (ne_of_none e h)]; exact g.keep a u e n, g.nw, fun a e => by
    by_cases z : a = p
    · rw [z]; exact h
    · rw [upd_ne z] at e
      exact g.old a e⟩
section
variable {X : Cx}
/-- the state within a block -/
structure LcI (K : PySem.W.Frag) (B : Bs) (S1 H1 : Hp) (env1 : En) (σ : St) (vs : List Nat) (D : Addr) (S H : Hp) (env : En) (acc : List DL.D) : Prop where
  sr : SR K ⟨S1, B.H0, B.pa⟩ S H env (wipe σ vs)
  go : Go (Ow B env1 σ) S1 H1 S H
  fz : Fz vs env1 env
  wp : ∀ i n, Has env i n → i ∉ vs
  dn : S D = none
  dh : ∃ ws, H D = some (.lst ws) ∧ Reps K S ws acc
theorem de_lc {elt tg iter : Expr} {ifs : List Expr} {scope : Scope} (own : List (Str × Nat)) {pos : Pos} {mi : DIM} {wi : TI} {g : DGM} {tg1 : Shared → Hp → Addr → List (Str × Addr) → List Addr → TG} {t : DTM} {tt : Shared → Hp → Addr → List (Str × Addr) → List Addr → TT} {m : DM} {te : Shared → Hp → Addr → List (Str × Addr) → List Addr → TE} (hc : X.calm = true) (hN : X.N.Nodup) (hi : DI X tg iter mi wi) (ok : BlkOk X.N X.env.scope scope own)
    (hg : ∀ (s : Shared) (H : Hp) (C : Addr) (cl : List (Str × Addr)) (fp : List Addr), DG (X.blk s H scope (compEnvC scope cl C X.env) fp) tg g (tg1 s H C cl fp)) (ht : ∀ (s : Shared) (H : Hp) (C : Addr) (cl : List (Str × Addr)) (fp : List Addr), DTs (X.blk s H scope (compEnvC scope cl C X.env) fp) ifs t (tt s H C cl fp))
    (he : ∀ (s : Shared) (H : Hp) (C : Addr) (cl : List (Str × Addr)) (fp : List Addr), DE (X.blk s H scope (compEnvC scope cl C X.env) fp) elt m (te s H C cl fp)) (i1 : TgIn (tg1 X.s_0 X.H_0 0 [] []) (own.map (·.2))) (i2 : GIn g (own.map (·.2)))
    (e1 : ∀ s H C cl fp, tg1 s H C cl fp = tg1 X.s_0 X.H_0 0 [] [] := by intros; rfl) (e2 : ∀ s H C cl fp, tt s H C cl fp = tt X.s_0 X.H_0 0 [] [] := by intros; rfl) (e3 : ∀ s H C cl fp, te s H C cl fp = te X.s_0 X.H_0 0 [] [] := by intros; rfl) (hs : ∀ x, foldedSetIterable iter X.env x = pure x := by intro _; rfl) :
    DE X (.ListComp elt [⟨tg, iter, ifs, 0⟩] scope pos) (dLc mi (own.map (·.2)) g t m) (tLc wi (tg1 X.s_0 X.H_0 0 [] []) (tt X.s_0 X.H_0 0 [] []) (te X.s_0 X.H_0 0 [] []) (own.map (·.2))) := by
  have hg : ∀ (s : Shared) (H : Hp) (C : Addr) (cl : List (Str × Addr)) (fp : List Addr), DG (X.blk s H scope (compEnvC scope cl C X.env) fp) tg g (tg1 X.s_0 X.H_0 0 [] []) := fun s H C cl fp => e1 s H C cl fp ▸ hg s H C cl fp
  have ht : ∀ (s : Shared) (H : Hp) (C : Addr) (cl : List (Str × Addr)) (fp : List Addr), DTs (X.blk s H scope (compEnvC scope cl C X.env) fp) ifs t (tt X.s_0 X.H_0 0 [] []) := fun s H C cl fp => e2 s H C cl fp ▸ ht s H C cl fp
  have he : ∀ (s : Shared) (H : Hp) (C : Addr) (cl : List (Str × Addr)) (fp : List Addr), DE (X.blk s H scope (compEnvC scope cl C X.env) fp) elt m (te X.s_0 X.H_0 0 [] []) := fun s H C cl fp => e3 s H C cl fp ▸ he s H C cl fp
  clear e1 e2 e3
  generalize tg1 X.s_0 X.H_0 0 [] [] = tg1 at *
  generalize tt X.s_0 X.H_0 0 [] [] = tt at *
  generalize te X.s_0 X.H_0 0 [] [] = te at *
  have g2 := (hg X.s_0 X.H_0 0 [] []).2
  have t2 := (ht X.s_0 X.H_0 0 [] []).2
  have e2 := (de_keep (he X.s_0 X.H_0 0 [] [])).2
  refine ⟨pe_lc hc hN hi.1 ok (fun s H C cl fp => (hg s H C cl fp).1) (fun s H C cl fp => (ht s H C cl fp).1) (fun s H C cl fp => (he s H C cl fp).1) hs, ?_⟩
  clear hg ht he
  generalize own.map (·.2) = vs at *
  intro B S H env σ Q Qv s q k
  refine hi.2 B S H env σ _ _ s q fun J H1 S1 env1 ds z it q1 => ?_
  obtain ⟨pl, q1⟩ := q1
  have s1 := z.sr
  intro D hD
  have hD0 := s1.hp0 hD
  have hDn := s1.now hD
  have hDs := s1.sp0 hD
  have hD1 : Has env1 0 .pool → True := fun _ => trivial
  -- the names that own in a block's state own ahead of it
  have sub : ∀ {S' H' : Hp} {env' : En} {acc : List DL.D}, LcI X.K B S1 H1 env1 σ vs D S' H' env' acc → ∀ a, Ow ⟨S1, B.H0, B.pa⟩ env' (wipe σ vs) a → Ow B env1 σ a := fun {S' H' env' acc} I a h => by
    rcases h with h | ⟨i, l, h1, h2⟩ | ⟨i, l, h1⟩
    · exact .inl h
    · have hi := I.wp i _ h1
      rcases I.fz.2 i hi with e | ⟨l', e1, e2⟩
      · exact .inr (.inl ⟨i, l, e.symm.trans h1, (wipe_some h2).1⟩)
      · exact nomatch Has.inj h1 e2
    · have hi := I.wp i _ h1
      rcases I.fz.2 i hi with e | ⟨l', e1, e2⟩
      · exact .inr (.inr ⟨i, l, e.symm.trans h1⟩)
      · exact nomatch Has.inj h1 e2
  refine ⟨fun i m' H' => m' = ds.length - i ∧ i ≤ ds.length ∧ ∃ S' env' acc, LcI X.K B S1 H1 env1 σ vs D S' H' env' acc ∧ dLcL vs g t m (ds.drop i) env' acc fun env2 acc => Q (backD env1 env2 vs) (.own acc), ⟨_, rfl, Nat.zero_le _, S1, wipeD env1 vs, [], ⟨?_, Go.stray .refl hD, ⟨wipeD_length vs, fun i hi => .inl (wipeD_out hi)⟩, fun i n h => (wipeD_has h).2, hDs, [], upd_same, .nil⟩, q1⟩, ?_⟩
  · exact (s1.base.stray hDs hD0 hDn).wipe vs
  rintro i m' H' ⟨rfl, hil, S', env', acc, I, l⟩
  have ex1 : Ex S1 S' := I.sr.ex0
  by_cases c : i < ds.length
  · refine .inr ⟨it.go i c S' H' ex1 I.sr.ex, fun H2 => ∃ S2 env2 acc2, LcI X.K B S1 H1 env1 σ vs D S2 H2 env2 acc2 ∧ dLcL vs g t m (ds.drop (i + 1)) env2 acc2 fun env2 acc => Q (backD env1 env2 vs) (.own acc), fun H2 ⟨S2, env2, acc2, a1, a2⟩ => ⟨_, by omega, rfl, c, S2, env2, acc2, a1, a2⟩, fun x H2 y => ?_⟩
    have hd : ds[i]? = some ds[i] := List.getElem?_eq_getElem c
    obtain ⟨S2, n2, r2⟩ := it.yld i _ hd S' H' x H2 ex1 I.sr.ex y
    rw [List.drop_eq_getElem_cons c] at l
    refine i1 _ _ _ _ _ (fun σ3 H3 w3 h3 => ?_) (g2 ⟨S1, B.H0, B.pa⟩ S2 H2 env' (wipe σ vs) x _ _ (fun σ3 H3 => H3 = H2 ∧ ∃ env3, SR X.K ⟨S1, B.H0, B.pa⟩ S2 H2 env3 σ3 ∧ GFact vs env' env3 ∧ dLcT t m (fun env acc => dLcL vs g t m (ds.drop (i + 1)) (wipeD env vs) acc fun env2 acc => Q (backD env1 env2 vs) (.own acc)) acc env3) (I.sr.nw n2) r2 (i2 _ _ _ (fun env3 => GFact vs env' env3 ∧ dLcT t m (fun env acc => dLcL vs g t m (ds.drop (i + 1)) (wipeD env vs) acc fun env2 acc => Q (backD env1 env2 vs) (.own acc)) acc env3) (fun _ f q => ⟨f, q⟩) l) fun env3 σ3 s3 q3 => ⟨rfl, env3, s3, q3.1, q3.2⟩)
    obtain ⟨rfl, env3, s3, ⟨f1, f2, f3, f4⟩, q3⟩ := h3
    have w3 : wipe σ3 vs = wipe σ vs := w3.trans (by
      have : ∀ us : List Nat, (∀ i ∈ us, i ∈ vs) → wipe (wipe σ vs) us = wipe σ vs := by
        intro us
        induction us with
        | nil => intro _; rfl
        | cons u us ih =>
          intro h
          show (wipe (wipe σ vs) us).set u none = wipe σ vs
          rw [ih fun i hi => h i (List.mem_cons_of_mem _ hi)]
          refine List.ext_getElem? fun j => ?_
          by_cases cj : j = u
          · subst cj
            by_cases cl : j < (wipe σ vs).length
            · rw [List.getElem?_set_self cl, List.getElem?_eq_getElem cl]
              cases q : (wipe σ vs)[j] with
              | none => rfl
              | some v =>
                have q' : (wipe σ vs)[j]? = some (some v) := by rw [List.getElem?_eq_getElem cl, q]
                exact absurd (h j List.mem_cons_self) (wipe_some q').2
            · rw [List.getElem?_eq_none (by rw [List.length_set]; omega), List.getElem?_eq_none (by omega)]
          · rw [List.getElem?_set_ne (Ne.symm cj)]
      exact this vs fun i h => h)
    have sub3 : ∀ a, Ow ⟨S1, B.H0, B.pa⟩ env3 σ3 a → Ow B env1 σ a := fun a h => by
      rcases h with h | ⟨j, l', h1, h2⟩ | ⟨j, l', h1⟩
      · exact .inl h
      rotate_left
      · exact sub I a (.inr (.inr ⟨j, l', f4 j a l' h1⟩))
      · have h1' := f3 j l' h1
        have hj := I.wp j _ h1'
        refine sub I a (.inr (.inl ⟨j, l', h1', ?_⟩))
        show (wipe σ vs)[j]? = _
        rw [← w3, wipe_out hj]
        exact h2
    have go3 : Go (Ow B env1 σ) S1 H1 S2 H3 := I.go.trans (A' := fun _ => False) n2.go fun _ _ _ _ h => h
    have dh3 : ∃ ws, H3 D = some (.lst ws) ∧ Reps X.K S2 ws acc := let ⟨ws, w1, w2⟩ := I.dh; ⟨ws, n2.keep _ _ w1, w2.mono n2.ex⟩
    have dn3 : S2 D = none := let ⟨ws, w1, w2⟩ := I.dh; n2.nw _ _ w1 I.dn
    have fz3 : Fz vs env1 env3 := ⟨f1.trans I.fz.1, fun i hi => by
      rcases I.fz.2 i hi with e | ⟨l, e1, e2⟩
      · exact .inl ((f2 i hi).trans e)
      · exact .inr ⟨l, e1, (f2 i hi).trans e2⟩⟩
    have nd3 : ¬ Ow ⟨S1, B.H0, B.pa⟩ env3 σ3 D := fun h => hDn (sub3 D h)
    refine ⟨w3, ?_⟩
    refine t2 ⟨S1, B.H0, B.pa⟩ S2 H3 env3 σ3 _ _ s3 q3 fun b H4 S4 env4 z4 q4 => ?_
    have sub4 : ∀ a, Ow ⟨S1, B.H0, B.pa⟩ env4 σ3 a → Ow B env1 σ a := fun a h => sub3 a (Ow.frz z4.fz h)
    have go4 : Go (Ow B env1 σ) S1 H1 S4 H4 := go3.trans z4.go fun x o _ n w => n (sub3 x w)
    have dh4 : ∃ ws, H4 D = some (.lst ws) ∧ Reps X.K S4 ws acc := let ⟨ws, w1, w2⟩ := dh3; ⟨ws, z4.go.keep _ _ w1 nd3, w2.mono z4.go.ex⟩
    have dn4 : S4 D = none := let ⟨ws, w1, w2⟩ := dh3; z4.go.nw _ _ w1 nd3 dn3
    have fz4 : Fz vs env1 env4 := fz3.trans z4.fz
    cases b with
    | true =>
      rw [if_pos rfl]
      have q4 := dIte_t q4
      refine e2 ⟨S1, B.H0, B.pa⟩ S4 H4 env4 σ3 _ _ z4.sr q4 fun v H5 S5 env5 r z5 q5 => ?_
      split at q5
      · rename_i d5
        have nd4 : ¬ Ow ⟨S1, B.H0, B.pa⟩ env4 σ3 D := fun h => hDn (sub4 D h)
        obtain ⟨ws, w1, w2⟩ := dh4
        have w1' := z5.go.keep _ _ w1 nd4
        have dn5 := z5.go.nw _ _ w1 nd4 dn4
        refine ⟨ws, w1', by rw [w2.length]; exact q5.1, S5, wipeD env5 vs, acc ++ [d5], ⟨?_, ?_, (fz4.trans z5.fz).wipe, fun i n h => (wipeD_has h).2, dn5, _, upd_same, (w2.mono z5.go.ex).append (.cons z5.res .nil)⟩, q5.2⟩
        · have := (z5.sr.stray (p := D) (o := .lst (ws ++ [v])) dn5 hD0 fun h => nd4 (Ow.frz z5.fz h)).wipe vs
          rw [w3] at this
          exact this
        · exact (go4.trans z5.go fun x o _ n w => n (sub4 x w)).stray hD
      · exact q5.elim
    | false =>
      rw [if_neg Bool.false_ne_true]
      refine ⟨S4, wipeD env4 vs, acc, ⟨?_, go4, fz4.wipe, fun i n h => (wipeD_has h).2, dn4, dh4⟩, dIte_f q4⟩
      have := z4.sr.wipe vs
      rw [w3] at this
      exact this
  · have hi' : i = ds.length := by omega
    subst hi'
    rw [List.drop_length] at l
    refine .inl ⟨it.stop S' H' ex1 I.sr.ex, ?_⟩
    obtain ⟨ws, w1, w2⟩ := I.dh
    have sf := (s1.unbase I.sr).more (σ' := σ) (wipe_length σ vs).symm (fun i v h => (wipe_some h).1)
    refine k _ H' S' _ (.own acc) ⟨SR.back s1 sf ex1 I.fz.1 vs pl, z.go.trans I.go fun x o _ n w => n (Ow.frz z.fz w), z.fz.trans I.fz.back, D, ws, rfl, I.dn, hD0, z.go.old D hD, fun w => hDn (Ow.frz I.fz.back w), w1, w2⟩ l
end
end DL
end

section
set_option Elab.async false
set_option linter.all false
set_option maxRecDepth 100000
set_option maxHeartbeats 4000000
namespace DL
open PySem PySem.Spec PyProof.Rows L2
open Evl (Ex)

/-! ### defs -/
/-- the arguments: values, the pool -/
inductive ArgR (K : PySem.W.Frag) (S : Hp) (pa : Option Addr) : List V → List R → Prop
  | nil : ArgR K S pa [] []
  | val {v : V} {d : D} {vs : List V} {rs : List R} : Rep K S v d → ArgR K S pa vs rs → ArgR K S pa (v :: vs) (.val d :: rs)
  | pool {a : Addr} {vs : List V} {rs : List R} : pa = some a → ArgR K S pa vs rs → ArgR K S pa (.ref a :: vs) (.pool :: rs)
structure DRet (K : PySem.W.Frag) (S H : Hp) (pa : Option Addr) (S' H' : Hp) (r : R) (v : V) : Prop where
  ex : Ex S S'
  sh : Ex S' H'
  keep : ∀ a o, H a = some o → pa ≠ some a → H' a = some o
  nw : ∀ a o, H a = some o → S a = none → S' a = none
  old : ∀ a, H' a = none → H a = none
  pool : ∀ a, pa = some a → PoolAt S' H' a
  pin : ∀ a, pa = some a → headO (H' a) = headO (H a)
  ret : RetR K ⟨S, H, pa⟩ S' H' r v
abbrev FM := List R → (R → Prop) → Prop
def spF (K : PySem.W.Frag) (n : Nat) (F : FM) : Sp := fun vs H Q _ => ∃ (S : Hp) (pa : Option Addr) (rs : List R) (Qd : R → Prop), Ex S H ∧ (∀ a, pa = some a → PoolAt S H a) ∧ ArgR K S pa vs rs ∧ vs.length = n ∧ F rs Qd ∧
  ∀ v H' S' r, DRet K S H pa S' H' r v → Qd r → Q v H'
def startD (n : Nat) (rs : List R) : En := rs.map R.nv ++ List.replicate (n - rs.length) none
/-- what a body makes of the arguments -/
def bodyF (n : Nat) (m : DSM) : FM := fun rs Qd => m { nx := fun _ => Qd (.val .non), rt := fun _ r => Qd r } (startD n rs)
theorem spF.imp {K : PySem.W.Frag} {n : Nat} {F F' : FM} (h : ∀ rs Q, F' rs Q → F rs Q) : ∀ vs H Q E, spF K n F' vs H Q E → spF K n F vs H Q E :=
  fun vs H Q E ⟨S, pa, rs, Qd, h1, h2, h3, h4, h5, h6⟩ => ⟨S, pa, rs, Qd, h1, h2, h3, h4, h _ _ h5, h6⟩
section
variable {K : PySem.W.Frag} {S H : Hp} {pa : Option Addr}
theorem ArgR.length : ∀ {vs : List V} {rs : List R}, ArgR K S pa vs rs → vs.length = rs.length
  | _, _, .nil => rfl
  | _, _, .val _ r => by rw [List.length_cons, List.length_cons, ArgR.length r]
  | _, _, .pool _ r => by rw [List.length_cons, List.length_cons, ArgR.length r]
theorem ArgR.get : ∀ {vs : List V} {rs : List R} {i : Nat} {n : Nv}, ArgR K S pa vs rs → (rs.map R.nv)[i]? = some (some n) → ∃ v, vs[i]? = some v ∧ ((∃ d, n = .val d ∧ Rep K S v d) ∨ (n = .pool ∧ ∃ a, pa = some a ∧ v = .ref a))
  | _, _, _, _, .nil, e => by simp at e
  | _, _, 0, n, .val h _, e => by
    have e' : n = .val _ := (Option.some.inj (Option.some.inj e)).symm
    exact ⟨_, rfl, .inl ⟨_, e', h⟩⟩
  | _, _, 0, n, .pool h _, e => by
    have e' : n = .pool := (Option.some.inj (Option.some.inj e)).symm
    exact ⟨_, rfl, .inr ⟨e', _, h, rfl⟩⟩
  | _, _, i + 1, n, .val _ r, e => by
    obtain ⟨v, h1, h2⟩ := ArgR.get (i := i) (n := n) r (by simpa using e)
    exact ⟨v, by simpa using h1, h2⟩
  | _, _, i + 1, n, .pool _ r, e => by
    obtain ⟨v, h1, h2⟩ := ArgR.get (i := i) (n := n) r (by simpa using e)
    exact ⟨v, by simpa using h1, h2⟩
theorem SR.entry {vs : List V} {rs : List R} {N : List Str} (h1 : Ex S H) (h2 : ∀ a, pa = some a → PoolAt S H a) (h3 : ArgR K S pa vs rs) : SR K ⟨S, H, pa⟩ S H (startD N.length rs) (L2.start N vs) := by
  have hl := h3.length
  have get : ∀ i n, Has (startD N.length rs) i n → (rs.map R.nv)[i]? = some (some n) := fun i n h => by
    unfold startD at h
    by_cases c : i < (rs.map R.nv).length
    · have h' : (rs.map R.nv ++ List.replicate (N.length - rs.length) none)[i]? = some (some n) := h
      rw [List.getElem?_append_left c] at h'
      exact h'
    · have h' : (rs.map R.nv ++ List.replicate (N.length - rs.length) none)[i]? = some (some n) := h
      rw [List.getElem?_append_right (by omega)] at h'
      have := List.mem_of_getElem? h'
      rw [List.mem_replicate] at this
      cases this.2
  have slt : ∀ i v, vs[i]? = some v → Slt (L2.start N vs) i v := fun i v h => by
    unfold L2.start
    have c : i < (vs.map some).length := by
      rw [List.length_map]
      exact (List.getElem?_eq_some_iff.mp h).1
    show (vs.map some ++ List.replicate (N.length - vs.length) none)[i]? = some (some v)
    rw [List.getElem?_append_left c, List.getElem?_map, h]
    rfl
  refine ⟨Ex.refl _, fun _ _ _ h => h, fun _ _ h _ => h, fun _ h => h, ?_, h1, fun i d h => ?_, fun i l h => ?_, fun i j l m p h => ?_, fun i h => ?_, fun a h => ⟨h2 a h, ?_⟩, fun i q l h => ?_, fun i j q l m h _ _ => ?_, fun i j q l m h _ => ?_, fun _ _ => rfl⟩
  · unfold startD L2.start
    simp only [List.length_append, List.length_map, List.length_replicate]
    omega
  · obtain ⟨v, q1, ⟨d', e, q2⟩ | ⟨e, _⟩⟩ := h3.get (get i _ h)
    · cases e
      exact ⟨v, slt i v q1, q2⟩
    · cases e
  · obtain ⟨v, q1, ⟨d', e, q2⟩ | ⟨e, _⟩⟩ := h3.get (get i _ h)
    · cases e
    · cases e
  · obtain ⟨v, q1, ⟨d', e, q2⟩ | ⟨e, _⟩⟩ := h3.get (get i _ h)
    · cases e
    · cases e
  · obtain ⟨v, q1, ⟨d', e, q2⟩ | ⟨e, a, q2, q3⟩⟩ := h3.get (get i _ h)
    · cases e
    · subst q3
      exact ⟨a, q2, slt i _ q1⟩
  · obtain ⟨_, l, cells, pos, big, seed, cnt, bud, k1, _⟩ := h2 a h
    exact ⟨_, k1⟩
  all_goals
    obtain ⟨v, q1, ⟨d', e, q2⟩ | ⟨e, _⟩⟩ := h3.get (get i _ h)
    · cases e
    · cases e
theorem SR.ret {B : Bs} {S' H' : Hp} {env : En} {σ : L2.St} {r : R} {v : V} (s : SR K B S H env σ) (d : DRet K S H B.pa S' H' r v) : SR K B S' H' env σ where
  ex0 := s.ex0.trans d.ex
  nw0 := fun a o h e => by
    by_cases c : B.pa = some a
    · exact (d.pool a c).1
    · exact d.nw a o (s.keep0 a o h c) (s.nw0 a o h e)
  keep0 := fun a o h c => d.keep a o (s.keep0 a o h c) c
  old0 := fun a h => s.old0 a (d.old a h)
  len := s.len
  ex := d.sh
  val := fun i d' h => let ⟨v, h1, h2⟩ := s.val i d' h; ⟨v, h1, h2.mono d.ex⟩
  own := fun i l h => by
    obtain ⟨p, vs, h1, h2, h3, h4, h5⟩ := s.own i l h
    have np : B.pa ≠ some p := fun e => by
      obtain ⟨_, o, q⟩ := s.pool p e
      rw [h3] at q
      cases q
    exact ⟨p, vs, h1, d.nw _ _ h4 h2, h3, d.keep _ _ h4 np, h5.mono d.ex⟩
  dis := s.dis
  fix := fun i q l h => by
    obtain ⟨k1, k2, k3, vs, k4, k5⟩ := s.fix i q l h
    have np : B.pa ≠ some q := fun e => by
      obtain ⟨_, o, z⟩ := s.pool q e
      rw [k3] at z
      cases z
    exact ⟨k1, d.nw _ _ k4 k2, k3, vs, d.keep _ _ k4 np, k5.mono d.ex⟩
  dfx := s.dfx
  dff := s.dff
  pin := fun a e => (d.pin a e).trans (s.pin a e)
  pl := s.pl
  pool := fun a h => let ⟨q, o⟩ := s.pool a h; ⟨d.pool a h, o⟩
end
def argsOk : List R → Bool
  | [] => true
  | .val _ :: r => argsOk r
  | .pool :: r => argsOk r
  | _ => false
theorem LkA.args {K : PySem.W.Frag} {B : Bs} {S H : Hp} : ∀ {vs : List V} {rs : List R}, LkA K B S H vs rs → argsOk rs = true → ArgR K S B.pa vs rs
  | _, _, .nil, _ => .nil
  | _, _, .cons (r := r) h k p t, e => by
    cases r with
    | val d => exact .val (k d rfl) (LkA.args t e)
    | pool =>
      obtain ⟨a, e1, e2⟩ := p rfl
      subst e2
      exact .pool e1 (LkA.args t e)
    | own l => cases e
    | brw i l => cases e
/-- f(e, ..) -/
def dCall (F : FM) (n : DAM) : DM := fun env Q => n env fun env' rs => argsOk rs = true ∧ F rs fun r => match r with
  | .brw _ _ => False
  | r => Q env' r
section
variable {X : Cx} {k : Nat} {f C : Addr} {fd : FuncData} {ps : List Str} {F : FM} {x m : Str} {p pos apos : Pos} {e o : Expr} {es : List Expr} {n : DAM} {tn : TA} {np : Nat}
theorem spF_call {B : Bs} {S H : Hp} {env : En} {σ : L2.St} {vs : List V} {rs : List R} {Q : En → R → Prop} {Qv : VK} {E : XK} (s : SR X.K B S H env σ) (l : LkA X.K B S H vs rs) (h : argsOk rs = true) (hl : vs.length = np) (hF : F rs fun r => match r with
    | .brw _ _ => False
    | r => Q env r) (k : ∀ v H' S' env' r, EPo X.K B S H env σ S' H' env' r v → Q env' r → Qv v H') : spF X.K np F vs H Qv E := by
  refine ⟨S, B.pa, rs, _, s.ex, fun a e => (s.pool a e).1, l.args h, hl, hF, fun v H' S' r d q => ?_⟩
  have s' := s.ret d
  have go : Go (Ow B env σ) S H S' H' := ⟨d.ex, fun a o h n => d.keep a o h fun e => n (.inl e), fun a o h n e => d.nw a o h e, d.old⟩
  have dr := d.ret
  cases r with
  | val d0 => exact k v H' S' env (.val d0) ⟨s', go, .refl _, dr⟩ q
  | own l =>
    obtain ⟨p, ws, rfl, h1, h2, h3, h4⟩ := dr
    exact k _ H' S' env (.own l) ⟨s', go, .refl _, p, ws, rfl, h1, s.hp0 h2, h2, s.now h2, h3, h4⟩ q
  | pool => exact k v H' S' env .pool ⟨s', go, .refl _, dr⟩ q
  | brw i l => exact q.elim
theorem de_call (hF : FnOk X.prog X.w X.K X.mg X.base CX0 k f fd ps (spF X.K np F)) (hr : Room k X.A) (hg : Gl X x) (hm : X.mg x = some (.ref f)) (hk : PySem.W.keepIn X.K (.ref f) = true) (hb : Binds X.K fd ps [])
    (ha : DA X (e :: es) n tn) (hlen : (e :: es).length = np) (hdb : (x == ("__debug__" : Str)) = false := by decide) (he : starEach (e :: es) X.env = (false, eval e X.env) :: starEach es X.env := by rfl) (hpl : (backTo pos (starEach es X.env)).any (·.1) = false := by rfl) :
    DE X (.Call (.Name x p) (e :: es) [] pos) (dCall F n) (tCall (spF X.K np F) [] E0 tn) := by
  refine ⟨pe_call hF hr hg hm hk hb .nil pass0 ha.1 hdb he hpl, fun B S H env σ Q Qv s q k => ha.2 B S H env σ _ _ s q fun vs H1 S1 env1 rs z l len q1 => ?_⟩
  show spF X.K np F (vs ++ []) H1 Qv E0
  rw [List.append_nil]
  exact spF_call z.sr l q1.1 (len.trans hlen) q1.2 fun v H' S' env' r a b => k v H' S' env' r (z.e a) b
theorem fn_d {P : Program} {w : World} {K : PySem.W.Frag} {mg : Str → Option Value} {base : Heap} {x qual : Str} {st : Stmt} {f : Addr} {fd : FuncData} {N ps : List Str} {k : Nat} {m : DSM} (F : Fun K x qual st f fd) (Sc : FnScope N ps (defScope st))
    (hbody : ∀ (cdv : Value) (A : Around) (outer : List Env) (s : Shared) (H : Hp) (E : XK), Room k (A.deeper (envOfC qual (defScope st) s.heap.objs.size f cdv)) → ∃ t, DSs (cxOf CX0 P w K mg base N qual (defScope st) f cdv A outer s H E).nox (defBody st) m t) :
    FnOk P w K mg base CX0 (k + 1) f fd ps (spF K ps.length (bodyF N.length m)) := by
  refine F.ok Sc (fun vs H Q E h => ?_) fun cdv A outer s H vs Q E hr h => ?_
  · obtain ⟨S, pa, rs, Qd, h1, h2, h3, h4, h5⟩ := h
    exact h4
  · obtain ⟨S, pa, rs, Qd, h1, h2, h3, h4, h5, h6⟩ := h
    obtain ⟨t, t1, t2⟩ := hbody cdv A outer s H E hr
    refine ⟨t, t1, t2 ⟨S, H, pa⟩ S H _ _ _ _ (SR.entry h1 h2 h3) h5 ?_⟩
    have fin : ∀ {S' H' : Hp} {env : En} {σ : L2.St} {r : R} {v : V}, SR K ⟨S, H, pa⟩ S' H' env σ → RetR K ⟨S, H, pa⟩ S' H' r v → Qd r → Q v H' := fun s r q => h6 _ _ _ _ ⟨s.ex0, s.ex, s.keep0, s.nw0, s.old0, fun a e => (s.pool a e).1, s.pin, r⟩ q
    exact ⟨fun S' H' env σ s q => fin s (r := .val .non) .non q, fun S' H' env σ r v s q z => fin s q z, fun _ _ _ _ _ z => z.elim, fun _ _ _ _ _ z => z.elim, fun _ _ _ _ _ _ _ _ _ _ _ _ z => z.elim⟩
end
end DL
end

section
set_option Elab.async false
set_option linter.all false
set_option maxRecDepth 100000
set_option maxHeartbeats 4000000
namespace DL
open PySem L2
open Evl (Ex)
/-! ### operations by values -/
section
variable {K : PySem.W.Frag} {S H S' H' : Hp}
theorem nwr_val {v : V} {d : D} (e : Ex S H) (h : Rep K S v d) : NwR K S H S H (.val d) v := ⟨.refl e, h⟩
theorem nwr_tup {p : Addr} {vs : List V} {ds : List D} (e : Ex S H) (hp : H p = none) (r : Reps K S vs ds) : NwR K S H (upd S p (.tup vs)) (upd H p (.tup vs)) (.val (.tup ds)) (.ref p) :=
  let n := Nw.add e (o := .tup vs) hp
  ⟨n, .tup (SqT.of upd_same) (r.mono n.ex)⟩
theorem nwr_lst {p : Addr} {vs : List V} {ds : List D} (e : Ex S H) (hp : H p = none) (r : Reps K S vs ds) : NwR K S H S (upd H p (.lst vs)) (.own ds) (.ref p) :=
  ⟨Nw.hid e hp, p, vs, rfl, hp, Evl.fresh_back e hp, upd_same, r⟩
end
/-- ints -/
def m2I (C : Int → Int → Prop) (g : Int → Int → D) : M2 := fun x y Q => match x, y with
  | .int i, .int j => C i j ∧ Q (.val (g i j))
  | _, _ => False
def m2I0 (g : Int → Int → D) : M2 := fun x y Q => match x, y with
  | .int i, .int j => Q (.val (g i j))
  | _, _ => False
theorem opd_I {K : PySem.W.Frag} {C : Int → Int → Prop} {g : Int → Int → V} {gd : Int → Int → D} (h : ∀ S i j, Rep K S (g i j) (gd i j)) : OpD K (rI C g) (m2I C gd) := by
  intro S H x y dx dy Q Qv e hx hy m k
  unfold m2I at m
  split at m
  · rename_i i j
    exact ⟨i, j, hx.int, hy.int, m.1, k _ _ _ _ (nwr_val e (h S i j)) m.2⟩
  · exact m.elim
theorem opd_I0 {K : PySem.W.Frag} {g : Int → Int → V} {gd : Int → Int → D} (h : ∀ S i j, Rep K S (g i j) (gd i j)) : OpD K (rI0 g) (m2I0 gd) := by
  intro S H x y dx dy Q Qv e hx hy m k
  unfold m2I0 at m
  split at m
  · rename_i i j
    exact ⟨i, j, hx.int, hy.int, k _ _ _ _ (nwr_val e (h S i j)) m⟩
  · exact m.elim
/-- either rule -/
theorem opd_or {K : PySem.W.Frag} {r r' : R2} {m m' : M2} (h : OpD K r m) (h' : OpD K r' m') : OpD K (fun x y H Q => r x y H Q ∨ r' x y H Q) (fun x y Q => m x y Q ∨ m' x y Q) := by
  intro S H x y dx dy Q Qv e hx hy m k
  rcases m with m | m
  · exact .inl (h S H x y dx dy Q Qv e hx hy m k)
  · exact .inr (h' S H x y dx dy Q Qv e hx hy m k)
theorem OpD.imp {K : PySem.W.Frag} {r : R2} {m m' : M2} (h : OpD K r m) (k : ∀ x y Q, m' x y Q → m x y Q) : OpD K r m' := fun S H x y dx dy Q Qv e hx hy q => h S H x y dx dy Q Qv e hx hy (k _ _ _ q)
/-- + -/
def mAdd : M2 := fun x y Q => match x, y with
  | .int i, .int j => Q (.val (.int (i + j)))
  | .str a, .str b => a.length + b.length ≤ sizeLine ∧ Q (.val (.str (a ++ b)))
  | .lst a, .lst b => a.length + b.length ≤ sizeLine ∧ Q (.own (a ++ b))
  | _, _ => False
def rAddA : R2 := fun x y H Q => rI0 (fun i j => .int (i + j)) x y H Q ∨ ((∃ i j, x = .str i ∧ y = .str j ∧ i.length + j.length ≤ sizeLine ∧ Q (.str (i ++ j)) H) ∨ rCat x y H Q)
theorem op_addA {X : Cx} : OpR X (binaryOp .Add) rAddA := OpR.or op_add (OpR.or op_add_str op_cat)
theorem opd_add {K : PySem.W.Frag} : OpD K rAddA mAdd := by
  intro S H x y dx dy Q Qv e hx hy m k
  unfold mAdd at m
  split at m
  · rename_i i j
    exact .inl ⟨i, j, hx.int, hy.int, k _ _ _ _ (nwr_val e (.int _)) m⟩
  · rename_i i j
    exact .inr (.inl ⟨i, j, hx.str, hy.str, m.1, k _ _ _ _ (nwr_val e (.str _)) m.2⟩)
  · rename_i a b
    obtain ⟨p, vs, rfl, h1, h2⟩ := hx.lstH e
    obtain ⟨q, ws, rfl, k1, k2⟩ := hy.lstH e
    exact .inr (.inr ⟨p, q, vs, ws, rfl, rfl, h1, k1, by rw [h2.length, k2.length]; exact m.1, fun u hu => k _ _ _ _ (nwr_lst e hu (h2.append k2)) m.2⟩)
  · exact m.elim
def mSub : M2 := m2I0 fun i j => .int (i - j)
def mMul : M2 := m2I CMul fun i j => .int (i * j)
def mDiv : M2 := m2I CDivW fun i j => .int (i / j)
def mMod : M2 := m2I (fun _ j => 0 < j) fun i j => .int (i % j)
def mPow : M2 := m2I CPow fun i j => .int (i ^ j.toNat)
theorem opd_sub {K : PySem.W.Frag} : OpD K (rI0 fun i j => .int (i - j)) mSub := opd_I0 fun _ _ _ => .int _
theorem opd_mul {K : PySem.W.Frag} : OpD K (rI CMul fun i j => .int (i * j)) mMul := opd_I fun _ _ _ => .int _
theorem opd_div {K : PySem.W.Frag} : OpD K (rI CDivW fun i j => .int (i / j)) mDiv := opd_I fun _ _ _ => .int _
theorem opd_mod {K : PySem.W.Frag} : OpD K (rI (fun _ j => 0 < j) fun i j => .int (i % j)) mMod := opd_I fun _ _ _ => .int _
theorem opd_pow {K : PySem.W.Frag} : OpD K (rI CPow fun i j => .int (i ^ j.toNat)) mPow := opd_I fun _ _ _ => .int _
/-- [..] * n -/
def mRep : M2 := fun x y Q => match x, y with
  | .lst a, .int k => (-(2 ^ 63) ≤ k ∧ k < 2 ^ 63 ∧ a.length * k.toNat ≤ sizeLine) ∧ Q (.own (List.replicate k.toNat a).flatten)
  | _, _ => False
theorem Reps.rep {K : PySem.W.Frag} {S : Hp} {vs : List V} {ds : List D} (h : Reps K S vs ds) : ∀ n : Nat, Reps K S (List.replicate n vs).flatten (List.replicate n ds).flatten
  | 0 => .nil
  | n + 1 => by
    rw [List.replicate_succ, List.replicate_succ, List.flatten_cons, List.flatten_cons]
    exact h.append (Reps.rep h n)
theorem opd_rep {K : PySem.W.Frag} : OpD K rRep mRep := by
  intro S H x y dx dy Q Qv e hx hy m k
  unfold mRep at m
  split at m
  · rename_i a j
    obtain ⟨p, vs, rfl, h1, h2⟩ := hx.lstH e
    exact ⟨p, j, vs, rfl, hy.int, h1, m.1.1, m.1.2.1, by rw [h2.length]; exact m.1.2.2, fun u hu => k _ _ _ _ (nwr_lst e hu (h2.rep _)) m.2⟩
  · exact m.elim
/-- comparisons of ints -/
def mLt : M2 := m2I0 fun i j => .bl (decide (i < j))
def mLe : M2 := m2I0 fun i j => .bl (decide (i ≤ j))
def mGt : M2 := m2I0 fun i j => .bl (decide (j < i))
def mGe : M2 := m2I0 fun i j => .bl (decide (j ≤ i))
theorem opd_lt {K : PySem.W.Frag} : OpD K (rI0 fun i j => .bl (decide (i < j))) mLt := opd_I0 fun _ _ _ => .bl _
theorem opd_le {K : PySem.W.Frag} : OpD K (rI0 fun i j => .bl (decide (i ≤ j))) mLe := opd_I0 fun _ _ _ => .bl _
theorem opd_gt {K : PySem.W.Frag} : OpD K (rI0 fun i j => .bl (decide (j < i))) mGt := opd_I0 fun _ _ _ => .bl _
theorem opd_ge {K : PySem.W.Frag} : OpD K (rI0 fun i j => .bl (decide (j ≤ i))) mGe := opd_I0 fun _ _ _ => .bl _
/-- ==, != of data -/
def mEq : M2 := fun x y Q => (okD x ∧ okD y) ∧ Q (.val (.bl (eqD x y)))
def mNe : M2 := fun x y Q => (okD x ∧ okD y) ∧ Q (.val (.bl (!eqD x y)))
theorem opd_eq {K : PySem.W.Frag} : OpD K (rEqD K) mEq := by
  intro S H x y dx dy Q Qv e hx hy m k
  exact ⟨_, _, hx.dp e m.1.1.1, hy.dp e m.1.2.1, m.1.1.2, m.1.2.2, k _ _ _ _ (nwr_val e (.bl _)) m.2⟩
theorem opd_ne {K : PySem.W.Frag} : OpD K (rNeD K) mNe := by
  intro S H x y dx dy Q Qv e hx hy m k
  exact ⟨_, _, hx.dp e m.1.1.1, hy.dp e m.1.2.1, m.1.1.2, m.1.2.2, k _ _ _ _ (nwr_val e (.bl _)) m.2⟩
/-- is None -/
def mIs : M2 := fun x y Q => match y with
  | .non => ∃ b, isNon x = some b ∧ Q (.val (.bl b))
  | _ => False
def mIsN : M2 := fun x y Q => match y with
  | .non => ∃ b, isNon x = some b ∧ Q (.val (.bl (!b)))
  | _ => False
theorem opd_is {K : PySem.W.Frag} : OpD K (fun x y H Q => y = .non ∧ Q (.bl (decide (x = .non))) H) mIs := by
  intro S H x y dx dy Q Qv e hx hy m k
  unfold mIs at m
  split at m
  · obtain ⟨b, h1, h2⟩ := m
    refine ⟨hy.non, ?_⟩
    rw [hx.isNon h1]
    exact k _ _ _ _ (nwr_val e (.bl _)) h2
  · exact m.elim
theorem opd_isN {K : PySem.W.Frag} : OpD K (fun x y H Q => y = .non ∧ Q (.bl (!decide (x = .non))) H) mIsN := by
  intro S H x y dx dy Q Qv e hx hy m k
  unfold mIsN at m
  split at m
  · obtain ⟨b, h1, h2⟩ := m
    refine ⟨hy.non, ?_⟩
    rw [hx.isNon h1]
    exact k _ _ _ _ (nwr_val e (.bl _)) h2
  · exact m.elim
end DL
namespace L2
open PySem PySem.Spec PyProof.Rows
section
variable {X : Cx}
/-- x in a tuple of data -/
def rInT (K : PySem.W.Frag) : R2 := fun x y H Q => ∃ d ds, Dp K H x d ∧ Dp K H y (.tuple ds) ∧ SeqAt.shaped d = true ∧ SeqAt.shaped (.tuple ds) = true ∧ Q (.bl (ds.any fun z => PyData.eqv z d)) H
def rNotInT (K : PySem.W.Frag) : R2 := fun x y H Q => ∃ d ds, Dp K H x d ∧ Dp K H y (.tuple ds) ∧ SeqAt.shaped d = true ∧ SeqAt.shaped (.tuple ds) = true ∧ Q (.bl (!ds.any fun z => PyData.eqv z d)) H
theorem op_inT (hu : X.A.units + 65 < cLine) : OpR X (compareOp .In) (rInT X.K) := by
  intro pins s σ H x y v u Q I rx ry h
  obtain ⟨d, ds, hd, he, sd, se, q⟩ := h
  obtain ⟨as, r1⟩ := Dp.reads I d x v hd rx
  obtain ⟨bs, r2⟩ := Dp.reads I (.tuple ds) y u he ry
  exact SeqAt.in_tuple_reads r2 r1 (SeqAt.canLay_of_shaped se) (SeqAt.canLay_of_shaped sd) (room_in_shaped sd hu) ⟨.bl _, H, I, rfl, q⟩
theorem op_notInT (hu : X.A.units + 65 < cLine) : OpR X (compareOp .NotIn) (rNotInT X.K) := by
  intro pins s σ H x y v u Q I rx ry h
  obtain ⟨d, ds, hd, he, sd, se, q⟩ := h
  obtain ⟨as, r1⟩ := Dp.reads I d x v hd rx
  obtain ⟨bs, r2⟩ := Dp.reads I (.tuple ds) y u he ry
  exact SeqAt.notIn_tuple_reads r2 r1 (SeqAt.canLay_of_shaped se) (SeqAt.canLay_of_shaped sd) (room_in_shaped sd hu) ⟨.bl _, H, I, rfl, q⟩
end
end L2
end

section
set_option Elab.async false
set_option linter.all false
set_option maxRecDepth 100000
set_option maxHeartbeats 4000000
namespace DL
open PySem L2
open Evl (Ex)
theorem toPys_map : ∀ l : List D, toPys l = l.map toPy
  | [] => by rw [toPys] <;> rfl
  | d :: l => by rw [toPys, toPys_map l] <;> rfl
def inD (x : D) (l : List D) : Bool := l.any fun z => eqD z x
/-- in, not in: lists, tuples -/
def mIn : M2 := fun x y Q => match y with
  | .lst l => (okD x ∧ okD y) ∧ Q (.val (.bl (inD x l)))
  | .tup l => (okD x ∧ okD y) ∧ Q (.val (.bl (inD x l)))
  | _ => False
def mNotIn : M2 := fun x y Q => match y with
  | .lst l => (okD x ∧ okD y) ∧ Q (.val (.bl (!inD x l)))
  | .tup l => (okD x ∧ okD y) ∧ Q (.val (.bl (!inD x l)))
  | _ => False
theorem inD_py (x : D) (l : List D) : ((toPys l).any fun z => PyData.eqv z (toPy x)) = inD x l := by
  rw [toPys_map, List.any_map]
  rfl
def rInA (K : PySem.W.Frag) : R2 := fun x y H Q => rInD K x y H Q ∨ rInT K x y H Q
def rNotInA (K : PySem.W.Frag) : R2 := fun x y H Q => rNotInD K x y H Q ∨ rNotInT K x y H Q
theorem op_inA {X : Cx} (hu : X.A.units + 65 < cLine) : OpR X (compareOp .In) (rInA X.K) := OpR.or (op_inD hu) (op_inT hu)
theorem op_notInA {X : Cx} (hu : X.A.units + 65 < cLine) : OpR X (compareOp .NotIn) (rNotInA X.K) := OpR.or (op_notInD hu) (op_notInT hu)
theorem opd_in {K : PySem.W.Frag} : OpD K (rInA K) mIn := by
  intro S H x y dx dy Q Qv e hx hy m k
  unfold mIn at m
  split at m
  · rename_i l
    have q := hy.dp e m.1.2.1
    have s := m.1.2.2
    rw [toPy] at q s
    exact .inl ⟨_, _, hx.dp e m.1.1.1, q, m.1.1.2, s, by rw [inD_py]; exact k _ _ _ _ (nwr_val e (.bl _)) m.2⟩
  · rename_i l
    have q := hy.dp e m.1.2.1
    have s := m.1.2.2
    rw [toPy] at q s
    exact .inr ⟨_, _, hx.dp e m.1.1.1, q, m.1.1.2, s, by rw [inD_py]; exact k _ _ _ _ (nwr_val e (.bl _)) m.2⟩
  · exact m.elim
theorem opd_notIn {K : PySem.W.Frag} : OpD K (rNotInA K) mNotIn := by
  intro S H x y dx dy Q Qv e hx hy m k
  unfold mNotIn at m
  split at m
  · rename_i l
    have q := hy.dp e m.1.2.1
    have s := m.1.2.2
    rw [toPy] at q s
    exact .inl ⟨_, _, hx.dp e m.1.1.1, q, m.1.1.2, s, by rw [inD_py]; exact k _ _ _ _ (nwr_val e (.bl _)) m.2⟩
  · rename_i l
    have q := hy.dp e m.1.2.1
    have s := m.1.2.2
    rw [toPy] at q s
    exact .inr ⟨_, _, hx.dp e m.1.1.1, q, m.1.1.2, s, by rw [inD_py]; exact k _ _ _ _ (nwr_val e (.bl _)) m.2⟩
  · exact m.elim
/-- x[i] -/
def mIx : M2 := fun x y Q => match x, y with
  | .lst l, .int i => ∃ d, atI l i = some d ∧ Q (.val d)
  | .tup l, .int i => ∃ d, atI l i = some d ∧ Q (.val d)
  | .str z, .int i => ∃ c, (z.length ≤ sizeLine ∧ atI z.cps.toList i = some c) ∧ Q (.val (.str ⟨#[c]⟩))
  | _, _ => False
theorem Reps.atI {K : PySem.W.Frag} {S : Hp} {vs : List V} {ds : List D} {i : Int} {d : D} (r : Reps K S vs ds) (h : L2.atI ds i = some d) : ∃ v, L2.atI vs i = some v ∧ Rep K S v d := by
  unfold L2.atI at h ⊢
  rw [r.length]
  cases q : ixN ds.length i with
  | none =>
    rw [q] at h
    cases h
  | some j =>
    rw [q] at h
    exact r.get h
theorem opd_ix {K : PySem.W.Frag} : OpD K (rIx K) mIx := by
  intro S H x y dx dy Q Qv e hx hy m k
  unfold mIx at m
  split at m
  · rename_i l i
    obtain ⟨d, h1, h2⟩ := m
    obtain ⟨p, vs, rfl, k1, k2⟩ := hx.lst e
    obtain ⟨v, q1, q2⟩ := k2.atI h1
    exact .inl ⟨p, vs, i, v, rfl, hy.int, k1, q1, k _ _ _ _ (nwr_val e q2) h2⟩
  · rename_i l i
    obtain ⟨d, h1, h2⟩ := m
    obtain ⟨p, vs, rfl, k1, k2⟩ := hx.tup e
    obtain ⟨v, q1, q2⟩ := k2.atI h1
    exact .inr (.inl ⟨p, vs, i, v, rfl, hy.int, k1, q1, k _ _ _ _ (nwr_val e q2) h2⟩)
  · rename_i z i
    obtain ⟨c, h1, h2⟩ := m
    exact .inr (.inr ⟨z, i, c, hx.str, hy.int, h1.1, h1.2, k _ _ _ _ (nwr_val e (.str _)) h2⟩)
  · exact m.elim
/-- x[a:b] -/
def cutD (xs : List D) (lo hi : Option Int) : List D := (xs.drop (HT.sIx xs.length 0 lo)).take (HT.sIx xs.length xs.length hi - HT.sIx xs.length 0 lo)
theorem Reps.cut {K : PySem.W.Frag} {S : Hp} {vs : List V} {ds : List D} (r : Reps K S vs ds) (lo hi : Option Int) : Reps K S (cutV vs lo hi) (cutD ds lo hi) := by
  unfold cutV cutD
  rw [r.length]
  exact (r.drop _).take _
abbrev M3 := D → Option Int → Option Int → (R → Prop) → Prop
def mSl : M3 := fun x lo hi Q => match x with
  | .lst l => Q (.own (cutD l lo hi))
  | .tup l => ¬ (HT.sIx l.length 0 lo = 0 ∧ HT.sIx l.length l.length hi = l.length) ∧ Q (.val (.tup (cutD l lo hi)))
  | .str z => z.length ≤ sizeLine ∧ Q (.val (.str (cutS z lo hi)))
  | _ => False
def rSl (K : PySem.W.Frag) : V → Option Int → Option Int → Hp → VK → Prop := fun x lo hi H Q => rSlL K x lo hi H Q ∨ (rSlT K x lo hi H Q ∨ rSlS x lo hi H Q)
theorem sl_any {X : Cx} : SlR X (rSl X.K) := sl_list.or (sl_tup.or sl_str)
abbrev DOM := En → (En → Option Int → Prop) → Prop
def DO (X : Cx) (e : Option Expr) (m : DOM) (t : TO) : Prop := PO X e t ∧ ∀ (B : Bs) (S H : Hp) (env : En) (σ : St) (Q : En → Option Int → Prop) (Qv : Option Int → Hp → Prop), SR X.K B S H env σ → m env Q →
  (∀ o H' S' env', TPo X.K B S H env σ S' H' env' → Q env' o → Qv o H') → t σ H Qv
def dNoPart : DOM := fun env Q => Q env none
def dPart (m : DM) : DOM := fun env Q => m env fun env' r => match r with
  | .val (.int i) => Q env' (some i)
  | _ => False
section
variable {X : Cx} {a b c e o : Expr} {ma mb me mo : DM} {pos : Pos} {ta tb te to : TE}
theorem do_none : DO X none dNoPart tNoPart := ⟨po_none, fun B S H env σ Q Qv s q k => k none H S env (.refl s) q⟩
theorem do_some (ha : DE X a ma ta) : DO X (some a) (dPart ma) (tPart ta) := by
  refine ⟨po_some ha.1, fun B S H env σ Q Qv s q k => ha.2 B S H env σ _ _ s q fun v H' S' env' r z q' => ?_⟩
  split at q'
  · rename_i i
    have zr : Rep X.K S' v (.int i) := z.res
    cases zr
    exact ⟨i, rfl, k _ H' S' env' z.t q'⟩
  · exact q'.elim
def dSl (m : DM) (l h : DOM) : DM := fun env Q => m env fun env1 r => l env1 fun env2 lo => h env2 fun env3 hi => mSl r.data lo hi fun q => Q env3 q
theorem de_slice {lo hi : Option Expr} {ml mh : DOM} {tl th : TO} {p2 : Pos} (ha : DE X a ma ta) (hl : DO X lo ml tl) (hh : DO X hi mh th) : DE X (.Subscript a (.Slice lo hi none p2) pos) (dSl ma ml mh) (tSl (rSl X.K) ta tl th) := by
  refine ⟨pe_slice sl_any ha.1 hl.1 hh.1, fun B S H env σ Q Qv s q k => ha.2 B S H env σ _ _ s q fun v H1 S1 env1 r z1 q1 => ?_⟩
  refine hl.2 B S1 H1 env1 σ _ _ z1.sr q1 fun lo H2 S2 env2 z2 q2 => ?_
  refine hh.2 B S2 H2 env2 σ _ _ z2.sr q2 fun hi H3 S3 env3 z3 q3 => ?_
  have z := (z1.t.trans z2).trans z3
  have hx := RepB.go z1 rfl (z2.trans z3)
  have e := z3.sr.ex
  unfold mSl at q3
  split at q3
  · rename_i l c
    rw [c] at hx
    obtain ⟨p, vs, rfl, k1, k2⟩ := hx.lst e
    exact .inl ⟨p, vs, rfl, k1, fun u hu => k _ _ _ env3 (.own _) (.fin z (q := .own _) (nwr_lst e hu (k2.cut lo hi))) q3⟩
  · rename_i l c
    rw [c] at hx
    obtain ⟨p, vs, rfl, k1, k2⟩ := hx.tup e
    refine .inr (.inl ⟨p, vs, rfl, k1, ?_, fun u hu => k _ _ _ env3 (.val _) (.fin z (q := .val _) (nwr_tup e hu (k2.cut lo hi))) q3.2⟩)
    rw [k2.length]
    exact q3.1
  · rename_i y c
    rw [c] at hx
    exact .inr (.inr ⟨y, hx.str, q3.1, k _ _ _ env3 (.val _) (.fin z (q := .val _) (nwr_val e (.str _))) q3.2⟩)
  · exact q3.elim
end
/-! ### built-ins by values -/
section
variable {K : PySem.W.Frag}
def mLen : MA := fun ds Q => match ds with
  | [.lst l] => Q (.val (.int l.length))
  | [.tup l] => Q (.val (.int l.length))
  | [.str z] => z.length ≤ sizeLine ∧ Q (.val (.int z.length))
  | _ => False
theorem RepBs.one {S H : Hp} {vs : List V} {d : D} (h : RepBs K S H vs [d]) : ∃ v, vs = [v] ∧ RepB K S H v d := by
  cases h with
  | cons h r =>
    cases r
    exact ⟨_, rfl, h⟩
theorem RepBs.two {S H : Hp} {vs : List V} {d d2 : D} (h : RepBs K S H vs [d, d2]) : ∃ v w, vs = [v, w] ∧ RepB K S H v d ∧ RepB K S H w d2 := by
  cases h with
  | cons h r =>
    cases r with
    | cons h2 r =>
      cases r
      exact ⟨_, _, rfl, h, h2⟩
theorem cd_len : CallD K (fun xs H Q => ∃ x n, xs = [x] ∧ LenV K x H n ∧ Q (.int n) H) mLen := by
  intro S H vs ds Q Qv e r m k
  unfold mLen at m
  split at m
  · rename_i l
    obtain ⟨v, rfl, h⟩ := r.one
    obtain ⟨p, ws, rfl, k1, k2⟩ := h.lst e
    exact ⟨_, l.length, rfl, .inl ⟨ws, k1, k2.length.symm⟩, k _ _ _ _ (nwr_val e (.int _)) m⟩
  · rename_i l
    obtain ⟨v, rfl, h⟩ := r.one
    obtain ⟨p, ws, rfl, k1, k2⟩ := h.tup e
    exact ⟨_, l.length, rfl, .inr ⟨ws, k1, k2.length.symm⟩, k _ _ _ _ (nwr_val e (.int _)) m⟩
  · rename_i z
    obtain ⟨v, rfl, h⟩ := r.one
    rw [h.str]
    exact ⟨_, z.length, rfl, ⟨m.1, rfl⟩, k _ _ _ _ (nwr_val e (.int _)) m.2⟩
  · exact m.elim
/-- either rule, of calls -/
theorem cd_or {r r' : List V → Hp → VK → Prop} {m m' : MA} (h : CallD K r m) (h' : CallD K r' m') : CallD K (fun xs H Q => r xs H Q ∨ r' xs H Q) (fun ds Q => m ds Q ∨ m' ds Q) := by
  intro S H vs ds Q Qv e r m k
  rcases m with m | m
  · exact .inl (h S H vs ds Q Qv e r m k)
  · exact .inr (h' S H vs ds Q Qv e r m k)
def mInt : MA := fun ds Q => match ds with
  | [.int i] => Q (.val (.int i))
  | [.bl b] => Q (.val (.int (if b then 1 else 0)))
  | [.str a] => ∃ n, (PySem.intText? a = some n ∧ a.length ≤ 640) ∧ Q (.val (.int n))
  | _ => False
def rInt : List V → Hp → VK → Prop := fun xs H Q => ((∃ i, xs = [.int i] ∧ Q (.int i) H) ∨ ∃ k, xs = [.bl k] ∧ Q (.int (if k then 1 else 0)) H) ∨ (∃ a n, xs = [.str a] ∧ PySem.intText? a = some n ∧ a.length ≤ 640 ∧ Q (.int n) H)
theorem call_intA {X : Cx} : CallR X (.type "int") rInt := CallR.or call_int1 call_int_str
theorem cd_int : CallD K rInt mInt := by
  intro S H vs ds Q Qv e r m k
  unfold mInt at m
  split at m
  · rename_i i
    obtain ⟨v, rfl, h⟩ := r.one
    exact .inl (.inl ⟨i, by rw [h.int], k _ _ _ _ (nwr_val e (.int _)) m⟩)
  · rename_i b
    obtain ⟨v, rfl, h⟩ := r.one
    exact .inl (.inr ⟨b, by rw [h.bl], k _ _ _ _ (nwr_val e (.int _)) m⟩)
  · rename_i a
    obtain ⟨v, rfl, h⟩ := r.one
    obtain ⟨n, h1, h2⟩ := m
    exact .inr ⟨a, n, by rw [h.str], h1.1, h1.2, k _ _ _ _ (nwr_val e (.int _)) h2⟩
  · exact m.elim
def mStr : MA := fun ds Q => match ds with
  | [.int i] => i.natAbs.log2 < 1920 ∧ Q (.val (.str (toString i)))
  | _ => False
theorem cd_str : CallD K (fun xs H Q => ∃ i : Int, xs = [.int i] ∧ i.natAbs.log2 < 1920 ∧ Q (.str (toString i)) H) mStr := by
  intro S H vs ds Q Qv e r m k
  unfold mStr at m
  split at m
  · rename_i i
    obtain ⟨v, rfl, h⟩ := r.one
    exact ⟨i, by rw [h.int], m.1, k _ _ _ _ (nwr_val e (.str _)) m.2⟩
  · exact m.elim
def mList : MA := fun ds Q => match ds with
  | [.lst l] => Q (.own l)
  | [.tup l] => Q (.own l)
  | [.scr ns] => Q (.own (ns.map D.int))
  | _ => False
theorem RepB.scr {S H : Hp} (e : Ex S H) {v : V} {ns : List Int} (h : RepB K S H v (.scr ns)) : ∃ p, v = .ref p ∧ SqL K H p (ns.map V.int) := by
  rcases h with h | ⟨p, vs, l, rfl, h2, h3, h4⟩
  · cases h with
    | scr h => exact ⟨_, rfl, Evl.ex_l e h⟩
  · cases h2
theorem cd_list : CallD K (fun xs H Q => ∃ p ys, xs = [.ref p] ∧ (SqL K H p ys ∨ SqT K H p ys) ∧ ∀ l, H l = none → Q (.ref l) (upd H l (.lst ys))) mList := by
  intro S H vs ds Q Qv e r m k
  unfold mList at m
  split at m
  · rename_i l
    obtain ⟨v, rfl, h⟩ := r.one
    obtain ⟨p, ws, rfl, k1, k2⟩ := h.lst e
    exact ⟨p, ws, rfl, .inl k1, fun u hu => k _ _ _ _ (nwr_lst e hu k2) m⟩
  · rename_i l
    obtain ⟨v, rfl, h⟩ := r.one
    obtain ⟨p, ws, rfl, k1, k2⟩ := h.tup e
    exact ⟨p, ws, rfl, .inr k1, fun u hu => k _ _ _ _ (nwr_lst e hu k2) m⟩
  · rename_i ns
    obtain ⟨v, rfl, h⟩ := r.one
    obtain ⟨p, rfl, k1⟩ := h.scr e
    exact ⟨p, ns.map V.int, rfl, .inl k1, fun u hu => k _ _ _ _ (nwr_lst e hu (Reps.ints ns)) m⟩
  · exact m.elim
def mTuple : MA := fun ds Q => match ds with
  | [.lst l] => Q (.val (.tup l))
  | [.tup l] => Q (.val (.tup l))
  | _ => False
theorem cd_tuple : CallD K (fun xs H Q => ∃ p ys, xs = [.ref p] ∧ ((SqL K H p ys ∧ ∀ l, H l = none → Q (.ref l) (upd H l (.tup ys))) ∨ (SqT K H p ys ∧ Q (.ref p) H))) mTuple := by
  intro S H vs ds Q Qv e r m k
  unfold mTuple at m
  split at m
  · rename_i l
    obtain ⟨v, rfl, h⟩ := r.one
    obtain ⟨p, ws, rfl, k1, k2⟩ := h.lst e
    exact ⟨p, ws, rfl, .inl ⟨k1, fun u hu => k _ _ _ _ (nwr_tup e hu k2) m⟩⟩
  · rename_i l
    obtain ⟨v, rfl, h⟩ := r.one
    rcases h with h | ⟨p, ws, l', rfl, h2, _⟩
    · cases h with
      | tup h r => exact ⟨_, _, rfl, .inr ⟨Evl.ex_t e h, k _ _ _ _ (nwr_val e (.tup h r)) m⟩⟩
    · cases h2
  · exact m.elim
/-- a list of ints -/
def intsOf : List D → Option (List Int)
  | [] => some []
  | .int i :: r => (intsOf r).map (i :: ·)
  | _ => none
theorem intsOf_map (l : List Int) : intsOf (l.map D.int) = some l := by
  induction l with
  | nil => rfl
  | cons i l ih =>
    show (intsOf (l.map D.int)).map (i :: ·) = _
    rw [ih]
    rfl
theorem intsOf_eq : ∀ {ds : List D} {l : List Int}, intsOf ds = some l → ds = l.map D.int
  | [], l, h => by cases h; rfl
  | .int i :: r, l, h => by
    have h' : (intsOf r).map (i :: ·) = some l := h
    cases q : intsOf r with
    | none => rw [q] at h'; cases h'
    | some l2 =>
      rw [q] at h'
      cases h'
      rw [intsOf_eq q]
      rfl
  | .non :: _, _, h => by cases h
  | .bl _ :: _, _, h => by cases h
  | .str _ :: _, _, h => by cases h
  | .tup _ :: _, _, h => by cases h
  | .lst _ :: _, _, h => by cases h
  | .ins _ _ _ :: _, _, h => by cases h
  | .any :: _, _, h => by cases h
def mSum : MA := fun ds Q => match ds with
  | [.lst l] => ∃ ns, intsOf l = some ns ∧ Q (.val (.int ns.sum))
  | _ => False
theorem cd_sum : CallD K (rSum K) mSum := by
  intro S H vs ds Q Qv e r m k
  unfold mSum at m
  split at m
  · rename_i l
    obtain ⟨ns, h1, h2⟩ := m
    obtain ⟨v, rfl, h⟩ := r.one
    obtain ⟨p, ws, rfl, k1, k2⟩ := h.lst e
    rw [intsOf_eq h1] at k2
    rw [k2.ints_inv] at k1
    exact ⟨p, ns, rfl, k1, k _ _ _ _ (nwr_val e (.int _)) h2⟩
  · exact m.elim
def mMin1 : MA := fun ds Q => match ds with
  | [.lst l] => ∃ ns, intsOf l = some ns ∧ 0 < ns.length ∧ ∀ m, m ∈ ns → (∀ y, y ∈ ns → m ≤ y) → Q (.val (.int m))
  | _ => False
theorem cd_min1 : CallD K (rMin K) mMin1 := by
  intro S H vs ds Q Qv e r m k
  unfold mMin1 at m
  split at m
  · rename_i l
    obtain ⟨ns, h1, h2, h3⟩ := m
    obtain ⟨v, rfl, h⟩ := r.one
    obtain ⟨p, ws, rfl, k1, k2⟩ := h.lst e
    rw [intsOf_eq h1] at k2
    rw [k2.ints_inv] at k1
    exact ⟨p, ns, rfl, k1, h2, fun j a b => k _ _ _ _ (nwr_val e (.int _)) (h3 j a b)⟩
  · exact m.elim
def mMax1 : MA := fun ds Q => match ds with
  | [.lst l] => ∃ ns, intsOf l = some ns ∧ 0 < ns.length ∧ ∀ m, m ∈ ns → (∀ y, y ∈ ns → y ≤ m) → Q (.val (.int m))
  | _ => False
theorem cd_max1 : CallD K (rMax K) mMax1 := by
  intro S H vs ds Q Qv e r m k
  unfold mMax1 at m
  split at m
  · rename_i l
    obtain ⟨ns, h1, h2, h3⟩ := m
    obtain ⟨v, rfl, h⟩ := r.one
    obtain ⟨p, ws, rfl, k1, k2⟩ := h.lst e
    rw [intsOf_eq h1] at k2
    rw [k2.ints_inv] at k1
    exact ⟨p, ns, rfl, k1, h2, fun j a b => k _ _ _ _ (nwr_val e (.int _)) (h3 j a b)⟩
  · exact m.elim
def mMin2 : MA := fun ds Q => match ds with
  | [.int i, .int j] => Q (.val (.int (if j < i then j else i)))
  | _ => False
def mMax2 : MA := fun ds Q => match ds with
  | [.int i, .int j] => Q (.val (.int (if j > i then j else i)))
  | _ => False
theorem cd_min2 : CallD K (fun xs H Q => ∃ i j, xs = [.int i, .int j] ∧ Q (.int (if j < i then j else i)) H) mMin2 := by
  intro S H vs ds Q Qv e r m k
  unfold mMin2 at m
  split at m
  · rename_i i j
    obtain ⟨v, w, rfl, h1, h2⟩ := r.two
    exact ⟨i, j, by rw [h1.int, h2.int], k _ _ _ _ (nwr_val e (.int _)) m⟩
  · exact m.elim
theorem cd_max2 : CallD K (fun xs H Q => ∃ i j, xs = [.int i, .int j] ∧ Q (.int (if j > i then j else i)) H) mMax2 := by
  intro S H vs ds Q Qv e r m k
  unfold mMax2 at m
  split at m
  · rename_i i j
    obtain ⟨v, w, rfl, h1, h2⟩ := r.two
    exact ⟨i, j, by rw [h1.int, h2.int], k _ _ _ _ (nwr_val e (.int _)) m⟩
  · exact m.elim
/-- a list of truth values -/
def blsOf : List D → Option (List Bool)
  | [] => some []
  | .bl i :: r => (blsOf r).map (i :: ·)
  | _ => none
theorem blsOf_map (l : List Bool) : blsOf (l.map D.bl) = some l := by
  induction l with
  | nil => rfl
  | cons i l ih =>
    show (blsOf (l.map D.bl)).map (i :: ·) = _
    rw [ih]
    rfl
theorem blsOf_eq : ∀ {ds : List D} {l : List Bool}, blsOf ds = some l → ds = l.map D.bl
  | [], l, h => by cases h; rfl
  | .bl i :: r, l, h => by
    have h' : (blsOf r).map (i :: ·) = some l := h
    cases q : blsOf r with
    | none => rw [q] at h'; cases h'
    | some l2 =>
      rw [q] at h'
      cases h'
      rw [blsOf_eq q]
      rfl
  | .non :: _, _, h => by cases h
  | .int _ :: _, _, h => by cases h
  | .str _ :: _, _, h => by cases h
  | .tup _ :: _, _, h => by cases h
  | .lst _ :: _, _, h => by cases h
  | .ins _ _ _ :: _, _, h => by cases h
  | .any :: _, _, h => by cases h
def mAll : MA := fun ds Q => match ds with
  | [.lst l] => ∃ bs, blsOf l = some bs ∧ Q (.val (.bl (bs.all id)))
  | _ => False
theorem cd_all : CallD K (rAll K) mAll := by
  intro S H vs ds Q Qv e r m k
  unfold mAll at m
  split at m
  · rename_i l
    obtain ⟨ns, h1, h2⟩ := m
    obtain ⟨v, rfl, h⟩ := r.one
    obtain ⟨p, ws, rfl, k1, k2⟩ := h.lst e
    rw [blsOf_eq h1] at k2
    rw [k2.bls_inv] at k1
    exact ⟨p, ns, rfl, k1, k _ _ _ _ (nwr_val e (.bl _)) h2⟩
  · exact m.elim
def mAny : MA := fun ds Q => match ds with
  | [.lst l] => ∃ bs, blsOf l = some bs ∧ Q (.val (.bl (bs.any id)))
  | _ => False
theorem cd_any : CallD K (rAny K) mAny := by
  intro S H vs ds Q Qv e r m k
  unfold mAny at m
  split at m
  · rename_i l
    obtain ⟨ns, h1, h2⟩ := m
    obtain ⟨v, rfl, h⟩ := r.one
    obtain ⟨p, ws, rfl, k1, k2⟩ := h.lst e
    rw [blsOf_eq h1] at k2
    rw [k2.bls_inv] at k1
    exact ⟨p, ns, rfl, k1, k _ _ _ _ (nwr_val e (.bl _)) h2⟩
  · exact m.elim
def mSortI : MA := fun ds Q => match ds with
  | [.lst l] => ∃ ns, intsOf l = some ns ∧ ∀ ns' : List Int, ns'.Perm ns → ns'.Pairwise (· ≤ ·) → Q (.own (ns'.map D.int))
  | _ => False
theorem cd_sortI : CallD K (rSortedI K) mSortI := by
  intro S H vs ds Q Qv e r m k
  unfold mSortI at m
  split at m
  · rename_i l
    obtain ⟨ns, h1, h2⟩ := m
    obtain ⟨v, rfl, h⟩ := r.one
    obtain ⟨p, ws, rfl, k1, k2⟩ := h.lst e
    rw [intsOf_eq h1] at k2
    rw [k2.ints_inv] at k1
    exact ⟨p, ns, rfl, k1, fun ns' u hp hs hu => k _ _ _ _ (nwr_lst e hu (Reps.ints ns')) (h2 ns' hp hs)⟩
  · exact m.elim
end
/-! ### isinstance with a built-in class -/
def tyD : D → Option String
  | .non => some "NoneType"
  | .bl _ => some "bool"
  | .int _ => some "int"
  | .str _ => some "str"
  | .tup _ => some "tuple"
  | .lst _ => some "list"
  | _ => none
/-- the built-in classes that are asked for -/
inductive BT where
  | tuple | list | bool | int | str
def BT.name : BT → String
  | .tuple => "tuple"
  | .list => "list"
  | .bool => "bool"
  | .int => "int"
  | .str => "str"
def isTup : D → Bool
  | .tup _ => true
  | _ => false
def isLst : D → Bool
  | .lst _ => true
  | _ => false
def isBl : D → Bool
  | .bl _ => true
  | _ => false
def isIntB : D → Bool
  | .int _ => true
  | .bl _ => true
  | _ => false
def isStr : D → Bool
  | .str _ => true
  | _ => false
def isNo : D → Bool
  | .non => true
  | _ => false
/-- has it a built-in class? -/
def hasTy : D → Bool
  | .ins _ _ _ => false
  | .any => false
  | .err _ _ _ _ _ => false
  | .scr _ => false
  | _ => true
def isB (T : BT) (x : D) : Option Bool := match hasTy x with
  | false => none
  | true => match T with
    | .tuple => some (isTup x)
    | .list => some (isLst x)
    | .bool => some (isBl x)
    | .int => some (isIntB x)
    | .str => some (isStr x)
def mIsi (T : BT) : M1 := fun x Q => ∃ b, isB T x = some b ∧ Q (.val (.bl b))
theorem kb_NoneType_tuple : kitB "NoneType" "tuple" = some false := by decide +kernel
theorem kb_NoneType_list : kitB "NoneType" "list" = some false := by decide +kernel
theorem kb_NoneType_bool : kitB "NoneType" "bool" = some false := by decide +kernel
theorem kb_NoneType_int : kitB "NoneType" "int" = some false := by decide +kernel
theorem kb_NoneType_str : kitB "NoneType" "str" = some false := by decide +kernel
theorem kb_bool_tuple : kitB "bool" "tuple" = some false := by decide +kernel
theorem kb_bool_list : kitB "bool" "list" = some false := by decide +kernel
theorem kb_bool_bool : kitB "bool" "bool" = some true := by decide +kernel
theorem kb_bool_int : kitB "bool" "int" = some true := by decide +kernel
theorem kb_bool_str : kitB "bool" "str" = some false := by decide +kernel
theorem kb_int_tuple : kitB "int" "tuple" = some false := by decide +kernel
theorem kb_int_list : kitB "int" "list" = some false := by decide +kernel
theorem kb_int_bool : kitB "int" "bool" = some false := by decide +kernel
theorem kb_int_int : kitB "int" "int" = some true := by decide +kernel
theorem kb_int_str : kitB "int" "str" = some false := by decide +kernel
theorem kb_str_tuple : kitB "str" "tuple" = some false := by decide +kernel
theorem kb_str_list : kitB "str" "list" = some false := by decide +kernel
theorem kb_str_bool : kitB "str" "bool" = some false := by decide +kernel
theorem kb_str_int : kitB "str" "int" = some false := by decide +kernel
theorem kb_str_str : kitB "str" "str" = some true := by decide +kernel
theorem kb_tuple_tuple : kitB "tuple" "tuple" = some true := by decide +kernel
theorem kb_tuple_list : kitB "tuple" "list" = some false := by decide +kernel
theorem kb_tuple_bool : kitB "tuple" "bool" = some false := by decide +kernel
theorem kb_tuple_int : kitB "tuple" "int" = some false := by decide +kernel
theorem kb_tuple_str : kitB "tuple" "str" = some false := by decide +kernel
theorem kb_list_tuple : kitB "list" "tuple" = some false := by decide +kernel
theorem kb_list_list : kitB "list" "list" = some true := by decide +kernel
theorem kb_list_bool : kitB "list" "bool" = some false := by decide +kernel
theorem kb_list_int : kitB "list" "int" = some false := by decide +kernel
theorem kb_list_str : kitB "list" "str" = some false := by decide +kernel
theorem isB_kit {T : BT} {x : D} {b : Bool} (h : isB T x = some b) : ∃ t, tyD x = some t ∧ kitB t T.name = some b := by
  cases x with
  | ins C ns l => cases h
  | any => cases h
  | err _ _ _ _ _ => cases h
  | scr _ => cases h
  | non => cases T with
    | tuple => cases h; exact ⟨_, rfl, kb_NoneType_tuple⟩
    | list => cases h; exact ⟨_, rfl, kb_NoneType_list⟩
    | bool => cases h; exact ⟨_, rfl, kb_NoneType_bool⟩
    | int => cases h; exact ⟨_, rfl, kb_NoneType_int⟩
    | str => cases h; exact ⟨_, rfl, kb_NoneType_str⟩
  | bl c => cases T with
    | tuple => cases h; exact ⟨_, rfl, kb_bool_tuple⟩
    | list => cases h; exact ⟨_, rfl, kb_bool_list⟩
    | bool => cases h; exact ⟨_, rfl, kb_bool_bool⟩
    | int => cases h; exact ⟨_, rfl, kb_bool_int⟩
    | str => cases h; exact ⟨_, rfl, kb_bool_str⟩
  | int c => cases T with
    | tuple => cases h; exact ⟨_, rfl, kb_int_tuple⟩
    | list => cases h; exact ⟨_, rfl, kb_int_list⟩
    | bool => cases h; exact ⟨_, rfl, kb_int_bool⟩
    | int => cases h; exact ⟨_, rfl, kb_int_int⟩
    | str => cases h; exact ⟨_, rfl, kb_int_str⟩
  | str c => cases T with
    | tuple => cases h; exact ⟨_, rfl, kb_str_tuple⟩
    | list => cases h; exact ⟨_, rfl, kb_str_list⟩
    | bool => cases h; exact ⟨_, rfl, kb_str_bool⟩
    | int => cases h; exact ⟨_, rfl, kb_str_int⟩
    | str => cases h; exact ⟨_, rfl, kb_str_str⟩
  | tup c => cases T with
    | tuple => cases h; exact ⟨_, rfl, kb_tuple_tuple⟩
    | list => cases h; exact ⟨_, rfl, kb_tuple_list⟩
    | bool => cases h; exact ⟨_, rfl, kb_tuple_bool⟩
    | int => cases h; exact ⟨_, rfl, kb_tuple_int⟩
    | str => cases h; exact ⟨_, rfl, kb_tuple_str⟩
  | lst c => cases T with
    | tuple => cases h; exact ⟨_, rfl, kb_list_tuple⟩
    | list => cases h; exact ⟨_, rfl, kb_list_list⟩
    | bool => cases h; exact ⟨_, rfl, kb_list_bool⟩
    | int => cases h; exact ⟨_, rfl, kb_list_int⟩
    | str => cases h; exact ⟨_, rfl, kb_list_str⟩
end DL
end

section
set_option Elab.async false
set_option linter.all false
set_option maxRecDepth 100000
set_option maxHeartbeats 4000000
namespace DL
open PySem L2
open Evl (Ex)
/-- a op b op' c -/
def dChain (m m' : M2) (ma mb mc : DM) : DM := fun env Q => ma env fun env1 x => mb env1 fun env2 y => m x.data y.data fun q => match q with
  | .val (.bl k) => dIte k (mc env2 fun env3 z => m' y.data z.data fun q => Q env3 q) (Q env2 (.val (.bl false)))
  | _ => False
/-- ints or texts -/
def m2S (p : List Nat → List Nat → Bool) (g : Int → Int → Bool) : M2 := fun x y Q => match x, y with
  | .int i, .int j => Q (.val (.bl (g i j)))
  | .str i, .str j => Q (.val (.bl (p i.cps.toList j.cps.toList)))
  | _, _ => False
def r2S (p : List Nat → List Nat → Bool) (g : Int → Int → Bool) : R2 := fun x y H Q => rI0 (fun i j => .bl (g i j)) x y H Q ∨ ∃ i j, x = .str i ∧ y = .str j ∧ Q (.bl (p i.cps.toList j.cps.toList)) H
theorem opd_S {K : PySem.W.Frag} {p : List Nat → List Nat → Bool} {g : Int → Int → Bool} : OpD K (r2S p g) (m2S p g) := by
  intro S H x y dx dy Q Qv e hx hy m k
  unfold m2S at m
  split at m
  · rename_i i j
    exact .inl ⟨i, j, hx.int, hy.int, k _ _ _ _ (nwr_val e (.bl _)) m⟩
  · rename_i i j
    exact .inr ⟨i, j, hx.str, hy.str, k _ _ _ _ (nwr_val e (.bl _)) m⟩
  · exact m.elim
abbrev mLtA : M2 := m2S (fun i j => decide (i < j)) fun i j => decide (i < j)
abbrev mLeA : M2 := m2S (fun i j => !decide (j < i)) fun i j => decide (i ≤ j)
abbrev mGtA : M2 := m2S (fun i j => decide (j < i)) fun i j => decide (j < i)
abbrev mGeA : M2 := m2S (fun i j => !decide (i < j)) fun i j => decide (j ≤ i)
section
variable {X : Cx}
theorem op_ltA : OpR X (compareOp .Lt) (r2S (fun i j => decide (i < j)) fun i j => decide (i < j)) := OpR.or op_lt op_lt_str
theorem op_leA : OpR X (compareOp .LtE) (r2S (fun i j => !decide (j < i)) fun i j => decide (i ≤ j)) := OpR.or op_le op_le_str
theorem op_gtA : OpR X (compareOp .Gt) (r2S (fun i j => decide (j < i)) fun i j => decide (j < i)) := OpR.or op_gt op_gt_str
theorem op_geA : OpR X (compareOp .GtE) (r2S (fun i j => !decide (i < j)) fun i j => decide (j ≤ i)) := OpR.or op_ge op_ge_str
end
section
variable {X : Cx} {a b c e o : Expr} {ma mb mc me mo : DM} {pos : Pos} {ta tb tc te to : TE}
theorem de_chain {op op' : CmpOp} {r r' : R2} {m m' : M2} (ho : OpR X (compareOp op) r) (hd : OpD X.K r m) (ho' : OpR X (compareOp op') r') (hd' : OpD X.K r' m') (ha : DE X a ma ta) (hb : DE X b mb tb) (hc : DE X c mc tc)
    (hm : lastMarks [op, op'] [b, c] = false := by with_unfolding_all rfl) : DE X (.Compare a [op, op'] [b, c] pos) (dChain m m' ma mb mc) (tChain r r' ta tb tc) := by
  refine ⟨pe_chain ho ho' ha.1 hb.1 hc.1 hm, fun B S H env σ Q Qv s q k => ?_⟩
  refine ha.2 B S H env σ _ _ s q fun x H1 S1 env1 r1 e1 q1 => ?_
  refine hb.2 B S1 H1 env1 σ _ _ e1.sr q1 fun y H2 S2 env2 r2 e2 q2 => ?_
  refine hd S2 H2 x y _ _ _ _ e2.sr.ex (e1.look e2) e2.look1 q2 fun v H3 S3 q n q3 => ?_
  have z3 := EPo.fin (e1.t.trans e2.t) n
  split at q3
  · rename_i k0
    refine ⟨k0, z3.res.bl, ?_⟩
    cases k0 with
    | true =>
      refine hc.2 B S3 H3 env2 σ _ _ z3.sr (dIte_t q3) fun z H4 S4 env3 r4 e4 q4 => ?_
      have hy : RepB X.K S4 H4 y r2.data := RepB.go e2 rfl (TPo.trans (⟨z3.sr, n.nw.go, .refl _⟩ : TPo X.K B S2 H2 env2 σ S3 H3 env2) e4.t)
      exact hd' S4 H4 y z _ _ _ _ e4.sr.ex hy e4.look1 q4 fun v H5 S5 q n5 q5 => k v H5 S5 env3 q (.fin (z3.t.trans e4.t) n5) q5
    | false => exact k _ H3 S3 env2 (.val (.bl false)) ⟨z3.sr, z3.go, z3.fz, Rep.bl _⟩ (dIte_f q3)
  · exact q3.elim
theorem dt_chain {op op' : CmpOp} {r r' : R2} {m m' : M2} (ho : OpR X (compareOp op) r) (hd : OpD X.K r m) (ho' : OpR X (compareOp op') r') (hd' : OpD X.K r' m') (ha : DE X a ma ta) (hb : DE X b mb tb) (hc : DE X c mc tc)
    (hm : lastMarks [op, op'] [b, c] = false := by with_unfolding_all rfl) : DT X (.Compare a [op, op'] [b, c] pos) (dB (dChain m m' ma mb mc)) (tTest (tChain r r' ta tb tc)) := by
  refine ⟨pt_chain ho ho' ha.1 hb.1 hc.1 hm, fun B S H env σ Q Qv s q k => ?_⟩
  refine (de_chain ho hd ho' hd' ha hb hc (pos := pos) hm).2 B S H env σ _ _ s q fun v H1 S1 env1 r1 e1 q1 => ?_
  split at q1
  · rename_i c
    exact ⟨c, e1.res.bl, k _ H1 S1 env1 e1.t q1⟩
  · exact q1.elim
/-- a constant of the module -/
theorem de_gint {x : Str} {i : Int} {t : Tok} (hg : Gl X x) (hm : X.mg x = some (.int i t)) (hd : (x == ("__debug__" : Str)) = false := by decide) : DE X (.Name x pos) (dC (.int i)) (tC (.int i)) := de_c (pe_glob hg hm ⟨_, rfl⟩ hd) fun _ _ => .int i
theorem de_gstr {x y : Str} {t : Tok} (hg : Gl X x) (hm : X.mg x = some (.str y t)) (hd : (x == ("__debug__" : Str)) = false := by decide) : DE X (.Name x pos) (dC (.str y)) (tC (.str y)) := de_c (pe_glob hg hm ⟨_, rfl⟩ hd) fun _ _ => .str y
theorem de_gref {x : Str} {a : Addr} {d : D} (hg : Gl X x) (hm : X.mg x = some (.ref a)) (hr : ∀ S, Rep X.K S (.ref a) d) (hd : (x == ("__debug__" : Str)) = false := by decide) : DE X (.Name x pos) (dC d) (tC (.ref a)) :=
  ⟨pe_glob hg hm rfl hd, fun B S H env σ Q Qv s q k => k _ H S env (.val d) ⟨s, .refl, .refl _, hr S⟩ q⟩
theorem RepB.ty {K : PySem.W.Frag} {S H : Hp} {v : V} {d : D} {t : String} (e : Ex S H) (h : RepB K S H v d) (q : tyD d = some t) : TyX K H v (.type t) := by
  cases d with
  | non => rw [h.non]; cases q; exact .base .non
  | bl b => rw [h.bl]; cases q; exact .base (.bl b)
  | int i => rw [h.int]; cases q; exact .base (.int i)
  | str x => rw [h.str]; cases q; exact .base (.str x)
  | lst l =>
    obtain ⟨p, vs, rfl, h1, h2⟩ := h.lstH e
    cases q
    exact .base (.lst h1)
  | tup l =>
    obtain ⟨p, vs, rfl, h1, h2⟩ := h.tup e
    cases q
    rcases h1 with (h1 | ⟨o, h1⟩) | ⟨o, its, n, h1, h3, _⟩
    · exact .base (.tup h1)
    · exact .fTuple h1
    · exact .kTuple h1 h3
  | ins C ns l => cases q
  | any => cases q
  | err _ _ _ _ _ => cases q
  | scr _ => cases q
def dIsi (T : BT) (m : DM) : DM := fun env Q => m env fun env' r => mIsi T r.data fun q => Q env' q
/-- isinstance(e, T), T a built-in class -/
theorem de_isi {x : Str} {T : BT} {p p2 : Pos} (hg : Gl X "isinstance") (hm : X.mg "isinstance" = none) (hv : bootBuiltins "isinstance" = some (.builtin "isinstance")) (hg2 : Gl X x) (hm2 : X.mg x = none) (hv2 : bootBuiltins x = some (.type T.name)) (ha : DE X a ma ta)
    (hn : x ≠ "__name__" := by decide) (hd : (x == ("__debug__" : Str)) = false := by decide)
    (he : starEach (a :: [.Name x p2]) X.env = (false, eval a X.env) :: starEach [.Name x p2] X.env := by rfl) (he2 : starEach (.Name x p2 :: []) X.env = (false, eval (.Name x p2) X.env) :: starEach [] X.env := by rfl) (hpl : (backTo pos (starEach [.Name x p2] X.env)).any (·.1) = false := by rfl) :
    DE X (.Call (.Name "isinstance" p) (a :: [.Name x p2]) [] pos) (dIsi T ma) (tCB (rIsi X.K) (tCons ta (tCons (tC (.ty T.name)) tNil))) := by
  refine ⟨pe_callB call_isi hg hm hv (pa_cons ha.1 (pa_cons (pe_bltn hg2 hm2 hv2 rfl hn hd) pa_nil he2) he) (by decide) (by decide) he hpl, fun B S H env σ Q Qv s q k => ?_⟩
  refine ha.2 B S H env σ _ _ s q fun x H1 S1 env1 r1 e1 q1 => ?_
  obtain ⟨b, h1, h3⟩ := q1
  obtain ⟨t, h1, h2⟩ := isB_kit h1
  exact ⟨x, .ty T.name, _, _, b, rfl, .ty T.name, e1.look1.ty e1.sr.ex h1, kit_ty h2, k _ H1 S1 env1 (.val (.bl b)) ⟨e1.sr, e1.go, e1.fz, Rep.bl _⟩ h3⟩
/-- s.m(e) of a text -/
def dM1 (m : D → D → (R → Prop) → Prop) (mo me : DM) : DM := fun env Q => mo env fun env1 x => (∃ z, x.data = .str z) ∧ me env1 fun env2 y => m x.data y.data fun q => Q env2 q
def M1D (K : PySem.W.Frag) (r : V → List V → Hp → VK → Prop) (m : M2) : Prop := ∀ (S H : Hp) (x y : V) (dx dy : D) (Q : R → Prop) (Qv : VK), Ex S H → RepB K S H x dx → RepB K S H y dy → m dx dy Q →
  (∀ v H' S' q, NwR K S H S' H' q v → Q q → Qv v H') → r x [y] H Qv
theorem de_m1 {E : Expr} {r : V → List V → Hp → VK → Prop} {m : M2} (h : PE X E (tM1 r to te)) (hd : M1D X.K r m) (ho : DE X o mo to) (he : DE X e me te) : DE X E (dM1 m mo me) (tM1 r to te) := by
  refine ⟨h, fun B S H env σ Q Qv s q k => ?_⟩
  refine ho.2 B S H env σ _ _ s q fun x H1 S1 env1 r1 e1 q1 => ?_
  obtain ⟨⟨z, hz⟩, q1⟩ := q1
  have hx := e1.look1
  rw [hz] at hx
  refine ⟨⟨z, hx.str⟩, he.2 B S1 H1 env1 σ _ _ e1.sr q1 fun y H2 S2 env2 r2 e2 q2 => ?_⟩
  exact hd S2 H2 x y _ _ _ _ e2.sr.ex (e1.look e2) e2.look1 q2 fun v H3 S3 q n q3 => k v H3 S3 env2 q (.fin (e1.t.trans e2.t) n) q3
/-- a list of texts -/
def strsOf : List D → Option (List Str)
  | [] => some []
  | .str i :: r => (strsOf r).map (i :: ·)
  | _ => none
theorem strsOf_map (l : List Str) : strsOf (l.map D.str) = some l := by
  induction l with
  | nil => rfl
  | cons i l ih =>
    show (strsOf (l.map D.str)).map (i :: ·) = _
    rw [ih]
    rfl
theorem strsOf_eq : ∀ {ds : List D} {l : List Str}, strsOf ds = some l → ds = l.map D.str
  | [], l, h => by cases h; rfl
  | .str i :: r, l, h => by
    have h' : (strsOf r).map (i :: ·) = some l := h
    cases q : strsOf r with
    | none => rw [q] at h'; cases h'
    | some l2 =>
      rw [q] at h'
      cases h'
      rw [strsOf_eq q]
      rfl
  | .non :: _, _, h => by cases h
  | .bl _ :: _, _, h => by cases h
  | .int _ :: _, _, h => by cases h
  | .tup _ :: _, _, h => by cases h
  | .lst _ :: _, _, h => by cases h
  | .ins _ _ _ :: _, _, h => by cases h
  | .any :: _, _, h => by cases h
def mJoin : M2 := fun x y Q => match x, y with
  | .str a, .lst l => ∃ ys, strsOf l = some ys ∧ (ys.map (·.length)).sum + ys.length * a.length ≤ 16777216 ∧ Q (.val (.str (Txt.join a ys)))
  | _, _ => False
theorem md_join {K : PySem.W.Frag} : M1D K (fun x xs H Q => ∃ a p, ∃ ys : List Str, x = .str a ∧ xs = [.ref p] ∧ (SqL K H p (ys.map V.str) ∨ SqT K H p (ys.map V.str)) ∧
      (ys.map (·.length)).sum + ys.length * a.length ≤ 16777216 ∧ Q (.str (Txt.join a ys)) H) mJoin := by
  intro S H x y dx dy Q Qv e hx hy m k
  unfold mJoin at m
  split at m
  · rename_i a l
    obtain ⟨ys, h1, h2, h3⟩ := m
    obtain ⟨p, vs, rfl, k1, k2⟩ := hy.lst e
    rw [strsOf_eq h1] at k2
    rw [k2.strs_inv] at k1
    exact ⟨a, p, ys, hx.str, rfl, .inl k1, h2, k _ _ _ _ (nwr_val e (.str _)) h3⟩
  · exact m.elim
def mSplit : M2 := fun x y Q => match x, y with
  | .str a, .str b => ((b.length == 0) = false ∧ a.length + 2 ≤ sizeLine) ∧ Q (.own ((Txt.split a b).map D.str))
  | _, _ => False
theorem md_split {K : PySem.W.Frag} : M1D K (fun x xs H Q => ∃ a b, x = .str a ∧ xs = [.str b] ∧ (b.length == 0) = false ∧ a.length + 2 ≤ sizeLine ∧ rNewStrs (Txt.split a b) H Q) mSplit := by
  intro S H x y dx dy Q Qv e hx hy m k
  unfold mSplit at m
  split at m
  · rename_i a b
    exact ⟨a, b, hx.str, by rw [hy.str], m.1.1, m.1.2, fun p hp => k _ _ _ _ (nwr_lst e hp (Reps.strs _)) m.2⟩
  · exact m.elim
theorem de_join {apos : Pos} (ho : DE X o mo to) (he : DE X e me te) (hs : starEach [e] X.env = [(false, eval e X.env)] := by rfl) (hbase : attributeBase o "join" X.env (eval o X.env) = eval o X.env := by rfl) (hline : (apos.endLine == pos.line) = true := by rfl) :
    DE X (.Call (.Attribute o "join" apos) [e] [] pos) (dM1 mJoin mo me) (tM1 (fun x xs H Q => ∃ a p, ∃ ys : List Str, x = .str a ∧ xs = [.ref p] ∧ (SqL X.K H p (ys.map V.str) ∨ SqT X.K H p (ys.map V.str)) ∧
      (ys.map (·.length)).sum + ys.length * a.length ≤ 16777216 ∧ Q (.str (Txt.join a ys)) H) to te) := de_m1 (pe_join ho.1 he.1 hs hbase hline) md_join ho he
theorem de_split {apos : Pos} (ho : DE X o mo to) (he : DE X e me te) (hs : starEach [e] X.env = [(false, eval e X.env)] := by rfl) (hbase : attributeBase o "split" X.env (eval o X.env) = eval o X.env := by rfl) (hline : (apos.endLine == pos.line) = true := by rfl) :
    DE X (.Call (.Attribute o "split" apos) [e] [] pos) (dM1 mSplit mo me) (tM1 (fun x xs H Q => ∃ a b, x = .str a ∧ xs = [.str b] ∧ (b.length == 0) = false ∧ a.length + 2 ≤ sizeLine ∧ rNewStrs (Txt.split a b) H Q) to te) := de_m1 (pe_split ho.1 he.1 hs hbase hline) md_split ho he
/-- an attribute of an instance of the class at C -/
def lookF (f : Str) : List Str → List D → Option D
  | n :: ns, d :: ds => if f == n then some d else lookF f ns ds
  | _, _ => none
def dFld (C : Addr) (f : Str) (m : DM) : DM := fun env Q => m env fun env' r => match r with
  | .val (.ins C' ns l) => C' = C ∧ ∃ d, lookF f ns l = some d ∧ Q env' (.val d)
  | _ => False
theorem Reps.lookF {K : PySem.W.Frag} {S : Hp} {f : Str} : ∀ {fs : List (Str × V)} {ds : List D} {d : D}, Reps K S (fs.map (·.2)) ds → DL.lookF f (fs.map (·.1)) ds = some d → ∃ v, fs.lookup f = some v ∧ Rep K S v d
  | [], _, _, r, h => by
    cases r
    cases h
  | (n, v) :: fs, _, d, r, h => by
    cases r with
    | cons r1 r2 =>
      rename_i d1 ds
      have h' : (if f == n then some d1 else DL.lookF f (fs.map (·.1)) ds) = some d := h
      by_cases c : (f == n) = true
      · rw [if_pos c] at h'
        cases h'
        exact ⟨v, by rw [List.lookup_cons, c], r1⟩
      · rw [if_neg c] at h'
        obtain ⟨w, h1, h2⟩ := Reps.lookF r2 h'
        refine ⟨w, ?_, h2⟩
        rw [List.lookup_cons]
        cases q : f == n with
        | true => exact absurd q c
        | false => exact h1
theorem de_fld {C : Addr} {f : Str} (hc : Cls X.K C) (hn : NoAttr X.K C f) (ha : DE X a ma ta) (hb : attributeBase a f X.env (eval a X.env) = eval a X.env := by rfl) : DE X (.Attribute a f pos) (dFld C f ma) (tFld X.K ta f) := by
  refine ⟨pe_fld ha.1 hb, fun B S H env σ Q Qv s q k => ha.2 B S H env σ _ _ s q fun v H' S' env' r z q' => ?_⟩
  split at q'
  · rename_i C' ns l
    obtain ⟨rfl, d, h1, h2⟩ := q'
    have zr : Rep X.K S' v (.ins C' ns l) := z.res
    cases zr with
    | ins h3 h4 h5 h6 =>
      subst h4
      subst h5
      obtain ⟨w, w1, w2⟩ := h6.lookF h1
      exact ⟨_, C', _, _, w, rfl, z.sr.ex _ _ h3, hc, hn, w1, k w H' S' env' (.val d) ⟨z.sr, z.go, z.fz, w2⟩ h2⟩
  · exact q'.elim
end
section
variable {X : Cx}
/-- name = [..] on one line -/
theorem ds_setLc {i : Nat} {y : Str} {py : Pos} {spos : Pos} {elt tg iter : Expr} {ifs : List Expr} {scope : Scope} (own : List (Str × Nat)) {pos : Pos} (hy : X.N[i]? = some y) (hyl : X.env.scope.names.lookup y = some .local) (hsw : swapsWith (.ListComp elt [⟨tg, iter, ifs, 0⟩] scope pos) (some (.Name y py)) spos.line X.env = pure true) {mi : DIM} {wi : TI} {g : DGM} {tg1 : Shared → Hp → Addr → List (Str × Addr) → List Addr → TG} {t : DTM} {tt : Shared → Hp → Addr → List (Str × Addr) → List Addr → TT} {m : DM} {te : Shared → Hp → Addr → List (Str × Addr) → List Addr → TE} (hc : X.calm = true) (hN : X.N.Nodup) (hi : DI X tg iter mi wi) (ok : BlkOk X.N X.env.scope scope own)
    (hg : ∀ (s : Shared) (H : Hp) (C : Addr) (cl : List (Str × Addr)) (fp : List Addr), DG (X.blk s H scope (compEnvC scope cl C X.env) fp) tg g (tg1 s H C cl fp)) (ht : ∀ (s : Shared) (H : Hp) (C : Addr) (cl : List (Str × Addr)) (fp : List Addr), DTs (X.blk s H scope (compEnvC scope cl C X.env) fp) ifs t (tt s H C cl fp))
    (he : ∀ (s : Shared) (H : Hp) (C : Addr) (cl : List (Str × Addr)) (fp : List Addr), DE (X.blk s H scope (compEnvC scope cl C X.env) fp) elt m (te s H C cl fp)) (i1 : TgIn (tg1 X.s_0 X.H_0 0 [] []) (own.map (·.2))) (i2 : GIn g (own.map (·.2)))
    (e1 : ∀ s H C cl fp, tg1 s H C cl fp = tg1 X.s_0 X.H_0 0 [] [] := by intros; rfl) (e2 : ∀ s H C cl fp, tt s H C cl fp = tt X.s_0 X.H_0 0 [] [] := by intros; rfl) (e3 : ∀ s H C cl fp, te s H C cl fp = te X.s_0 X.H_0 0 [] [] := by intros; rfl) (hs : ∀ x, foldedSetIterable iter X.env x = pure x := by intro _; rfl) :
    DS X (.Assign [.Name y py] (.ListComp elt [⟨tg, iter, ifs, 0⟩] scope pos) spos) (dSet i (dLc mi (own.map (·.2)) g t m)) (tAsg (tLc wi (tg1 X.s_0 X.H_0 0 [] []) (tt X.s_0 X.H_0 0 [] []) (te X.s_0 X.H_0 0 [] []) (own.map (·.2))) (gName i)) := by
  have h := de_lc own (pos := pos) hc hN hi ok hg ht he i1 i2 e1 e2 e3 hs
  refine ⟨ps_setLc hc hN hy hyl hsw hi.1 ok (fun s H C cl fp => e1 s H C cl fp ▸ (hg s H C cl fp).1) (fun s H C cl fp => e2 s H C cl fp ▸ (ht s H C cl fp).1) (fun s H C cl fp => e3 s H C cl fp ▸ (he s H C cl fp).1) hs, fun B S H env σ E D s q e => h.2 B S H env σ _ _ s q fun v H' S' env' r z q' => ?_⟩
  have zr := z.res
  cases r with
  | val d => exact e.nx S' H' _ _ (z.sr.storeD zr) q'
  | own l =>
    obtain ⟨p, vs, rfl, z1, z2, z3, z4, z5, z6⟩ := zr
    exact e.nx S' H' _ _ (z.sr.store (fun d e => by cases e) (fun l' e => by cases e; exact ⟨p, vs, rfl, z1, z2, z5, z6, fun j m _ h1 h2 => z4 (.inr (.inl ⟨j, m, h1, h2⟩)), fun j m h1 => z4 (.inr (.inr ⟨j, m, h1⟩))⟩) fun e => by cases e) q'
  | brw j l =>
    obtain ⟨p, rfl, z1, z2⟩ := zr
    obtain ⟨p', S2, y1, y2, y3⟩ := z.sr.frz z2
    cases Slt.ref z1 y1
    exact e.nx S2 H' _ _ (y2.sr.storeD y3) q'
  | pool =>
    obtain ⟨a, z1, rfl⟩ := zr
    exact e.nx S' H' _ _ (z.sr.store (fun d e => by cases e) (fun l' e => by cases e) fun _ => ⟨a, z1, rfl⟩) q'
/-- a, b = e1, e2 -/
def dPar (i j : Nat) (n : DAM) : DSM := fun E env => n env fun env' rs => match rs with
  | [.val d, .val d2] => E.nx ((env'.set i (some (.val d))).set j (some (.val d2)))
  | _ => False
theorem ds_par {i j : Nat} {x y : Str} {a b : Expr} {n : DAM} {tn : TA} {px py pt : Pos} {kt k2 pt2} {pos : Pos} (hc : X.calm = true) (hN : X.N.Nodup) (hi : X.N[i]? = some x) (hj : X.N[j]? = some y) (hij : i ≠ j)
    (hx : X.env.scope.names.lookup x = some .local) (hy : X.env.scope.names.lookup y = some .local) (ha : DA X [a, b] n tn)
    (hw : swappedStores [.Tuple [.Name x px, .Name y py] kt pt] (.Tuple [a, b] k2 pt2) X.env = pure (some [x, y]))
    (hs : swapsWithSole [.Tuple [.Name x px, .Name y py] kt pt] (.Tuple [a, b] k2 pt2) pos.line X.env = pure false := by rfl) :
    DS X (.Assign [.Tuple [.Name x px, .Name y py] kt pt] (.Tuple [a, b] k2 pt2) pos) (dPar i j n) (tPar i j tn) := by
  refine ⟨ps_par hc hN hi hj hij hx hy ha.1 hw hs, fun B S H env σ E D s q e => ha.2 B S H env σ _ _ s q fun vs H' S' env' rs z l len q' => ?_⟩
  split at q'
  · rename_i d d2
    have r := l.vals (ds := [d, d2]) rfl
    cases r with
    | cons r1 r2 =>
      cases r2 with
      | cons r2 r3 =>
        cases r3
        exact ⟨_, _, rfl, e.nx S' H' _ _ ((z.sr.storeD r1).storeD r2) q'⟩
  · exact q'.elim
end
end DL
end

section
set_option Elab.async false
set_option linter.all false
set_option maxRecDepth 100000
set_option maxHeartbeats 4000000
namespace DL
open PySem L2
open Evl (Ex)
/-- a def of the text, called by its name -/
structure FnAt (K : PySem.W.Frag) (mg : Str → Option Value) (name qual : Str) (st : Stmt) (f : Addr) (fd : FuncData) (ps : List Str) : Prop where
  fn : Fun K name qual st f fd
  g : mg name = some (.ref f)
  b : Binds K fd ps []
theorem FnAt.k {K : PySem.W.Frag} {mg : Str → Option Value} {name qual : Str} {st : Stmt} {f : Addr} {fd : FuncData} {ps : List Str} (h : FnAt K mg name qual st f fd ps) : PySem.W.keepIn K (.ref f) = true := h.fn.kp
theorem _root_.L2.Room.units1 {k : Nat} {A : Around} (r : Room k A) : A.units + 65 < cLine := by have := r.un; omega
def mNeg : M1 := fun x Q => match x with
  | .int i => Q (.val (.int (-i)))
  | _ => False
theorem ud_neg {K : PySem.W.Frag} : UnD K (rU fun i => .int (-i)) mNeg := by
  intro S H x dx Q Qv e hx m k
  unfold mNeg at m
  split at m
  · rename_i i
    exact ⟨i, hx.int, k _ _ _ _ (nwr_val e (.int _)) m⟩
  · exact m.elim
/-- += of ints, of texts -/
def mAddI : M2 := fun x y Q => match x, y with
  | .int i, .int j => Q (.val (.int (i + j)))
  | .str a, .str b => a.length + b.length ≤ sizeLine ∧ Q (.val (.str (a ++ b)))
  | _, _ => False
def rAddI : R2 := fun x y H Q => rI0 (fun i j => .int (i + j)) x y H Q ∨ ∃ i j, x = .str i ∧ y = .str j ∧ i.length + j.length ≤ sizeLine ∧ Q (.str (i ++ j)) H
theorem iop_addI {X : Cx} : OpR X (inplaceOp .Add) rAddI := OpR.or iop_add iop_add_str
theorem opd_addI {K : PySem.W.Frag} : OpD K rAddI mAddI := by
  intro S H x y dx dy Q Qv e hx hy m k
  unfold mAddI at m
  split at m
  · rename_i i j
    exact .inl ⟨i, j, hx.int, hy.int, k _ _ _ _ (nwr_val e (.int _)) m⟩
  · rename_i i j
    exact .inr ⟨i, j, hx.str, hy.str, m.1, k _ _ _ _ (nwr_val e (.str _)) m.2⟩
  · exact m.elim
/-- (..) + (..) -/
def mCatT : M2 := fun x y Q => match x, y with
  | .tup a, .tup b => (a ≠ [] ∧ a.length + b.length ≤ sizeLine) ∧ Q (.val (.tup (a ++ b)))
  | _, _ => False
theorem opd_catT {K : PySem.W.Frag} : OpD K (rCatT K) mCatT := by
  intro S H x y dx dy Q Qv e hx hy m k
  unfold mCatT at m
  split at m
  · rename_i a b
    rcases hx with hx | ⟨p, ws, l', rfl, h2, _⟩
    · cases hx with
      | tup h1 h2 =>
        obtain ⟨q, ws, rfl, k1, k2⟩ := hy.tup e
        refine ⟨_, q, _, ws, rfl, rfl, Evl.ex_t e h1, k1, fun z => m.1.1 ?_, by rw [h2.length, k2.length]; exact m.1.2, fun z => ?_, fun _ u hu => k _ _ _ _ (nwr_tup e hu (h2.append k2)) m.2⟩
        · subst z
          cases h2
          rfl
        · subst z
          cases k2
          refine k _ _ _ _ (nwr_val e (.tup h1 h2)) ?_
          have mm := m.2
          rw [List.append_nil] at mm
          exact mm
    · cases h2
  · exact m.elim
/-! ### reversed, enumerate, zip -/
def dRev (m : DM) : DIM := fun env Q => dKeep m env fun env' r => match r with
  | .val (.lst l) => Q env' l.reverse
  | .val (.tup l) => Q env' l.reverse
  | _ => False
section
variable {X : Cx} {tg a b : Expr} {ma mb : DM} {pos : Pos} {ta tb : TE}
theorem rev_get {α : Type} {l : List α} {i : Nat} (h : i < l.length) : l.reverse[i]? = l[l.length - 1 - i]? := List.getElem?_reverse h
theorem di_rev {p : Pos} (hg : Gl X "reversed") (hm : X.mg "reversed" = none) (ha : DE X a ma ta) (hs : starEach [a] X.env = (false, eval a X.env) :: starEach [] X.env := by rfl) : DI X tg (.Call (.Name "reversed" p) [a] [] pos) (dRev ma) (RT.iRevA X.K ta) := by
  obtain ⟨h1, h2⟩ := de_keep ha
  refine ⟨RT.pi_revA hg hm h1 hs, fun B S H env σ Q R s q k => h2 B S H env σ _ _ s q fun v H' S' env' r z q' => ?_⟩
  split at q'
  · rename_i l
    have zr : Rep X.K S' v (.lst l) := z.res
    cases zr with
    | lst h r =>
      rename_i p0 vs
      refine ⟨_, vs, rfl, .inl ⟨SqL.of (z.sr.ex _ _ h), k _ H' S' env' l.reverse z.t ⟨fun i hi S2 H2 e1 e2 => ?_, fun i d hd S2 H2 x H3 e1 e2 y => ?_, fun S2 H2 e1 e2 => ?_⟩ q'⟩⟩
      · rw [List.length_reverse] at hi
        have hi' : i < vs.length := by rw [r.length]; exact hi
        exact ⟨hi', vs, vs[vs.length - 1 - i], SqL.of (e2 _ _ (e1 _ _ h)), List.getElem?_eq_getElem _⟩
      · obtain ⟨rfl, y⟩ := y
        have hi : i < l.length := by
          have := (List.getElem?_eq_some_iff.mp hd).1
          rwa [List.length_reverse] at this
        rw [rev_get hi] at hd
        obtain ⟨w, w1, w2⟩ := r.get hd
        have q := y vs (SqL.of (e2 _ _ (e1 _ _ h)))
        rw [r.length, w1] at q
        cases q
        exact ⟨S2, .refl e2, w2.mono e1⟩
      · rw [List.length_reverse]
        show vs.length ≤ l.length
        rw [r.length]
        exact Nat.le_refl _
  · rename_i l
    have zr : Rep X.K S' v (.tup l) := z.res
    cases zr with
    | tup h r =>
      rename_i p0 vs
      refine ⟨_, vs, rfl, .inr ⟨Evl.ex_t z.sr.ex h, k _ H' S' env' l.reverse z.t ⟨fun i hi S2 H2 e1 e2 => ?_, fun i d hd S2 H2 x H3 e1 e2 y => ?_, fun S2 H2 e1 e2 => ?_⟩ q'⟩⟩
      · rw [List.length_reverse] at hi
        have hi' : i < vs.length := by rw [r.length]; exact hi
        exact ⟨hi', vs, vs[vs.length - 1 - i], Evl.ex_t (e1.trans e2) h, List.getElem?_eq_getElem _⟩
      · obtain ⟨rfl, y⟩ := y
        have hi : i < l.length := by
          have := (List.getElem?_eq_some_iff.mp hd).1
          rwa [List.length_reverse] at this
        rw [rev_get hi] at hd
        obtain ⟨w, w1, w2⟩ := r.get hd
        have q := y vs (Evl.ex_t (e1.trans e2) h)
        rw [r.length, w1] at q
        cases q
        exact ⟨S2, .refl e2, w2.mono e1⟩
      · rw [List.length_reverse]
        show vs.length ≤ l.length
        rw [r.length]
        exact Nat.le_refl _
  · exact q'.elim
/-- for i, x in enumerate(xs) -/
def enumD : Nat → List D → List D
  | _, [] => []
  | i, d :: r => .tup [.int (i : Nat), d] :: enumD (i + 1) r
def dEnum (m : DM) : DIM := fun env Q => dKeep m env fun env' r => match r with
  | .val (.lst l) => Q env' (enumD 0 l)
  | _ => False
theorem enumD_length : ∀ (l : List D) (i : Nat), (enumD i l).length = l.length
  | [], _ => rfl
  | d :: r, i => by unfold enumD; rw [List.length_cons, List.length_cons, enumD_length r]
theorem enumD_get : ∀ (l : List D) (i j : Nat), (enumD i l)[j]? = l[j]?.map fun d => .tup [.int ((i + j : Nat) : Int), d]
  | [], _, _ => by simp [enumD]
  | d :: r, i, 0 => by simp [enumD]
  | d :: r, i, j + 1 => by
    unfold enumD
    rw [List.getElem?_cons_succ, List.getElem?_cons_succ, enumD_get r (i + 1) j]
    rw [show i + 1 + j = i + (j + 1) by omega]
theorem di_enum {elts : List Expr} {kk : Nat} {p tpos : Pos} (hg : Gl X "enumerate") (hm : X.mg "enumerate" = none) (ha : DE X a ma ta) (hs : starEach [a] X.env = [(false, eval a X.env)] := by rfl) :
    DI X (.Tuple elts kk tpos) (.Call (.Name "enumerate" p) [a] [] pos) (dEnum ma) (iEnum X.K (tCons ta tNil)) := by
  obtain ⟨h1, h2⟩ := de_keep ha
  refine ⟨pi_enum hg hm (pa_cons h1 pa_nil (by rw [hs] <;> rfl)) hs, fun B S H env σ Q R s q k => h2 B S H env σ _ _ s q fun v H' S' env' r z q' => ?_⟩
  split at q'
  · rename_i l
    have zr : Rep X.K S' v (.lst l) := z.res
    cases zr with
    | lst h r =>
      rename_i p0 vs
      refine ⟨_, vs, rfl, SqL.of (z.sr.ex _ _ h), k _ H' S' env' _ z.t ⟨fun i hi S2 H2 e1 e2 => ?_, fun i d hd S2 H2 x H3 e1 e2 y => ?_, fun S2 H2 e1 e2 => ?_⟩ q'⟩
      · rw [enumD_length] at hi
        have hi' : i < vs.length := by rw [r.length]; exact hi
        exact ⟨vs, vs[i], SqL.of (e2 _ _ (e1 _ _ h)), List.getElem?_eq_getElem _⟩
      · obtain ⟨T, x', rfl, hT, rfl, y⟩ := y
        rw [enumD_get, Nat.zero_add] at hd
        cases q : l[i]? with
        | none => rw [q] at hd; cases hd
        | some d0 =>
          rw [q] at hd
          cases hd
          obtain ⟨w, w1, w2⟩ := r.get q
          have q2 := y vs (SqL.of (e2 _ _ (e1 _ _ h)))
          rw [w1] at q2
          cases q2
          exact ⟨_, (nwr_tup (K := X.K) e2 hT (.cons (.int _) (.cons (w2.mono e1) .nil))).1, (nwr_tup (K := X.K) e2 hT (.cons (.int _) (.cons (w2.mono e1) .nil))).2⟩
      · rw [enumD_length]
        exact ⟨vs, SqL.of (e2 _ _ (e1 _ _ h)), by rw [r.length]; exact Nat.le_refl _⟩
  · exact q'.elim
/-- for x, y in zip(xs, ys) -/
def zipD : List D → List D → List D
  | a :: r, b :: s => .tup [a, b] :: zipD r s
  | _, _ => []
theorem zipD_get : ∀ (l m : List D) (j : Nat), (zipD l m)[j]? = match l[j]?, m[j]? with
    | some a, some b => some (.tup [a, b])
    | _, _ => none
  | [], m, j => by simp [zipD]
  | a :: r, [], j => by
    simp only [zipD, List.getElem?_nil]
    cases (a :: r)[j]? <;> rfl
  | a :: r, b :: s, 0 => by simp [zipD]
  | a :: r, b :: s, j + 1 => by
    unfold zipD
    rw [List.getElem?_cons_succ, List.getElem?_cons_succ, List.getElem?_cons_succ]
    exact zipD_get r s j
theorem zipD_length : ∀ (l m : List D), (zipD l m).length = min l.length m.length
  | [], m => by simp [zipD]
  | a :: r, [] => by simp [zipD]
  | a :: r, b :: s => by
    unfold zipD
    rw [List.length_cons, List.length_cons, List.length_cons, zipD_length r s]
    omega
def dZip (m n : DM) : DIM := fun env Q => dKeep m env fun env1 r => dKeep n env1 fun env2 q => match r, q with
  | .val (.lst l), .val (.lst l2) => Q env2 (zipD l l2)
  | _, _ => False
theorem di_zip {elts : List Expr} {kk : Nat} {p tpos : Pos} (hg : Gl X "zip") (hm : X.mg "zip" = none) (ha : DE X a ma ta) (hb : DE X b mb tb)
    (hs : starEach [a, b] X.env = (false, eval a X.env) :: starEach [b] X.env := by rfl) (hs2 : starEach [b] X.env = (false, eval b X.env) :: starEach [] X.env := by rfl) (hpl : (backTo pos (starEach [b] X.env)).any (·.1) = false := by rfl) :
    DI X (.Tuple elts kk tpos) (.Call (.Name "zip" p) [a, b] [] pos) (dZip ma mb) (iZip X.K (tCons ta (tCons tb tNil))) := by
  obtain ⟨h1, h2⟩ := de_keep ha
  obtain ⟨k1, k2⟩ := de_keep hb
  refine ⟨pi_zip hg hm (pa_cons h1 (pa_cons k1 pa_nil hs2) hs) hs hpl, fun B S H env σ Q R s q k => h2 B S H env σ _ _ s q fun v H1 S1 env1 r z1 q1 => k2 B S1 H1 env1 σ _ _ z1.sr q1 fun u H' S' env' r2 z2 q' => ?_⟩
  split at q'
  · rename_i l l2
    have zr : Rep X.K S1 v (.lst l) := z1.res
    have yr : Rep X.K S' u (.lst l2) := z2.res
    cases zr with
    | lst h r =>
      cases yr with
      | lst h' r' =>
        rename_i p0 vs p1 ws
        have h := z2.go.ex _ _ h
        have r := r.mono z2.go.ex
        refine ⟨_, _, vs, ws, rfl, SqL.of (z2.sr.ex _ _ h), SqL.of (z2.sr.ex _ _ h'), k _ H' S' env' _ (z1.t.trans z2.t) ⟨fun i hi S2 H2 e1 e2 => ?_, fun i d hd S2 H2 x H3 e1 e2 y => ?_, fun S2 H2 e1 e2 => ?_⟩ q'⟩
        · rw [zipD_length] at hi
          have hi1 : i < vs.length := by rw [r.length]; omega
          have hi2 : i < ws.length := by rw [r'.length]; omega
          exact ⟨vs, ws, vs[i], ws[i], SqL.of (e2 _ _ (e1 _ _ h)), SqL.of (e2 _ _ (e1 _ _ h')), List.getElem?_eq_getElem _, List.getElem?_eq_getElem _⟩
        · obtain ⟨T, x', y', rfl, hT, rfl, y1, y2⟩ := y
          rw [zipD_get] at hd
          cases c1 : l[i]? with
          | none => rw [c1] at hd; cases hd
          | some d1 =>
            cases c2 : l2[i]? with
            | none => rw [c1, c2] at hd; cases hd
            | some d2 =>
              rw [c1, c2] at hd
              cases hd
              obtain ⟨w, w1, w2⟩ := r.get c1
              obtain ⟨w', w1', w2'⟩ := r'.get c2
              have e3 := y1 vs (SqL.of (e2 _ _ (e1 _ _ h)))
              have e4 := y2 ws (SqL.of (e2 _ _ (e1 _ _ h')))
              rw [w1] at e3
              rw [w1'] at e4
              cases e3
              cases e4
              have n := nwr_tup (K := X.K) e2 hT (.cons (w2.mono e1) (.cons (w2'.mono e1) .nil))
              exact ⟨_, n.1, n.2⟩
        · refine ⟨vs, ws, SqL.of (e2 _ _ (e1 _ _ h)), SqL.of (e2 _ _ (e1 _ _ h')), ?_⟩
          rw [zipD_length, r.length, r'.length]
          omega
  · exact q'.elim
end
end DL
end

section
set_option Elab.async false
set_option linter.all false
set_option maxRecDepth 100000
set_option maxHeartbeats 4000000
namespace DL
open PySem PySem.Spec PyProof.Rows L2
open Evl (Ex)
/-! ### a draw from the pool: some number from 0 on below the size -/
def F_draw : FM := fun rs Qd => ∃ n : Int, rs = [.pool, .val (.int n)] ∧ CDivW 0 n ∧ ∀ r : Int, 0 ≤ r → r < n → Qd (.val (.int r))
section
variable {K : PySem.W.Frag} {σ : L2.St} {H : Hp} {a : Addr} {xs : List V} {i : Int} {v : V} {Q : VK}
theorem rd_at (hσ : σ[0]? = some (some (.ref a))) (h : H a = some (.lst xs)) (hi : atI xs i = some v) (k : Q v H) : tOp (rIxL K) (tVar 0) (tC (.int i)) σ H Q := ⟨_, hσ, a, xs, i, v, rfl, rfl, SqL.of h, hi, k⟩
theorem st_at {te : TE} {D : Ends} {j : Nat} (hσ : σ[0]? = some (some (.ref a))) (h : H a = some (.lst xs)) (hi : ixN xs.length i = some j) (hv : ∀ Q : VK, Q v H → te σ H Q) (k : D.nx σ (upd H a (.lst (xs.set j v)))) :
    tAsg te (gSub (tVar 0) (tC (.int i)) rSetL) D σ H := hv _ ⟨_, hσ, a, xs, i, j, rfl, rfl, h, hi, k⟩
end
abbrev pl (l : Addr) (pos big seed cnt bud : Int) : List V := [.ref l, .int pos, .int big, .int seed, .int cnt, .int bud]
theorem draw_ok {P : Program} {w : World} {K : PySem.W.Frag} {mg : Str → Option Value} {base : Heap} {st : Stmt} {f : Addr} {fd : FuncData} (F : Fun K "_law_draw" "_law_draw" st f fd) (Sc : FnScope ["pool", "size", "cell", "value"] ["pool", "size"] (defScope st))
    (hlen : mg "len" = none) (hint : mg "int" = none)
    (hbody : ∀ (cdv : Value) (A : Around) (outer : List Env) (s : Shared) (H : Hp) (E : XK), ∃ t, PSs (cxOf CX0 P w K mg base ["pool", "size", "cell", "value"] "_law_draw" (defScope st) f cdv A outer s H E).nox (defBody st) t ∧
      ∀ (H : Hp) (a l : Addr) (cells : List Int) (pos big seed cnt bud n : Int) (D : Ends), H a = some (.lst (pl l pos big seed cnt bud)) → H l = some (.lst (cells.map V.int)) → l ≠ a → 0 ≤ pos → CDivW 0 n →
        (∀ (r pos big seed cnt : Int), 0 ≤ r → r < n → 0 ≤ pos → D.rt (.int r) (upd H a (.lst (pl l pos big seed cnt bud)))) → t D [some (.ref a), some (.int n), none, none] H) :
    FnOk P w K mg base CX0 1 f fd ["pool", "size"] (spF K 2 F_draw) := by
  refine F.ok Sc (fun vs H Q E h => ?_) fun cdv A outer s H vs Q E hr h => ?_
  · obtain ⟨S, pa, rs, Qd, h1, h2, h3, h4, h5⟩ := h
    exact h4
  · obtain ⟨S, pa, rs, Qd, h1, h2, h3, h4, ⟨n, rfl, hn, h5⟩, h6⟩ := h
    obtain ⟨t, t1, t2⟩ := hbody cdv A outer s H E
    cases h3 with
    | @pool a vs _ hp h3 =>
      cases h3 with
      | val hv h3 =>
        cases h3
        cases hv
        obtain ⟨sa, l, cells, pos, big, seed, cnt, bud, ha, hl, h0⟩ := h2 a hp
        have la : l ≠ a := fun e => by rw [e, sa] at hl; cases hl
        refine ⟨t, t1, t2 H a l cells pos big seed cnt bud n _ ha (h1 _ _ hl) la h0 hn fun r pos' big' seed' cnt' r0 rn p0 => ?_⟩
        refine h6 _ _ S (.val (.int r)) ⟨Ex.refl _, fun b o e => ?_, fun b o e c => ?_, fun b o e c => c, fun b e => ?_, fun b e => ?_, fun b e => ?_, .int r⟩ (h5 r r0 rn)
        · rw [upd_ne (fun z => by rw [z, sa] at e; cases e)]
          exact h1 _ _ e
        · rw [upd_ne (fun z => c (by rw [z]; exact hp))]
          exact e
        · by_cases z : b = a
          · rw [z, upd_same] at e
            cases e
          · rw [upd_ne z] at e
            exact e
        · rw [hp] at e
          cases e
          exact ⟨sa, l, cells, pos', big', seed', cnt', bud, upd_same, hl, p0⟩
        · rw [hp] at e
          cases e
          rw [upd_same, ha]
          rfl
end DL
end

section
set_option Elab.async false
set_option linter.all false
set_option maxRecDepth 100000
set_option maxHeartbeats 4000000
namespace DL
open PySem PySem.Spec PyProof.Rows L2
open Evl (Ex)
/-! ### rewriting the meanings -/
theorem hasTy_dat {x : D} (h : isDat x = true) : hasTy x = true := by
  cases x <;> first
    | rfl
    | (rw [isDat] at h; exact nomatch h)
theorem isB_tuple {x : D} (h : isDat x = true) : isB .tuple x = some (isTup x) := by unfold isB; rw [hasTy_dat h]
theorem isB_list {x : D} (h : isDat x = true) : isB .list x = some (isLst x) := by unfold isB; rw [hasTy_dat h]
theorem isB_bool {x : D} (h : isDat x = true) : isB .bool x = some (isBl x) := by unfold isB; rw [hasTy_dat h]
theorem isB_int {x : D} (h : isDat x = true) : isB .int x = some (isIntB x) := by unfold isB; rw [hasTy_dat h]
theorem isB_str {x : D} (h : isDat x = true) : isB .str x = some (isStr x) := by unfold isB; rw [hasTy_dat h]
theorem isNon_dat {x : D} (h : isDat x = true) : isNon x = some (isNo x) := by
  cases x <;> first
    | rfl
    | (rw [isDat] at h; cases h)
theorem okD_bl (b : Bool) : okD (.bl b) := ⟨by rw [isDat], by
  rw [toPy]
  simp [SeqAt.shaped, PyData.canLay0, PyData.depth]⟩
theorem okD_int (i : Int) : okD (.int i) := ⟨by rw [isDat], by
  rw [toPy]
  simp [SeqAt.shaped, PyData.canLay0, PyData.depth]⟩
theorem okD_non : okD .non := ⟨by rw [isDat], by
  rw [toPy]
  simp [SeqAt.shaped, PyData.canLay0, PyData.depth]⟩
theorem okD_str {x : Str} (h : PyData.canLay0 (.str x) = true) : okD (.str x) := ⟨by rw [isDat], by
  rw [toPy]
  simp [SeqAt.shaped, h, PyData.depth]⟩
theorem eqD_int (i j : Int) : eqD (.int i) (.int j) = (i == j) := by simp [eqD, toPy, PyData.eqv]
theorem eqD_bl (i j : Bool) : eqD (.bl i) (.bl j) = (i == j) := by simp [eqD, toPy, PyData.eqv]
theorem eqD_str (i j : Str) : eqD (.str i) (.str j) = (i == j) := by simp [eqD, toPy, PyData.eqv]
theorem eqD_non : eqD .non .non = true := by simp [eqD, toPy, PyData.eqv]
/-! ### a loop over a range, by places -/
theorem rangeD_nat (n : Nat) : rangeD 0 (n : Int) = (List.range n).map fun k : Nat => D.int (k : Int) := by
  unfold rangeD
  simp
/-! the same data, of the same kinds -/
mutual
def sameD : D → D → Bool
  | .non, .non => true
  | .bl a, .bl b => a == b
  | .int a, .int b => a == b
  | .str a, .str b => a == b
  | .tup a, .tup b => sameDs a b
  | .lst a, .lst b => sameDs a b
  | _, _ => false
def sameDs : List D → List D → Bool
  | [], [] => true
  | a :: r, b :: s => sameD a b && sameDs r s
  | _, _ => false
end
/-! how deep data lies -/
mutual
def depD : D → Nat
  | .tup l => depDs l + 1
  | .lst l => depDs l + 1
  | .ins _ _ l => depDs l + 1
  | _ => 0
def depDs : List D → Nat
  | [] => 0
  | d :: l => max (depD d) (depDs l)
end
/-! every text within can be compared -/
mutual
def txtOk : D → Prop
  | .str x => PyData.canLay0 (.str x) = true
  | .tup l => l.length ≤ sizeLine ∧ txtOks l
  | .lst l => l.length ≤ sizeLine ∧ txtOks l
  | .ins _ _ _ => False
  | .any => False
  | _ => True
def txtOks : List D → Prop
  | [] => True
  | d :: l => txtOk d ∧ txtOks l
end
def F_same (n : Nat) : FM := fun rs Qd => ∃ a d, rs = [.val a, .val d] ∧ depD d < n ∧ isDat a = true ∧ txtOk a ∧ isDat d = true ∧ txtOk d ∧ Qd (.val (.bl (sameD a d)))
theorem sameDs_length : ∀ {a b : List D}, sameDs a b = true → a.length = b.length
  | [], [], _ => rfl
  | [], _ :: _, h => by simp [sameDs] at h
  | _ :: _, [], h => by simp [sameDs] at h
  | _ :: r, _ :: s, h => by
    rw [sameDs, Bool.and_eq_true] at h
    rw [List.length_cons, List.length_cons, sameDs_length h.2]
theorem isDats_get {l : List D} {i : Nat} {d : D} (h : isDats l = true) (e : l[i]? = some d) : isDat d = true := by
  induction l generalizing i with
  | nil => simp at e
  | cons x r ih =>
    rw [isDats, Bool.and_eq_true] at h
    cases i with
    | zero => simp at e; subst e; exact h.1
    | succ i => exact ih h.2 (by simpa using e)
theorem txtOks_get {l : List D} {i : Nat} {d : D} (h : txtOks l) (e : l[i]? = some d) : txtOk d := by
  induction l generalizing i with
  | nil => simp at e
  | cons x r ih =>
    rw [txtOks] at h
    cases i with
    | zero => simp at e; subst e; exact h.1
    | succ i => exact ih h.2 (by simpa using e)
theorem depDs_get {l : List D} {i : Nat} {d : D} (e : l[i]? = some d) : depD d ≤ depDs l := by
  induction l generalizing i with
  | nil => simp at e
  | cons x r ih =>
    rw [depDs]
    cases i with
    | zero => simp at e; subst e; omega
    | succ i => have := ih (i := i) (by simpa using e); omega
/-- the first k places are the same -/
theorem sameDs_iff {a b : List D} (hl : a.length = b.length) : sameDs a b = true ↔ ∀ (i : Nat) (x y : D), a[i]? = some x → b[i]? = some y → sameD x y = true := by
  induction a generalizing b with
  | nil =>
    cases b with
    | nil => simp [sameDs]
    | cons y s => cases hl
  | cons x r ih =>
    cases b with
    | nil => cases hl
    | cons y s =>
      rw [sameDs, Bool.and_eq_true, ih (by simpa using hl)]
      constructor
      · rintro ⟨h1, h2⟩ i u v e1 e2
        cases i with
        | zero => simp at e1 e2; subst e1; subst e2; exact h1
        | succ i => exact h2 i u v (by simpa using e1) (by simpa using e2)
      · intro h
        exact ⟨h 0 x y rfl rfl, fun i u v e1 e2 => h (i + 1) u v (by simpa using e1) (by simpa using e2)⟩
end DL
end

section
set_option Elab.async false
set_option linter.all false
set_option maxRecDepth 100000
set_option maxHeartbeats 4000000
namespace DL
open PySem PySem.Spec PyProof.Rows L2
open Evl (Ex)
/-! ### walking through a meaning, from the head -/
section
variable {E : DEn} {env : En} {Q : En → R → Prop} {QT : En → Bool → Prop} {QA : En → List R → Prop} {QI : En → List D → Prop} {Qe : En → Prop} {QR : R → Prop} {m n mi : DM} {a b c d : DSM} {t u : DTM} {na : DAM} {i j : Nat} {x y : D} {g : DGM}
theorem s_seq (h : a { E with nx := b E } env) : dSeq a b E env := h
theorem s_next (h : E.nx env) : dNext E env := h
theorem s_ifs (h : t env fun env1 c => dIte c (a E env1) (b E env1)) : dIfS t a b E env := h
theorem s_iteT {p q : Prop} (h : p) : dIte true p q := ⟨fun _ => h, (fun e => nomatch e)⟩
theorem s_iteF {p q : Prop} (h : q) : dIte false p q := ⟨(fun e => nomatch e), fun _ => h⟩
theorem s_ite1 {c : Bool} {p q : Prop} (e : c = true) (h : p) : dIte c p q := ⟨fun _ => h, (fun e2 => nomatch e.symm.trans e2)⟩
theorem s_ite0 {c : Bool} {p q : Prop} (e : c = false) (h : q) : dIte c p q := ⟨(fun e2 => nomatch e.symm.trans e2), fun _ => h⟩
theorem s_ret (h : m env fun env' r => match r with
  | .val d => E.rt env' (.val d)
  | .own l => E.rt env' (.own l)
  | .brw _ l => E.rt env' (.own l)
  | .pool => E.rt env' .pool) : dRet m E env := h
theorem s_retN (h : E.rt env (.val .non)) : dRetN E env := h
theorem s_brk (h : E.bk env) : dBrk E env := h
theorem s_cnt (h : E.ct env) : dCnt E env := h
theorem s_drop (h : m env fun env' _ => E.nx env') : dDrop m E env := h
theorem s_set (h : m env fun env' r => match r with
  | .val d => E.nx (env'.set i (some (.val d)))
  | .own l => E.nx (env'.set i (some (.own l)))
  | .brw j l => E.nx ((env'.set j (some (.val (.lst l)))).set i (some (.val (.lst l))))
  | .pool => E.nx (env'.set i (some .pool))) : dSet i m E env := h
theorem s_or (h : t env fun env1 c => dIte c (QT env1 true) (u env1 QT)) : dOr t u env QT := h
theorem s_and (h : t env fun env1 c => dIte c (u env1 QT) (QT env1 false)) : dAnd t u env QT := h
theorem s_not (h : t env fun env1 c => QT env1 (!c)) : dNot t env QT := h
theorem s_tru (h : m env fun env1 r => ∃ b, truD r.data = some b ∧ QT env1 b) : dTru m env QT := h
theorem s_B (h : m env fun env1 r => match r with
  | .val (.bl c) => QT env1 c
  | _ => False) : dB m env QT := h
theorem s_isi {T : BT} (h : m env fun env' r => mIsi T r.data fun q => Q env' q) : dIsi T m env Q := h
theorem s_var {d : D} (h : Q env (.val d)) (e : env[i]? = some (some (.val d)) := by rfl) : dVar i env Q := by
  unfold dVar
  rw [e]
  exact h
theorem s_varO {l : List D} (h : Q env (.brw i l)) (e : env[i]? = some (some (.own l)) := by rfl) : dVar i env Q := by
  unfold dVar
  rw [e]
  exact h
theorem s_varP (h : Q env .pool) (e : env[i]? = some (some .pool) := by rfl) : dVar i env Q := by
  unfold dVar
  rw [e]
  exact h
theorem s_c (h : Q env (.val x)) : dC x env Q := h
theorem s_op {o : M2} (h : m env fun env1 r1 => n env1 fun env2 r2 => o r1.data r2.data fun q => Q env2 q) : dOp o m n env Q := h
theorem s_un {o : M1} (h : m env fun env1 r1 => o r1.data fun q => Q env1 q) : dUn o m env Q := h
theorem s_cb {o : MA} (h : na env fun env' rs => o (rs.map R.data) fun q => Q env' q) : dCB o na env Q := h
theorem s_nil (h : QA env []) : dNil env QA := h
theorem s_cons (h : m env fun env1 r => na env1 fun env2 rs => QA env2 (r :: rs)) : dCons m na env QA := h
theorem s_keep (h : m env fun env' r => match r with
  | .val d => Q env' (.val d)
  | .own l => Q env' (.val (.lst l))
  | .brw i l => Q (env'.set i (some (.val (.lst l)))) (.val (.lst l))
  | .pool => Q env' .pool) : dKeep m env Q := h
theorem s_call {F : FM} (h : na env fun env' rs => argsOk rs = true ∧ F rs fun r => match r with
  | .brw _ _ => False
  | r => Q env' r) : dCall F na env Q := h
theorem s_andV (h : m env fun env1 r => match r with
  | .val (.bl c) => dIte c (n env1 Q) (Q env1 (.val (.bl false)))
  | _ => False) : dAndV m n env Q := h
theorem s_orV (h : m env fun env1 r => match r with
  | .val (.bl c) => dIte c (Q env1 (.val (.bl true))) (n env1 Q)
  | _ => False) : dOrV m n env Q := h
theorem s_notV (h : m env fun env1 r => match r with
  | .val (.bl c) => Q env1 (.val (.bl (!c)))
  | _ => False) : dNotV m env Q := h
theorem s_if (h : t env fun env1 c => dIte c (m env1 Q) (n env1 Q)) : dIf t m n env Q := h
theorem s_tup (h : na env fun env' rs => ∃ ds, vals rs = some ds ∧ ds.length ≤ sizeLine ∧ Q env' (.val (.tup ds))) : dTup na env Q := h
theorem s_lst (h : na env fun env' rs => ∃ ds, vals rs = some ds ∧ ds.length ≤ sizeLine ∧ Q env' (.own ds)) : dLst na env Q := h
theorem s_for {mi : DIM} (h : mi env fun env' ds => dLoop g a E ds env') : dFor mi g a E env := h
theorem s_rng1 (h : m env fun env' r => match r with
  | .val (.int j) => -(2 ^ 62) ≤ j ∧ j < 2 ^ 62 ∧ QI env' (rangeD 0 j)
  | _ => False) : dRng1 m env QI := h
theorem s_rng2 (h : m env fun env1 r => n env1 fun env2 q => match r, q with
  | .val (.int i), .val (.int j) => (-(2 ^ 62) ≤ i ∧ i < 2 ^ 62 ∧ -(2 ^ 62) ≤ j ∧ j < 2 ^ 62) ∧ QI env2 (rangeD i j)
  | _, _ => False) : dRng2 m n env QI := h
theorem s_over (h : dKeep m env fun env' r => match r with
  | .val (.lst l) => QI env' l
  | .val (.tup l) => QI env' l
  | _ => False) : dOver m env QI := h
theorem s_rev (h : dKeep m env fun env' r => match r with
  | .val (.lst l) => QI env' l.reverse
  | .val (.tup l) => QI env' l.reverse
  | _ => False) : dRev m env QI := h
theorem s_enum (h : dKeep m env fun env' r => match r with
  | .val (.lst l) => QI env' (enumD 0 l)
  | _ => False) : dEnum m env QI := h
theorem s_zip (h : dKeep m env fun env1 r => dKeep n env1 fun env2 q => match r, q with
  | .val (.lst l), .val (.lst l2) => QI env2 (zipD l l2)
  | _, _ => False) : dZip m n env QI := h
theorem s_name (h : Qe (env.set i (some (.val x)))) : dName i x env Qe := h
theorem s_tg {k : Nat} {hg : DGsM} {l : List D} (h : l.length = k ∧ hg l env Qe) : dTg k hg (.tup l) env Qe := h
theorem s_tcons {hg : DGsM} {r : List D} (h : g x env fun env' => hg r env' Qe) : dTCons g hg (x :: r) env Qe := h
theorem s_tnil (h : Qe env) : dTNil [] env Qe := h
theorem s_aug {o : M2} {z : D} (h : m env fun env1 r => o z r.data fun q => match q with
  | .val d => E.nx (env1.set i (some (.val d)))
  | _ => False) (e : env[i]? = some (some (.val z)) := by rfl) : dAug i o m E env := ⟨z, e, h⟩
theorem s_app {l : List D} (h : dKeep m env fun env1 r => match r, env1[i]? with
    | .val d, some (some (.own l)) => l.length < sizeLine ∧ E.nx (env1.set i (some (.own (l ++ [d]))))
    | _, _ => False) (e : env[i]? = some (some (.own l)) := by rfl) : dApp i m E env := by
  unfold dApp
  rw [e]
  exact h
theorem s_put (h : dKeep m env fun env1 r => (∃ l0, Has env1 i (.own l0)) ∧ mi env1 fun env2 k => match r, k, env2[i]? with
  | .val d, .val (.int j), some (some (.own l)) => ∃ n, ixN l.length j = some n ∧ E.nx (env2.set i (some (.own (l.set n d))))
  | _, _, _ => False) : dPut i mi m E env := h
theorem s_par (h : na env fun env' rs => match rs with
  | [.val d, .val d2] => E.nx ((env'.set i (some (.val d))).set j (some (.val d2)))
  | _ => False) : dPar i j na E env := h
theorem s_asg (h : dKeep m env fun env' r => match r with
  | .val d => g d env' E.nx
  | _ => False) : dAsg g m E env := h
theorem s_loopN {a : DSM} (h : E.nx env) : dLoop g a E [] env := h
theorem s_loopC {a : DSM} {r : List D} (h : g x env fun env' => a { E with nx := dLoop g a E r, ct := dLoop g a E r, bk := E.nx } env') : dLoop g a E (x :: r) env := h
theorem s_sl {l h' : DOM} (h : m env fun env1 r => l env1 fun env2 lo => h' env2 fun env3 hi => mSl r.data lo hi fun q => Q env3 q) : dSl m l h' env Q := h
theorem s_noPart {QO : En → Option Int → Prop} (h : QO env none) : dNoPart env QO := h
theorem s_part {QO : En → Option Int → Prop} (h : m env fun env' r => match r with
  | .val (.int i) => QO env' (some i)
  | _ => False) : dPart m env QO := h
theorem s_m1 {o : M2} (h : m env fun env1 x => (∃ z, x.data = .str z) ∧ n env1 fun env2 y => o x.data y.data fun q => Q env2 q) : dM1 o m n env Q := h
theorem s_chain {o o' : M2} {k : DM} (h : m env fun env1 x => n env1 fun env2 y => o x.data y.data fun q => match q with
  | .val (.bl c) => dIte c (k env2 fun env3 z => o' y.data z.data fun q => Q env3 q) (Q env2 (.val (.bl false)))
  | _ => False) : dChain o o' m n k env Q := h
theorem s_fld {C : Addr} {f : Str} (h : m env fun env' r => match r with
  | .val (.ins C' ns l) => C' = C ∧ ∃ d, lookF f ns l = some d ∧ Q env' (.val d)
  | _ => False) : dFld C f m env Q := h
theorem s_lc {mi : DIM} {vs : List Nat} (h : mi env fun env1 ds => plainAt env1 vs = true ∧ dLcL vs g t m ds (wipeD env1 vs) [] fun env2 acc => Q (backD env1 env2 vs) (.own acc)) : dLc mi vs g t m env Q := h
theorem s_yes (h : QT env true) : dYes env QT := h
theorem s_lcN {vs : List Nat} {acc : List D} {Ql : En → List D → Prop} (h : Ql env acc) : dLcL vs g t m [] env acc Ql := h
theorem s_lcC {vs : List Nat} {acc r : List D} {Ql : En → List D → Prop} (h : g x env (dLcT t m (fun env acc => dLcL vs g t m r (wipeD env vs) acc Ql) acc)) : dLcL vs g t m (x :: r) env acc Ql := h
theorem s_lcT {acc : List D} {nxt : En → List D → Prop} (h : t env fun env2 b => dIte b
      (dKeep m env2 fun env3 q => match q with
        | .val x => acc.length < sizeLine ∧ nxt env3 (acc ++ [x])
        | _ => False)
      (nxt env2 acc)) : dLcT t m nxt acc env := h
/-! values -/
theorem v_eq {c : Bool} (h1 : okD x ∧ okD y) (h : QR (.val (.bl c))) (e : eqD x y = c := by first | rfl | exact eqD_int _ _ | exact eqD_bl _ _ | exact eqD_str _ _) : mEq x y QR := ⟨h1, e ▸ h⟩
theorem v_ne {c : Bool} (h1 : okD x ∧ okD y) (h : QR (.val (.bl (!c)))) (e : eqD x y = c := by first | rfl | exact eqD_int _ _ | exact eqD_bl _ _ | exact eqD_str _ _) : mNe x y QR := ⟨h1, e ▸ h⟩
theorem v_is {c : Bool} (h : QR (.val (.bl c))) (e : isNon x = some c := by rfl) : mIs x .non QR := ⟨c, e, h⟩
theorem v_isN {c : Bool} (h : QR (.val (.bl (!c)))) (e : isNon x = some c := by rfl) : mIsN x .non QR := ⟨c, e, h⟩
theorem v_lenL {l : List D} (h : QR (.val (.int l.length))) : mLen [.lst l] QR := h
theorem v_lenT {l : List D} (h : QR (.val (.int l.length))) : mLen [.tup l] QR := h
theorem v_lenS {z : Str} (h : z.length ≤ sizeLine) (k : QR (.val (.int z.length))) : mLen [.str z] QR := ⟨h, k⟩
theorem v_addI {i j : Int} (h : QR (.val (.int (i + j)))) : mAdd (.int i) (.int j) QR := h
theorem v_addL {l r : List D} (e : l.length + r.length ≤ sizeLine) (h : QR (.own (l ++ r))) : mAdd (.lst l) (.lst r) QR := ⟨e, h⟩
theorem v_addS {l r : Str} (e : l.length + r.length ≤ sizeLine) (h : QR (.val (.str (l ++ r)))) : mAdd (.str l) (.str r) QR := ⟨e, h⟩
theorem v_addA {i j : Int} (h : QR (.val (.int (i + j)))) : mAddI (.int i) (.int j) QR := h
theorem v_sub {i j : Int} (h : QR (.val (.int (i - j)))) : mSub (.int i) (.int j) QR := h
theorem v_mod {i j : Int} (e : 0 < j) (h : QR (.val (.int (i % j)))) : mMod (.int i) (.int j) QR := ⟨e, h⟩
theorem v_cmp {p : List Nat → List Nat → Bool} {f : Int → Int → Bool} {i j : Int} (h : QR (.val (.bl (f i j)))) : m2S p f (.int i) (.int j) QR := h
theorem v_cmpS {p : List Nat → List Nat → Bool} {f : Int → Int → Bool} {i j : Str} (h : QR (.val (.bl (p i.cps.toList j.cps.toList)))) : m2S p f (.str i) (.str j) QR := h
theorem v_ixL {l : List D} {i : Int} {z : D} (e : atI l i = some z) (h : QR (.val z)) : mIx (.lst l) (.int i) QR := ⟨z, e, h⟩
theorem v_ixT {l : List D} {i : Int} {z : D} (e : atI l i = some z) (h : QR (.val z)) : mIx (.tup l) (.int i) QR := ⟨z, e, h⟩
theorem v_intI {i : Int} (h : QR (.val (.int i))) : mInt [.int i] QR := h
theorem v_intB {b : Bool} (h : QR (.val (.int (if b then 1 else 0)))) : mInt [.bl b] QR := h
theorem v_list {l : List D} (h : QR (.own l)) : mList [.lst l] QR := h
theorem v_listT {l : List D} (h : QR (.own l)) : mList [.tup l] QR := h
theorem v_tuple {l : List D} (h : QR (.val (.tup l))) : mTuple [.lst l] QR := h
theorem v_tupleT {l : List D} (h : QR (.val (.tup l))) : mTuple [.tup l] QR := h
theorem v_slL {l : List D} {lo hi : Option Int} (h : QR (.own (cutD l lo hi))) : mSl (.lst l) lo hi QR := h
end
end DL
end

section
set_option Elab.async false
set_option linter.all false
set_option maxRecDepth 100000
set_option maxHeartbeats 4000000
namespace DL
open PySem PySem.Spec PyProof.Rows L2
open Evl (Ex)
/-! ### places, by natural numbers -/
theorem atI_nat {α : Type} {l : List α} {k : Nat} {d : α} (h : l[k]? = some d) : atI l (k : Int) = some d := by
  have hk : k < l.length := by
    rcases Nat.lt_or_ge k l.length with q | q
    · exact q
    · rw [List.getElem?_eq_none q] at h
      cases h
  unfold atI ixN
  rw [if_pos (by omega), if_pos (by omega)]
  exact h
theorem rangeD_nat' (n : Nat) : rangeD 0 (n : Int) = (List.range' 0 n).map fun k : Nat => D.int (k : Int) := by
  rw [rangeD_nat, List.range_eq_range']
theorem sameDs_false {a b : List D} (h : a.length ≠ b.length) : sameDs a b = false := by
  cases q : sameDs a b with
  | false => rfl
  | true => exact absurd (sameDs_length q) h
theorem neLen {m n : Nat} : (!eqD (.int (m : Int)) (.int (n : Int))) = true ↔ m ≠ n := by
  rw [eqD_int]
  simp
  omega
theorem neLen' {m n : Nat} : (!eqD (.int (m : Int)) (.int (n : Int))) = false ↔ m = n := by
  rw [eqD_int]
  simp
  omega
/-- a list or a tuple with these parts -/
def SqD (x : D) (l : List D) : Prop := x = .lst l ∨ x = .tup l
theorem SqD.ix {x : D} {l : List D} {k : Nat} {d : D} {Q : R → Prop} (h : SqD x l) (e : l[k]? = some d) (q : Q (.val d)) : mIx x (.int k) Q := by
  rcases h with rfl | rfl
  · exact ⟨d, atI_nat e, q⟩
  · exact ⟨d, atI_nat e, q⟩
theorem mIx_same {x : D} {la : List D} (h : SqD x la) (dx : isDat x = true) (tx : txtOk x) : isDats la = true ∧ txtOks la := by
  rcases h with rfl | rfl
  · exact ⟨dx, tx.2⟩
  · exact ⟨dx, tx.2⟩
end DL
end

section
set_option Elab.async false
set_option linter.all false
set_option maxRecDepth 100000
set_option maxHeartbeats 4000000
namespace DL
open PySem PySem.Spec PyProof.Rows L2
open Evl (Ex)
/-! ### taking away from a name's own list -/
theorem Reps.dropLast {K : PySem.W.Frag} {S : Hp} {vs : List V} {ds : List D} (h : Reps K S vs ds) : Reps K S vs.dropLast ds.dropLast := by
  rw [List.dropLast_eq_take, List.dropLast_eq_take, h.length]
  exact h.take _
/-- an expression that may change the names' own lists -/
abbrev PM := En → (En → D → Prop) → (Xd → Prop) → Prop
def DP (X : Cx) (e : Expr) (m : PM) (t : TE) : Prop := PE X e t ∧ ∀ (B : Bs) (S H : Hp) (env : En) (σ : L2.St) (Q : En → D → Prop) (Qx : Xd → Prop) (Qv : VK), SR X.K B S H env σ → m env Q Qx → XcOk X B σ Qx →
  (∀ v d H' S' env', SR X.K B S' H' env' σ → Rep X.K S' v d → Q env' d → Qv v H') → t σ H Qv
/-- xs.pop() -/
def dPopL (i : Nat) : PM := fun env Q _ => match env[i]? with
  | some (some (.own l)) => ∃ d, l[l.length - 1]? = some d ∧ Q (env.set i (some (.own l.dropLast))) d
  | _ => False
/-- xs.pop(0) -/
def dPopF (i : Nat) : PM := fun env Q _ => match env[i]? with
  | some (some (.own (d :: l))) => Q (env.set i (some (.own l))) d
  | _ => False
/-- int(..) of such -/
def dPInt (m : PM) : PM := fun env Q Qx => m env (fun env' d => mInt [d] fun r => match r with
  | .val d' => Q env' d'
  | _ => False) Qx
section
variable {X : Cx} {x : Str} {xp apos cpos p pos : Pos} {i j : Nat} {a b : Expr} {m : PM} {ta : TE}
theorem dp_popL (hv : PE X (.Name x xp) (tVar i)) (hbase : attributeBase (.Name x xp) "pop" X.env (eval (.Name x xp) X.env) = eval (.Name x xp) X.env := by rfl) (hline : (apos.endLine == cpos.line) = true := by rfl) :
    DP X (.Call (.Attribute (.Name x xp) "pop" apos) [] [] cpos) (dPopL i) (tBM0 X.K "list" rPop (tVar i)) := by
  refine ⟨pe_bm0 PySem.F.plainAttrs_list PySem.F.slot_list_pop PySem.F.type_list_pop mt_pop hv hbase hline, fun B S H env σ Q Qx Qv s q xk k => ?_⟩
  unfold dPopL at q
  split at q
  · rename_i l c
    obtain ⟨d, q1, q2⟩ := q
    obtain ⟨p, vs, hp, p1, p2, p3, p4⟩ := s.own i l c
    obtain ⟨v, v1, v2⟩ := p4.get q1
    refine ⟨.ref p, hp, .inl ⟨rfl, _, SqL.of p3⟩, p, vs, v, rfl, rfl, p3, by rw [p4.length]; exact v1, ?_⟩
    exact k v d _ S _ (s.put c hp p4.dropLast) v2 q2
  · exact q.elim
theorem dp_popF (hv : PE X (.Name x xp) (tVar i)) (hb : PE X b (tC (.int 0))) (hbase : attributeBase (.Name x xp) "pop" X.env (eval (.Name x xp) X.env) = eval (.Name x xp) X.env := by rfl) (hline : (apos.endLine == cpos.line) = true := by rfl)
    (hfew : ((backTo cpos (starEach [b] X.env)).all (fun x => !x.1) && (backToKw cpos (keywordEach [] X.env)).all (fun x => x.1.isSome)
      && decide (([b] : List Expr).length + ([] : List Keyword).length + (if ([] : List Keyword).isEmpty then 0 else 1) < 30)) = true := by rfl)
    (hs : starEach [b] X.env = (false, eval (b) X.env) :: starEach [] X.env := by rfl) :
    DP X (.Call (.Attribute (.Name x xp) "pop" apos) [b] [] cpos) (dPopF i) (tBM X.K "list" rPopAt (tVar i) (tCons (tC (.int 0)) tNil)) := by
  refine ⟨pe_bm PySem.F.plainAttrs_list PySem.F.slot_list_pop PySem.F.type_list_pop mt_popAt hv (pa_cons hb pa_nil hs) hbase hfew hline hs, fun B S H env σ Q Qx Qv s q xk k => ?_⟩
  unfold dPopF at q
  split at q
  · rename_i d l c
    obtain ⟨p, vs, hp, p1, p2, p3, p4⟩ := s.own i _ c
    cases p4 with
    | cons v2 r =>
      rename_i v vs'
      refine ⟨.ref p, hp, .inl ⟨rfl, _, SqL.of p3⟩, ?_⟩
      refine ⟨p, v :: vs', 0, 0, v, rfl, rfl, p3, by decide, by decide, ?_, rfl, ?_⟩
      · unfold seqIndex?
        simp
      · exact k v d _ S _ (s.put c hp (vs' := vs') r) v2 q
  · exact q.elim
theorem dp_int (hd : DP X a m ta) (hg : Gl X "int") (hm : X.mg "int" = none) (hv : bootBuiltins "int" = some (.type "int"))
    (he : starEach (a :: []) X.env = (false, eval a X.env) :: starEach [] X.env := by rfl) (hpl : (backTo pos (starEach [] X.env)).any (·.1) = false := by rfl) :
    DP X (.Call (.Name "int" p) [a] [] pos) (dPInt m) (tCB rInt (tCons ta tNil)) := by
  refine ⟨pe_callTy call_intA hg hm hv (pa_cons hd.1 pa_nil he) (by decide) (by decide) he hpl, fun B S H env σ Q Qx Qv s q xk k => ?_⟩
  refine hd.2 B S H env σ _ _ _ s q xk fun v d H1 S1 env1 s1 r1 q1 => ?_
  refine cd_int S1 H1 [v] [d] _ _ s1.ex (.cons (.inl r1) .nil) q1 fun u H2 S2 r n q2 => ?_
  cases r with
  | val d' => exact k u d' H2 S2 env1 (s1.nw n.nw) n.2 q2
  | own l => exact q2.elim
  | brw i l => exact q2.elim
  | pool => exact q2.elim
/-! ### statements with such -/
def dSetP (i : Nat) (m : PM) : DSM := fun E env => m env (fun env' d => E.nx (env'.set i (some (.val d)))) E.xc
def dRetP (m : PM) : DSM := fun E env => m env (fun env' d => E.rt env' (.val d)) E.xc
def dAsgP (g : DGM) (m : PM) : DSM := fun E env => m env (fun env' d => g d env' E.nx) E.xc
def dAppP (j : Nat) (m : PM) : DSM := fun E env => (∃ l0, Has env j (.own l0)) ∧ m env (fun env' d => match env'[j]? with
  | some (some (.own l)) => l.length < sizeLine ∧ E.nx (env'.set j (some (.own (l ++ [d]))))
  | _ => False) E.xc
theorem ds_setP {pos' : Pos} (ha : DP X a m ta) (hN : X.N.Nodup) (hi : X.N[i]? = some x) (hx : Loc X.env.scope x) (hs : swapsWith a (some (.Name x pos')) pos.line X.env = pure false := by rfl)
    (hf : X.fn x = true ∨ X.env.scope.names.lookup x = some .local := by first | exact .inl rfl | exact .inr rfl | assumption) : DS X (.Assign [.Name x pos'] a pos) (dSetP i m) (tAsg ta (gName i)) := by
  refine ⟨ps_set hN hi hx ha.1 hs hf, fun B S H env σ E D s q e => ?_⟩
  exact ha.2 B S H env σ _ _ _ s q (e.xc σ) fun v d H' S' env' s' r q' => e.nx S' H' _ _ (s'.storeD r) q'
theorem ds_retP (ha : DP X a m ta) : DS X (.Return (some a) pos) (dRetP m) (tRet ta) := by
  refine ⟨ps_ret ha.1, fun B S H env σ E D s q e => ?_⟩
  exact ha.2 B S H env σ _ _ _ s q (e.xc σ) fun v d H' S' env' s' r q' => e.rt S' H' env' σ (.val d) v s' r q'
theorem ds_asgP {tg : Expr} {g : DGM} {tg1 : TG} (ha : DP X a m ta) (hg : DG X tg g tg1) (hs : swapsWithSole [tg] a pos.line X.env = pure false := by rfl) (hw : swappedStores [tg] a X.env = pure none := by rfl)
    (h1 : (assignEach [tg] X.env).map (·.2) = [assign tg X.env] := by rfl) : DS X (.Assign [tg] a pos) (dAsgP g m) (tAsg ta tg1) := by
  refine ⟨ps_asg ha.1 hg.1 hs hw h1, fun B S H env σ E D s q e => ?_⟩
  exact ha.2 B S H env σ _ _ _ s q (e.xc σ) fun v d H' S' env' s' r q' => hg.2 B S' H' env' σ v d _ _ s' r q' fun env2 σ2 s2 q2 => e.nx S' H' env2 σ2 s2 q2
theorem ds_appP (hv : PE X (.Name x xp) (tVar j)) (ha : DP X a m ta)
    (hbase : attributeBase (.Name x xp) "append" X.env (eval (.Name x xp) X.env) = eval (.Name x xp) X.env := by rfl)
    (hfew : ((backTo cpos (starEach (a :: []) X.env)).all (fun x => !x.1) && (backToKw cpos (keywordEach [] X.env)).all (fun x => x.1.isSome)
      && decide ((a :: []).length + ([] : List Keyword).length + (if ([] : List Keyword).isEmpty then 0 else 1) < 30)) = true := by rfl)
    (hline : (apos.endLine == cpos.line) = true := by rfl) (hs : starEach (a :: []) X.env = (false, eval a X.env) :: starEach [] X.env := by rfl) (hplain : (backTo cpos (starEach [] X.env)).any (·.1) = false := by rfl)
    (hsw : swapsWith (.Call (.Attribute (.Name x xp) "append" apos) [a] [] cpos) none pos.line X.env = pure false := by rfl) : DS X (.Expr (.Call (.Attribute (.Name x xp) "append" apos) [a] [] cpos) pos) (dAppP j m) (tDrop (tBM X.K "list" rAppend (tVar j) (tCons ta tNil))) := by
  refine ⟨ps_expr (pe_bm PySem.F.plainAttrs_list PySem.F.slot_list_append PySem.F.type_list_append mt_append hv (pa_cons ha.1 pa_nil hs) hbase hfew hline hs hplain) hsw, fun B S H env σ E D s q e => ?_⟩
  obtain ⟨⟨l0, c0⟩, q⟩ := q
  obtain ⟨p, vs, hp, p1, p2, p3, p4⟩ := s.own j l0 c0
  refine ⟨.ref p, hp, .inl ⟨rfl, _, SqL.of p3⟩, ?_⟩
  refine ha.2 B S H env σ _ _ _ s q (e.xc σ) fun v d H' S' env' s' r q' => ?_
  split at q'
  · rename_i l c
    obtain ⟨p', ws, y1, y2, y3, y4, y5⟩ := s'.own j l c
    cases Slt.ref hp y1
    refine ⟨p, ws, v, rfl, rfl, y4, by rw [y5.length]; exact q'.1, ?_⟩
    exact e.nx S' _ _ σ (s'.put c hp (y5.append (.cons r .nil))) q'.2
  · exact q'.elim
/-! ### xs.extend(list) -/
def dExt (i : Nat) (m : DM) : DSM := fun E env => (∃ l0, Has env i (.own l0)) ∧ m env fun env' r => match r.data, env'[i]? with
  | .lst l2, some (some (.own l)) => l.length + l2.length ≤ sizeLine ∧ E.nx (env'.set i (some (.own (l ++ l2))))
  | _, _ => False
theorem ds_ext {ma : DM} (hv : PE X (.Name x xp) (tVar i)) (ha : DE X a ma ta)
    (hbase : attributeBase (.Name x xp) "extend" X.env (eval (.Name x xp) X.env) = eval (.Name x xp) X.env := by rfl)
    (hfew : ((backTo cpos (starEach (a :: []) X.env)).all (fun x => !x.1) && (backToKw cpos (keywordEach [] X.env)).all (fun x => x.1.isSome)
      && decide ((a :: []).length + ([] : List Keyword).length + (if ([] : List Keyword).isEmpty then 0 else 1) < 30)) = true := by rfl)
    (hline : (apos.endLine == cpos.line) = true := by rfl) (hs : starEach (a :: []) X.env = (false, eval a X.env) :: starEach [] X.env := by rfl) (hplain : (backTo cpos (starEach [] X.env)).any (·.1) = false := by rfl)
    (hsw : swapsWith (.Call (.Attribute (.Name x xp) "extend" apos) [a] [] cpos) none pos.line X.env = pure false := by rfl) : DS X (.Expr (.Call (.Attribute (.Name x xp) "extend" apos) [a] [] cpos) pos) (dExt i ma) (tDrop (tBM X.K "list" rExtend (tVar i) (tCons ta tNil))) := by
  refine ⟨ps_expr (pe_bm PySem.F.plainAttrs_list PySem.F.slot_list_extend PySem.F.type_list_extend mt_extend hv (pa_cons ha.1 pa_nil hs) hbase hfew hline hs hplain) hsw, fun B S H env σ E D s q e => ?_⟩
  obtain ⟨⟨l0, c0⟩, q⟩ := q
  obtain ⟨p, vs, hp, p1, p2, p3, p4⟩ := s.own i l0 c0
  refine ⟨.ref p, hp, .inl ⟨rfl, _, SqL.of p3⟩, ?_⟩
  refine ha.2 B S H env σ _ _ s q fun v H' S' env' r z q' => ?_
  have zl := z.look1
  split at q'
  · rename_i l2 l c1 c
    rw [c1] at zl
    obtain ⟨b, zs, rfl, b1, b2⟩ := zl.lstH z.sr.ex
    obtain ⟨p', ws, y1, y2, y3, y4, y5⟩ := z.sr.own i l c
    cases Slt.ref hp y1
    refine ⟨p, b, ws, zs, rfl, rfl, y4, b1, by rw [y5.length, b2.length]; exact q'.1, ?_⟩
    exact e.nx S' _ _ σ (z.sr.put c hp (y5.append b2)) q'.2
  · exact q'.elim
end
end DL
end

section
set_option Elab.async false
set_option linter.all false
set_option maxRecDepth 100000
set_option maxHeartbeats 4000000
namespace HT
open PySem PySem.Spec PyProof.Rows
section
variable {prog : Program} {w : World} {A : Around} {E : Value → Shared → Prop} {s : Shared}
theorem turned_applied {sl : Addr} {vl vu vs : Value} {n : Nat} {Q : Int × Int × Nat → Shared → Prop} (hs : s.heap.IsSliceOf sl vl vu vs) (pl : IsPart vl none) (pu : IsPart vu none) (ps : IsPart vs (some (-1)))
    (h : Q ((n : Int) - 1, -1, n) s) : wpAny (model prog w) A (Builtin.Slice.sliceApplied (.ref sl) (pure (n : Int))) Q E s := by
  obtain ⟨os, hos, hcs, hds⟩ := id hs
  unfold Builtin.Slice.sliceApplied Builtin.Slice.sliceFields
  refine wpAny_bind (wpAny_bind (wpAny_field hos hds (x := vl) rfl (wpAny_bind (wpAny_field hos hds (x := vu) rfl (wpAny_bind (wpAny_field hos hds (x := vs) rfl (wpAny_pure ?_)))))))
  refine wpAny_bind (slicePart_ ps ?_)
  show wpAny _ _ (if ((-1 : Int) == 0) = true then _ else _) _ _ s
  rw [if_neg (by decide)]
  refine wpAny_bind (slicePart_ pl (wpAny_bind (slicePart_ pu (wpAny_bind (wpAny_pure ?_)))))
  have e1 : Builtin.Slice.sliceAdjust none none (-1) (n : Int) = ((n : Int) - 1, -1) := by
    unfold Builtin.Slice.sliceAdjust
    rfl
  have e2 : Builtin.Slice.slicePlaces ((n : Int) - 1) (-1) (-1) = n := by
    unfold Builtin.Slice.slicePlaces
    have h1 : ¬ ((-1 : Int) > 0) := by decide
    simp only [h1, if_false]
    by_cases c : (n : Int) - 1 > -1
    · rw [if_pos c, show (- -1 : Int) = 1 by decide, Int.ediv_one]
      omega
    · rw [if_neg c]
      omega
  show wpAny _ _ (match Builtin.Slice.sliceAdjust none none (-1) (n : Int) with | (lo, hi) => pure (lo, (-1 : Int), Builtin.Slice.slicePlaces lo hi (-1))) _ _ s
  rw [e1]
  show wpAny _ _ (pure ((n : Int) - 1, (-1 : Int), Builtin.Slice.slicePlaces ((n : Int) - 1) (-1) (-1))) _ _ s
  rw [e2]
  exact wpAny_pure h
theorem pick_same {α β : Type} {f g : α → Option β} : ∀ {l : List α}, (∀ k, k ∈ l → f k = g k) → l.filterMap f = l.filterMap g
  | [], _ => rfl
  | a :: l, h => by
    rw [List.filterMap_cons, List.filterMap_cons, h a (List.mem_cons_self ..), pick_same fun k hk => h k (List.mem_cons_of_mem _ hk)]
theorem turned_pick (xs : Array Value) : ((List.range xs.size).filterMap fun (k : Nat) => xs[((xs.size : Int) - 1 + (k : Int) * -1).toNat]?).toArray = xs.toList.reverse.toArray := by
  have e : (List.range xs.size).filterMap (fun (k : Nat) => xs[((xs.size : Int) - 1 + (k : Int) * -1).toNat]?) = ((List.range xs.size).map fun k => xs.size - 1 - k).filterMap (xs[·]?) := by
    rw [List.filterMap_map]
    apply pick_same
    intro k hk
    have hk := List.mem_range.mp hk
    have : ((xs.size : Int) - 1 + (k : Int) * -1).toNat = xs.size - 1 - k := by omega
    show xs[((xs.size : Int) - 1 + (k : Int) * -1).toNat]? = xs[xs.size - 1 - k]?
    rw [this]
  rw [e, PySem.W.krv_range, List.filterMap_reverse, PySem.W.krv_all]
theorem turned_tuple {t sl : Addr} {items : Array Value} {vl vu vs : Value} {Q : Value → Shared → Prop} (ht : IsTup s.heap t items) (hs : s.heap.IsSliceOf sl vl vu vs) (pl : IsPart vl none) (pu : IsPart vu none) (ps : IsPart vs (some (-1)))
    (h : Q (.ref s.heap.objs.size) { s with heap := s.heap.push { cls := .type "tuple", data := .seq items.toList.reverse.toArray } })
    (hsz : items.size ≤ sizeLine) : wpAny (model prog w) A (getItem (.ref t) (.ref sl)) Q E s := by
  have hrev : sizeOk (.seq items.toList.reverse.toArray) := by
    show items.toList.reverse.toArray.size ≤ sizeLine
    rw [List.size_toArray, List.length_reverse, Array.length_toList]
    exact hsz
  obtain ⟨os, hos, hcs, hds⟩ := id hs
  have hTs : s.TypeIs (.ref sl) "slice" := ⟨os, hos, hcs⟩
  unfold getItem
  try with_reducible refine wpAny_holding ?_
  first | refine wpAny_bind (wpAny_pure ?_) | skip
  refine wpAny_bind (wpAny_sequenceKey ht.typeIs (by decide) ?_)
  refine wpAny_bind (wpAny_callSpecial?_slot (name := Str.ofString "__getitem__") ht.typeIs PyProof.Rows.slot_tuple_getitem
    (wpAny_call_entry PyProof.Rows.slot_tuple_getitem ht.typeIs entry_tuple_getitem ?_ (args_tuple_getitem _ _)))
  show wpAny _ _ (Builtin.Tuple.tupleItemsOf (.ref t) >>= _) _ _ s
  refine wpAny_bind (tupleItemsOf_ ht ?_)
  refine wpAny_bind (wpAny_typeOf hTs ?_)
  rw [if_pos (by decide)]
  refine wpAny_bind (turned_applied hs pl pu ps ?_)
  have hno : ¬ (((items.size : Int) - 1 == 0 && (-1 : Int) == 1 && items.size == items.size) = true) := by
    intro q
    rw [Bool.and_eq_true, Bool.and_eq_true] at q
    exact absurd (eq_of_beq q.1.2) (by decide)
  show wpAny _ _ (if ((items.size : Int) - 1 == 0 && (-1 : Int) == 1 && items.size == items.size) = true then _ else _) _ _ s
  rw [if_neg hno, turned_pick]
  first
    | exact wpAny_bind (m := Builtin.Tuple.tupleExact _) (wpAny_newObj_type (wpAny_pure ⟨_, rfl, wpAny_pure h⟩) hrev)
    | exact wpAny_bind (m := Builtin.Tuple.tupleExact _) (wpAny_newObj_type (wpAny_bind (wpAny_pure (wpAny_pure ⟨_, rfl, wpAny_pure h⟩))) hrev)
    | exact wpAny_bind (wpAny_bind (m := Builtin.Tuple.tupleExact _) (wpAny_newObj_type (wpAny_pure (wpAny_pure ⟨_, rfl, wpAny_pure h⟩)) hrev))
    | exact wpAny_bind (wpAny_bind (m := Builtin.Tuple.tupleExact _) (wpAny_newObj_type (wpAny_pure ⟨_, rfl, wpAny_pure h⟩) hrev))
end
end HT
namespace PySem.AutoSeq1
theorem extendByTuple (l b : Addr) (items items2 : Array Value) (n n2 : Nat) (dd : Option Addr) (sl : Array (Option Value)) (h0 : ¬(!items.isEmpty && Builtin.List.listTooLong (items.size + items2.size)) = true) (h1 : items.size ≤ sizeLine) (h2 : items.size + items2.size ≤ sizeLine + 1) :
    Meets (Builtin.«list.extend» ⟨[.ref l, .ref b], []⟩) (fun _ R s => s.heap.get? l = some { cls := .type "list", dict := none, data := .seq items n, slots := #[] } ∧ s.heap.get? b = some { cls := .type "tuple", dict := dd, data := .seq items2 n2, slots := sl } ∧ R (.ok (.ret Value.none)) { s with heap := s.heap.update l (Obj.mapSeq fun x => x ++ items2), toks := s.toks }) :=
  .of_wp fun prog w A R s h => by
    obtain ⟨hp, g, d, tk, os⟩ := s
    obtain ⟨hl, hb, h⟩ := h
    have f1 := idx_int
    have f2 := sub_tuple_tuple
    have f3 := sub_list_list
    have f4 := sub_tuple_list
    have f5 := sub_list_tuple
    have hz' : (items ++ items2).size ≤ sizeLine + 1 := by rw [Array.size_append]; exact h2
    wp_walk using (wpAny_updateSeq hl rfl (hz := h1) (_hz' := hz')), wpAny_loadPart' hl, wpAny_loadPart' hb
    exact ⟨_, rfl, h⟩
end PySem.AutoSeq1
end

section
set_option Elab.async false
set_option linter.all false
set_option maxRecDepth 100000
set_option maxHeartbeats 4000000
namespace DL
open PySem PySem.Spec PyProof.Rows L2
open Evl (Ex)
section
variable {X : Cx}
/-- a tuple from its end -/
def tRevT (K : PySem.W.Frag) (te : TE) : TE := fun σ H Q => te σ H fun x H1 => ∃ a xs, x = .ref a ∧ SqT K H1 a xs ∧ ∀ p, H1 p = none → Q (.ref p) (upd H1 p (.tup xs.reverse))
theorem pe_revT {e : Expr} {te : TE} {k : Nat} {p1 p2 p3 pos : Pos} (he : PE X e te) : PE X (.Subscript e (.Slice none none (some (.UnaryOp .USub (.Constant (.int 1) k p1) p2)) p3) pos) (tRevT X.K te) := by
  refine ⟨fun pins s σ H Q I h => ?_⟩
  refine Subscript_ (thn (he.run pins s σ H _ I h) fun v s1 ⟨x, H1, I1, r1, a, xs, ex, hx, q⟩ => ?_)
  subst ex
  cases r1
  have step : PO X (some (.UnaryOp .USub (.Constant (.int 1) k p1) p2)) (tPart (tUn (rU fun i => .int (-i)) (tC (.int 1)))) := po_some (pe_un un_neg pe_int)
  refine wpAny_Slice (thn (po_none.run pins s1 σ H1 (fun o Hx => o = none ∧ Hx = H1) I1 ⟨rfl, rfl⟩) fun vl s2 ⟨l, H2, I2, pl, y1, y2⟩ => ?_)
  subst y1 y2
  refine thn (po_none.run pins s2 σ H2 (fun o Hx => o = none ∧ Hx = H2) I2 ⟨rfl, rfl⟩) fun vu s3 ⟨u, H3, I3, pu, y3, y4⟩ => ?_
  subst y3 y4
  refine thn (step.run pins s3 σ H3 (fun o Hx => o = some (-1) ∧ Hx = H3) I3 ⟨1, rfl, -1, rfl, rfl, rfl⟩) fun vs s4 ⟨o, H4, I4, ps, y5, y6⟩ => ?_
  subst y5 y6
  have I5 : Inv X pins σ H4 { s4 with heap := s4.heap.push { cls := .type "slice", data := .fields #[vl, vu, vs] } } := I4.kept (t' := s4.toks) fun b ob z => Heap.get?_push_of_some _ z
  obtain ⟨its, r, ht, hz⟩ := I5.tuple hx
  have hl := r.length
  show wpAny (model X.prog X.w) X.A (subscriptTail e (.Slice none none (some (.UnaryOp .USub (.Constant (.int 1) k p1) p2)) p3) (.ref a) (.ref s4.heap.objs.size)) (EP X pins σ Q) X.xe _
  refine tail_any (ops := [.ref a, .ref s4.heap.objs.size]) ht.typeIs (PyProof.Rows.slot_tuple_getitem.lookup) ?_ (by with_unfolding_all rfl)
  refine HT.turned_tuple ht (Heap.IsSliceOf.new _ vl vu vs) pl pu ps ?_ (by rw [List.size_toArray]; omega)
  refine ⟨.ref _, _, I5.laid (t' := s4.toks) (o := .tup xs.reverse) (fun b ob z => Heap.get?_push_of_some _ z) (Nat.le_refl _) ?_, rfl, q _ (I5.hok.fresh (Nat.le_refl _))⟩
  exact ⟨by rw [List.length_reverse]; exact hz, _, r.reverse, IsTup.new _ _⟩
def rExtTup (K : PySem.W.Frag) : V → List V → Hp → VK → Prop := fun x vs H Q => ∃ l b xs zs, x = .ref l ∧ vs = [.ref b] ∧ H l = some (.lst xs) ∧ SqT K H b zs ∧ xs.length + zs.length ≤ sizeLine ∧ Q .non (upd H l (.lst (xs ++ zs)))
theorem mt_extTup : MtM X "list.extend" (rExtTup X.K) := by
  intro pins s σ H x vs v us Q I rx rv h
  obtain ⟨l, b, xs, zs, rfl, rfl, hH, hB, hz, q⟩ := h
  cases rx
  obtain ⟨u, rfl, ru⟩ := rv.one
  cases ru
  obtain ⟨z, its, n, r, hl, e⟩ := I.lstM hH
  obtain ⟨its2, r2, ⟨⟨cls, dd, data, sl⟩, e2, hc, n2, hd⟩, z2⟩ := I.tuple hB
  simp only at hc hd
  subst hc hd
  have hl2 := r2.length
  have hsz : its.toArray.size + its2.toArray.size ≤ sizeLine := by rw [List.size_toArray, List.size_toArray]; omega
  have hlong : ¬ (!its.toArray.isEmpty && Builtin.List.listTooLong (its.toArray.size + its2.toArray.size)) = true := by
    rw [notLongL hsz, Bool.and_false]
    exact Bool.false_ne_true
  refine call_meets PySem.F.slot_list_extend ⟨_, e, rfl⟩ PySem.F.entry_list_extend (PySem.F.args_list_extend_2 _ _)
    (AutoSeq1.extendByTuple l b its.toArray its2.toArray n n2 dd sl hlong (by rw [List.size_toArray]; omega) (by omega)) ⟨e, e2, ?_⟩
  refine ⟨.non, _, I.lset (its' := its ++ its2) hH e (by simp) (r.append r2) ?_, rfl, q⟩
  rw [List.length_append]
  omega
/-- d[::-1] of a list, of a tuple -/
def dRevT (m : DM) : DM := fun env Q => m env fun env' r => match r.data with
  | .tup l => Q env' (.val (.tup l.reverse))
  | _ => False
def dRevL (m : DM) : DM := fun env Q => m env fun env' r => match r.data with
  | .lst l => Q env' (.own l.reverse)
  | _ => False
theorem de_revT {e : Expr} {m : DM} {te : TE} {k : Nat} {p1 p2 p3 pos : Pos} (he : DE X e m te) : DE X (.Subscript e (.Slice none none (some (.UnaryOp .USub (.Constant (.int 1) k p1) p2)) p3) pos) (dRevT m) (tRevT X.K te) := by
  refine ⟨pe_revT he.1, fun B S H env σ Q Qv s q k => he.2 B S H env σ _ _ s q fun v H1 S1 env1 r z q1 => ?_⟩
  have zl := z.look1
  split at q1
  · rename_i l c
    rw [c] at zl
    obtain ⟨a, xs, rfl, b1, b2⟩ := zl.tup z.sr.ex
    exact ⟨a, xs, rfl, b1, fun p hp => k _ _ _ env1 (.val _) (.fin z.t (q := .val _) (nwr_tup z.sr.ex hp b2.reverse)) q1⟩
  · exact q1.elim
theorem de_revL {e : Expr} {m : DM} {te : TE} {k : Nat} {p1 p2 p3 pos : Pos} (he : DE X e m te) : DE X (.Subscript e (.Slice none none (some (.UnaryOp .USub (.Constant (.int 1) k p1) p2)) p3) pos) (dRevL m) (tRevL X.K te) := by
  refine ⟨pe_revL he.1, fun B S H env σ Q Qv s q k => he.2 B S H env σ _ _ s q fun v H1 S1 env1 r z q1 => ?_⟩
  have zl := z.look1
  split at q1
  · rename_i l c
    rw [c] at zl
    obtain ⟨a, xs, rfl, b1, b2⟩ := zl.lst z.sr.ex
    exact ⟨a, xs, rfl, b1, fun p hp => k _ _ _ env1 (.own _) (.fin z.t (q := .own _) (nwr_lst z.sr.ex hp b2.reverse)) q1⟩
  · exact q1.elim
def rExtA (K : PySem.W.Frag) : V → List V → Hp → VK → Prop := fun x vs H Q => rExtend x vs H Q ∨ rExtTup K x vs H Q
theorem mt_extA : MtM X "list.extend" (rExtA X.K) := by
  intro pins s σ H x vs v us Q I rx rv h
  rcases h with h | h
  · exact mt_extend pins s σ H x vs v us Q I rx rv h
  · exact mt_extTup pins s σ H x vs v us Q I rx rv h
/-- xs.extend(..) -/
def dExtA (i : Nat) (m : DM) : DSM := fun E env => (∃ l0, Has env i (.own l0)) ∧ m env fun env' r => match r.data, env'[i]? with
  | .lst l2, some (some (.own l)) => l.length + l2.length ≤ sizeLine ∧ E.nx (env'.set i (some (.own (l ++ l2))))
  | .tup l2, some (some (.own l)) => l.length + l2.length ≤ sizeLine ∧ E.nx (env'.set i (some (.own (l ++ l2))))
  | _, _ => False
theorem ds_extA {i : Nat} {x : Str} {xp apos cpos pos : Pos} {a : Expr} {ta : TE} {ma : DM} (hv : PE X (.Name x xp) (tVar i)) (ha : DE X a ma ta)
    (hbase : attributeBase (.Name x xp) "extend" X.env (eval (.Name x xp) X.env) = eval (.Name x xp) X.env := by rfl)
    (hfew : ((backTo cpos (starEach (a :: []) X.env)).all (fun x => !x.1) && (backToKw cpos (keywordEach [] X.env)).all (fun x => x.1.isSome)
      && decide ((a :: []).length + ([] : List Keyword).length + (if ([] : List Keyword).isEmpty then 0 else 1) < 30)) = true := by rfl)
    (hline : (apos.endLine == cpos.line) = true := by rfl) (hs : starEach (a :: []) X.env = (false, eval a X.env) :: starEach [] X.env := by rfl) (hplain : (backTo cpos (starEach [] X.env)).any (·.1) = false := by rfl)
    (hsw : swapsWith (.Call (.Attribute (.Name x xp) "extend" apos) [a] [] cpos) none pos.line X.env = pure false := by rfl) : DS X (.Expr (.Call (.Attribute (.Name x xp) "extend" apos) [a] [] cpos) pos) (dExtA i ma) (tDrop (tBM X.K "list" (rExtA X.K) (tVar i) (tCons ta tNil))) := by
  refine ⟨ps_expr (pe_bm PySem.F.plainAttrs_list PySem.F.slot_list_extend PySem.F.type_list_extend mt_extA hv (pa_cons ha.1 pa_nil hs) hbase hfew hline hs hplain) hsw, fun B S H env σ E D s q e => ?_⟩
  obtain ⟨⟨l0, c0⟩, q⟩ := q
  obtain ⟨p, vs, hp, p1, p2, p3, p4⟩ := s.own i l0 c0
  refine ⟨.ref p, hp, .inl ⟨rfl, _, SqL.of p3⟩, ?_⟩
  refine ha.2 B S H env σ _ _ s q fun v H' S' env' r z q' => ?_
  have zl := z.look1
  split at q'
  · rename_i l2 l c1 c
    rw [c1] at zl
    obtain ⟨b, zs, rfl, b1, b2⟩ := zl.lstH z.sr.ex
    obtain ⟨p', ws, y1, y2, y3, y4, y5⟩ := z.sr.own i l c
    cases Slt.ref hp y1
    refine .inl ⟨p, b, ws, zs, rfl, rfl, y4, b1, by rw [y5.length, b2.length]; exact q'.1, ?_⟩
    exact e.nx S' _ _ σ (z.sr.put c hp (y5.append b2)) q'.2
  · rename_i l2 l c1 c
    rw [c1] at zl
    obtain ⟨b, zs, rfl, b1, b2⟩ := zl.tup z.sr.ex
    obtain ⟨p', ws, y1, y2, y3, y4, y5⟩ := z.sr.own i l c
    cases Slt.ref hp y1
    refine .inr ⟨p, b, ws, zs, rfl, rfl, y4, b1, by rw [y5.length, b2.length]; exact q'.1, ?_⟩
    exact e.nx S' _ _ σ (z.sr.put c hp (y5.append b2)) q'.2
  · exact q'.elim
end
end DL
end

section
set_option Elab.async false
set_option linter.all false
set_option maxRecDepth 100000
set_option maxHeartbeats 4000000
namespace DL
open PySem PySem.Spec PyProof.Rows L2
open Evl (Ex)
section
variable {X : Cx}
/-- a list or a tuple, from its end -/
def tRevA (K : PySem.W.Frag) (te : TE) : TE := fun σ H Q => te σ H fun x H1 => ∃ a xs, x = .ref a ∧ ((SqT K H1 a xs ∧ ∀ p, H1 p = none → Q (.ref p) (upd H1 p (.tup xs.reverse))) ∨ (SqL K H1 a xs ∧ ∀ p, H1 p = none → Q (.ref p) (upd H1 p (.lst xs.reverse))))
theorem pe_revA {e : Expr} {te : TE} {k : Nat} {p1 p2 p3 pos : Pos} (he : PE X e te) : PE X (.Subscript e (.Slice none none (some (.UnaryOp .USub (.Constant (.int 1) k p1) p2)) p3) pos) (tRevA X.K te) := by
  refine ⟨fun pins s σ H Q I h => ?_⟩
  refine Subscript_ (thn (he.run pins s σ H _ I h) fun v s1 ⟨x, H1, I1, r1, a, xs, ex, hx⟩ => ?_)
  subst ex
  cases r1
  have step : PO X (some (.UnaryOp .USub (.Constant (.int 1) k p1) p2)) (tPart (tUn (rU fun i => .int (-i)) (tC (.int 1)))) := po_some (pe_un un_neg pe_int)
  refine wpAny_Slice (thn (po_none.run pins s1 σ H1 (fun o Hx => o = none ∧ Hx = H1) I1 ⟨rfl, rfl⟩) fun vl s2 ⟨l, H2, I2, pl, y1, y2⟩ => ?_)
  subst y1 y2
  refine thn (po_none.run pins s2 σ H2 (fun o Hx => o = none ∧ Hx = H2) I2 ⟨rfl, rfl⟩) fun vu s3 ⟨u, H3, I3, pu, y3, y4⟩ => ?_
  subst y3 y4
  refine thn (step.run pins s3 σ H3 (fun o Hx => o = some (-1) ∧ Hx = H3) I3 ⟨1, rfl, -1, rfl, rfl, rfl⟩) fun vs s4 ⟨o, H4, I4, ps, y5, y6⟩ => ?_
  subst y5 y6
  have I5 : Inv X pins σ H4 { s4 with heap := s4.heap.push { cls := .type "slice", data := .fields #[vl, vu, vs] } } := I4.kept (t' := s4.toks) fun b ob z => Heap.get?_push_of_some _ z
  show wpAny (model X.prog X.w) X.A (subscriptTail e (.Slice none none (some (.UnaryOp .USub (.Constant (.int 1) k p1) p2)) p3) (.ref a) (.ref s4.heap.objs.size)) (EP X pins σ Q) X.xe _
  rcases hx with ⟨hx, q⟩ | ⟨hx, q⟩
  · obtain ⟨its, r, ht, hz⟩ := I5.tuple hx
    have hl := r.length
    refine tail_any (ops := [.ref a, .ref s4.heap.objs.size]) ht.typeIs (PyProof.Rows.slot_tuple_getitem.lookup) ?_ (by with_unfolding_all rfl)
    refine HT.turned_tuple ht (Heap.IsSliceOf.new _ vl vu vs) pl pu ps ?_ (by rw [List.size_toArray]; omega)
    refine ⟨.ref _, _, I5.laid (t' := s4.toks) (o := .tup xs.reverse) (fun b ob z => Heap.get?_push_of_some _ z) (Nat.le_refl _) ?_, rfl, q _ (I5.hok.fresh (Nat.le_refl _))⟩
    exact ⟨by rw [List.length_reverse]; exact hz, _, r.reverse, IsTup.new _ _⟩
  · obtain ⟨its, r, ht, hz⟩ := I5.list hx
    have hl := r.length
    refine tail_any (ops := [.ref a, .ref s4.heap.objs.size]) ht.isList.typeIs (PySem.slot_list_getitem.lookup) ?_ (by with_unfolding_all rfl)
    refine wpAny_getItem_list_slice ht.isList (Heap.IsSliceOf.new _ vl vu vs) pl pu ps (by decide) ?_ (by rw [List.size_toArray]; omega)
    rw [PySem.W.krv_pick]
    refine ⟨.ref _, _, I5.laid (t' := s4.toks) (o := .lst xs.reverse) (fun b ob z => Heap.get?_push_of_some _ z) (Nat.le_refl _) ?_, rfl, q _ (I5.hok.fresh (Nat.le_refl _))⟩
    exact ⟨by rw [List.length_reverse]; exact hz, _, 0, r.reverse, Heap.get?_push_size _ rfl⟩
def dRevA (m : DM) : DM := fun env Q => m env fun env' r => match r.data with
  | .tup l => Q env' (.val (.tup l.reverse))
  | .lst l => Q env' (.own l.reverse)
  | _ => False
theorem de_revA {e : Expr} {m : DM} {te : TE} {k : Nat} {p1 p2 p3 pos : Pos} (he : DE X e m te) : DE X (.Subscript e (.Slice none none (some (.UnaryOp .USub (.Constant (.int 1) k p1) p2)) p3) pos) (dRevA m) (tRevA X.K te) := by
  refine ⟨pe_revA he.1, fun B S H env σ Q Qv s q k => he.2 B S H env σ _ _ s q fun v H1 S1 env1 r z q1 => ?_⟩
  have zl := z.look1
  split at q1
  · rename_i l c
    rw [c] at zl
    obtain ⟨a, xs, rfl, b1, b2⟩ := zl.tup z.sr.ex
    exact ⟨a, xs, rfl, .inl ⟨b1, fun p hp => k _ _ _ env1 (.val _) (.fin z.t (q := .val _) (nwr_tup z.sr.ex hp b2.reverse)) q1⟩⟩
  · rename_i l c
    rw [c] at zl
    obtain ⟨a, xs, rfl, b1, b2⟩ := zl.lst z.sr.ex
    exact ⟨a, xs, rfl, .inr ⟨b1, fun p hp => k _ _ _ env1 (.own _) (.fin z.t (q := .own _) (nwr_lst z.sr.ex hp b2.reverse)) q1⟩⟩
  · exact q1.elim
end
end DL
end

section
set_option Elab.async false
set_option linter.all false
set_option maxRecDepth 100000
set_option maxHeartbeats 4000000
namespace DL
open PySem PySem.Spec PyProof.Rows L2
open Evl (Ex)
/-! ### a call whose last argument is a new list, handed over to be changed -/
def lose (H : Hp) (p : Addr) : Hp := fun a => if a = p then none else H a
theorem lose_ne {H : Hp} {p a : Addr} (h : a ≠ p) : lose H p a = H a := if_neg h
theorem lose_same {H : Hp} {p : Addr} : lose H p p = none := if_pos rfl
theorem lose_some {H : Hp} {p a : Addr} {o : HO} (h : lose H p a = some o) : a ≠ p ∧ H a = some o := by
  by_cases c : a = p
  · subst c
    rw [lose_same] at h
    cases h
  · rw [lose_ne c] at h
    exact ⟨c, h⟩
theorem SR.given {K : PySem.W.Frag} {B : Bs} {S H S' H' : Hp} {env : En} {σ : L2.St} {r : R} {v : V} {p : Addr} (s : SR K B S H env σ) (h1 : B.H0 p = none) (h2 : ¬ Ow B env σ p) (d : DRet K S (lose H p) B.pa S' H' r v) : SR K B S' H' env σ where
  ex0 := s.ex0.trans d.ex
  nw0 := fun a o h e => by
    have ne : a ≠ p := fun z => by rw [z, h1] at h; cases h
    by_cases c : B.pa = some a
    · exact (d.pool a c).1
    · exact d.nw a o ((lose_ne ne).trans (s.keep0 a o h c)) (s.nw0 a o h e)
  keep0 := fun a o h c => by
    have ne : a ≠ p := fun z => by rw [z, h1] at h; cases h
    exact d.keep a o ((lose_ne ne).trans (s.keep0 a o h c)) c
  old0 := fun a h => by
    by_cases ne : a = p
    · subst ne
      exact h1
    · exact s.old0 a ((lose_ne ne).symm.trans (d.old a h))
  len := s.len
  ex := d.sh
  val := fun i d' h => let ⟨v, h1, h2⟩ := s.val i d' h; ⟨v, h1, h2.mono d.ex⟩
  own := fun i l h => by
    obtain ⟨q, vs, k1, k2, k3, k4, k5⟩ := s.own i l h
    have ne : q ≠ p := fun z => h2 (.inr (.inl ⟨i, l, h, z ▸ k1⟩))
    have np : B.pa ≠ some q := fun e => by
      obtain ⟨_, o, z⟩ := s.pool q e
      rw [k3] at z
      cases z
    exact ⟨q, vs, k1, d.nw _ _ ((lose_ne ne).trans k4) k2, k3, d.keep _ _ ((lose_ne ne).trans k4) np, k5.mono d.ex⟩
  dis := s.dis
  fix := fun i q l h => by
    obtain ⟨k1, k2, k3, vs, k4, k5⟩ := s.fix i q l h
    have ne : q ≠ p := fun z => h2 (.inr (.inr ⟨i, l, z ▸ h⟩))
    have np : B.pa ≠ some q := fun e => by
      obtain ⟨_, o, z⟩ := s.pool q e
      rw [k3] at z
      cases z
    exact ⟨k1, d.nw _ _ ((lose_ne ne).trans k4) k2, k3, vs, d.keep _ _ ((lose_ne ne).trans k4) np, k5.mono d.ex⟩
  dfx := s.dfx
  dff := s.dff
  pin := fun a e => by
    have ne : a ≠ p := fun z => h2 (.inl (by rw [← z]; exact e))
    have k := d.pin a e
    rw [lose_ne ne] at k
    exact k.trans (s.pin a e)
  pl := s.pl
  pool := fun a h => let ⟨q, o⟩ := s.pool a h; ⟨d.pool a h, o⟩
/-- the last argument's list at p -/
structure Gift (K : PySem.W.Frag) (B : Bs) (Hs S H : Hp) (env : En) (σ : L2.St) (p : Addr) (l : List D) : Prop where
  s : S p = none
  b : B.H0 p = none
  o : ¬ Ow B env σ p
  n : Hs p = none
  at_ : ∃ ws, H p = some (.lst ws) ∧ Reps K S ws l
abbrev DLM := En → (En → List R → List D → Prop) → Prop
def DLA (X : Cx) (es : List Expr) (m : DLM) (t : TA) : Prop := PA X es t ∧ ∀ (B : Bs) (S H : Hp) (env : En) (σ : L2.St) (Q : En → List R → List D → Prop) (Qv : List V → Hp → Prop), SR X.K B S H env σ → m env Q →
  (∀ vs p H' S' env' rs l, TPo X.K B S H env σ S' H' env' → LkA X.K B S' H' vs rs → Gift X.K B H S' H' env' σ p l → vs.length + 1 = es.length → Q env' rs l → Qv (vs ++ [.ref p]) H') → t σ H Qv
def dEndO (m : DM) : DLM := fun env Q => m env fun env' r => match r with
  | .own l => Q env' [] l
  | _ => False
def dConsO (m : DM) (n : DLM) : DLM := fun env Q => m env fun env1 r => n env1 fun env2 rs l => Q env2 (r :: rs) l
/-- the function's meaning: of the values, and of the list that is handed over -/
abbrev FML := List R → List D → (R → Prop) → Prop
def spL (K : PySem.W.Frag) (n : Nat) (F : FML) : Sp := fun vs H Q _ => ∃ (S : Hp) (pa : Option Addr) (vs0 : List V) (p : Addr) (rs : List R) (l : List D) (Qd : R → Prop), vs = vs0 ++ [.ref p] ∧ Ex S H ∧ (∀ a, pa = some a → PoolAt S H a) ∧ ArgR K S pa vs0 rs ∧ vs.length = n ∧
  (S p = none ∧ pa ≠ some p ∧ ∃ ws, H p = some (.lst ws) ∧ Reps K S ws l) ∧ F rs l Qd ∧ ∀ v H' S' r, DRet K S (lose H p) pa S' H' r v → Qd r → Q v H'
def dCallL (F : FML) (n : DLM) : DM := fun env Q => n env fun env' rs l => argsOk rs = true ∧ F rs l fun r => match r with
  | .brw _ _ => False
  | r => Q env' r
section
variable {X : Cx} {a : Expr} {ma : DM} {ta : TE} {k : Nat} {f : Addr} {fd : FuncData} {ps : List Str} {F : FML} {x : Str} {p pos : Pos} {e : Expr} {es : List Expr} {n : DLM} {tn : TA} {np : Nat}
theorem dla_end (ha : DE X a ma ta) (hs : starEach (a :: []) X.env = (false, eval a X.env) :: starEach [] X.env := by rfl) : DLA X [a] (dEndO ma) (tCons ta tNil) := by
  refine ⟨pa_cons ha.1 pa_nil hs, fun B S H env σ Q Qv s q k => ?_⟩
  refine ha.2 B S H env σ _ _ s q fun v H1 S1 env1 r1 e1 q1 => ?_
  cases r1 with
  | own l =>
    obtain ⟨p, ws, rfl, z1, z2, z3, z4, z5, z6⟩ := e1.res
    exact k [] p H1 S1 env1 [] l e1.t .nil ⟨z1, z2, z4, z3, ws, z5, z6⟩ rfl q1
  | val d => exact q1.elim
  | brw i l => exact q1.elim
  | pool => exact q1.elim
theorem dla_cons (ha : DE X a ma ta) (hb : DLA X es n tn) (hs : starEach (a :: es) X.env = (false, eval a X.env) :: starEach es X.env := by rfl) : DLA X (a :: es) (dConsO ma n) (tCons ta tn) := by
  refine ⟨pa_cons ha.1 hb.1 hs, fun B S H env σ Q Qv s q k => ?_⟩
  refine ha.2 B S H env σ _ _ s q fun x H1 S1 env1 r1 e1 q1 => ?_
  refine hb.2 B S1 H1 env1 σ _ _ e1.sr q1 fun vs p H2 S2 env2 rs l e2 l2 g len2 q2 => ?_
  refine k (x :: vs) p H2 S2 env2 (r1 :: rs) l (e1.t.trans e2) (.cons (RepB.go e1 rfl e2) (fun d e => ?_) (fun e => ?_) l2) ⟨g.s, g.b, g.o, e1.go.old p g.n, g.at_⟩ (by rw [List.length_cons, List.length_cons]; omega) q2
  · subst e
    have := e1.res
    exact Rep.mono e2.go.ex this
  · subst e
    exact e1.res
theorem de_callL (hF : FnOk X.prog X.w X.K X.mg X.base CX0 k f fd ps (spL X.K np F)) (hr : Room k X.A) (hg : Gl X x) (hm : X.mg x = some (.ref f)) (hk : PySem.W.keepIn X.K (.ref f) = true) (hb : Binds X.K fd ps [])
    (ha : DLA X (e :: es) n tn) (hlen : (e :: es).length = np) (hdb : (x == ("__debug__" : Str)) = false := by decide) (he : starEach (e :: es) X.env = (false, eval e X.env) :: starEach es X.env := by rfl) (hpl : (backTo pos (starEach es X.env)).any (·.1) = false := by rfl) :
    DE X (.Call (.Name x p) (e :: es) [] pos) (dCallL F n) (tCall (spL X.K np F) [] E0 tn) := by
  refine ⟨pe_call hF hr hg hm hk hb .nil pass0 ha.1 hdb he hpl, fun B S H env σ Q Qv s q k => ha.2 B S H env σ _ _ s q fun vs p H1 S1 env1 rs l z lk g len q1 => ?_⟩
  show spL X.K np F ((vs ++ [.ref p]) ++ []) H1 Qv E0
  rw [List.append_nil]
  have hpa : B.pa ≠ some p := fun e => g.o (.inl e)
  refine ⟨S1, B.pa, vs, p, rs, l, _, rfl, z.sr.ex, fun a e => (z.sr.pool a e).1, lk.args q1.1, by rw [List.length_append]; exact len.trans hlen, ⟨g.s, hpa, g.at_⟩, q1.2, fun v H' S' r d qr => ?_⟩
  have s' := z.sr.given g.b g.o d
  have go : Go (Ow B env σ) S H S' H' := by
    refine ⟨z.go.ex.trans d.ex, fun a o h nz => ?_, fun a o h nz e => ?_, fun a h => ?_⟩
    · have ne : a ≠ p := fun c => by rw [c, g.n] at h; cases h
      exact d.keep a o ((lose_ne ne).trans (z.go.keep a o h nz)) fun e => nz (.inl e)
    · have ne : a ≠ p := fun c => by rw [c, g.n] at h; cases h
      exact d.nw a o ((lose_ne ne).trans (z.go.keep a o h nz)) (z.go.nw a o h nz e)
    · by_cases ne : a = p
      · subst ne
        exact g.n
      · exact z.go.old a ((lose_ne ne).symm.trans (d.old a h))
  have dr := d.ret
  cases r with
  | val d0 => exact k v H' S' env1 (.val d0) ⟨s', go, z.fz, dr⟩ qr
  | own l2 =>
    obtain ⟨p2, ws, rfl, h1, h2, h3, h4⟩ := dr
    by_cases ne : p2 = p
    · subst ne
      exact k _ H' S' env1 (.own l2) ⟨s', go, z.fz, p2, ws, rfl, h1, g.b, g.n, g.o, h3, h4⟩ qr
    · have h2' : H1 p2 = none := (lose_ne ne).symm.trans h2
      exact k _ H' S' env1 (.own l2) ⟨s', go, z.fz, p2, ws, rfl, h1, z.sr.hp0 h2', z.go.old p2 h2', z.sr.now h2', h3, h4⟩ qr
  | pool => exact k v H' S' env1 .pool ⟨s', go, z.fz, dr⟩ qr
  | brw i l2 => exact qr.elim
end
end DL
end

section
set_option Elab.async false
set_option linter.all false
set_option maxRecDepth 100000
set_option maxHeartbeats 4000000
namespace DL
open PySem PySem.Spec PyProof.Rows L2
open Evl (Ex)
/-! ### pool = ..: from here on the list is the pool -/
def plainE (env : En) : Bool := env.all fun n => match n with
  | none => true
  | some (.val _) => true
  | _ => false
theorem plainE_has {env : En} (h : plainE env = true) {i : Nat} {n : Nv} (k : Has env i n) : ∃ d, n = .val d := by
  have q := List.all_eq_true.mp h _ (List.mem_of_getElem? k)
  cases n with
  | val d => exact ⟨d, rfl⟩
  | own l => cases q
  | pool => cases q
  | fix p l => cases q
/-- only values are handed back -/
def onlyRt (E : DEn) : DEn := { nx := fun _ => False, rt := fun _ r => match r with
  | .val d => E.rt [] (.val d)
  | _ => False }
def dPool (i : Nat) (ma : DM) (m : DSM) : DSM := fun E env => ma env fun env' r => match r with
  | .own [.lst cs, .int pos, .int big, .int seed, .int cnt, .int bud] => (∃ ns : List Int, cs = ns.map D.int) ∧ 0 ≤ pos ∧ plainE env' = true ∧ m (onlyRt E) (env'.set i (some .pool))
  | _ => False
section
variable {X : Cx} {a : Expr} {ma : DM} {ta : TE} {i : Nat} {x : Str} {pos pos' : Pos} {rest : List Stmt} {m : DSM} {tm : TS}
theorem SR.toPool {K : PySem.W.Frag} {B : Bs} {S H : Hp} {env : En} {σ : L2.St} {p : Addr} {vs : List V} {cs : List Int} {q1 q2 q3 q4 q5 : Int} {i : Nat} (s : SR K B S H env σ) (hpl : plainE env = true) (h1 : S p = none) (h3 : H p = some (.lst vs))
    (r : Reps K S vs [.lst (cs.map D.int), .int q1, .int q2, .int q3, .int q4, .int q5]) (h0 : 0 ≤ q1) : SR K ⟨S, H, some p⟩ S H (env.set i (some .pool)) (σ.set i (some (.ref p))) := by
  have il : ∀ {j : Nat} {n : Nv}, Has (env.set i (some .pool)) j n → j < σ.length := fun {j n} h => by
    have q := (List.getElem?_eq_some_iff.mp h).1
    rw [List.length_set] at q
    exact s.len ▸ q
  have other : ∀ {j : Nat} {n : Nv}, Has (env.set i (some .pool)) j n → n ≠ .pool → j ≠ i ∧ Has env j n := fun {j n} h ne => by
    have c : j ≠ i := fun z => by
      subst z
      exact ne (Option.some.inj (set_self h)).symm
    exact ⟨c, set_other h c⟩
  refine ⟨Ex.refl _, fun _ _ _ e => e, fun _ _ e _ => e, fun _ e => e, by rw [List.length_set, List.length_set]; exact s.len, s.ex, fun j d h => ?_, fun j l h => ?_, fun j k l m q e1 e2 _ _ => ?_, fun j h => ?_, fun b e => ?_, fun j q l h => ?_, fun j k q l m e1 _ _ => ?_, fun j k q l m e1 _ => ?_, fun _ _ => rfl⟩
  · obtain ⟨c, h⟩ := other h (fun z => by cases z)
    obtain ⟨v, k1, k2⟩ := s.val j d h
    exact ⟨v, (sset_other c).mpr k1, k2⟩
  · obtain ⟨c, h⟩ := other h (fun z => by cases z)
    obtain ⟨d, z⟩ := plainE_has hpl h
    cases z
  · obtain ⟨c, h⟩ := other e1 (fun z => by cases z)
    obtain ⟨d, z⟩ := plainE_has hpl h
    cases z
  · by_cases c : j = i
    · subst c
      exact ⟨p, rfl, sset_self (il h)⟩
    · obtain ⟨d, z⟩ := plainE_has hpl (set_other h c)
      cases z
  · cases e
    refine ⟨⟨h1, ?_⟩, _, h3⟩
    cases r with
    | cons r0 r => cases r with
      | cons r1 r => cases r with
        | cons r2 r => cases r with
          | cons r3 r => cases r with
            | cons r4 r => cases r with
              | cons r5 r =>
                cases r
                cases r0 with
                | lst hl rl =>
                  cases r1
                  cases r2
                  cases r3
                  cases r4
                  cases r5
                  rw [rl.ints_inv] at hl
                  exact ⟨_, cs, q1, q2, q3, q4, q5, h3, hl, h0⟩
  · obtain ⟨c, h⟩ := other h (fun z => by cases z)
    obtain ⟨d, z⟩ := plainE_has hpl h
    cases z
  · obtain ⟨c, h⟩ := other e1 (fun z => by cases z)
    obtain ⟨d, z⟩ := plainE_has hpl h
    cases z
  · obtain ⟨c, h⟩ := other e1 (fun z => by cases z)
    obtain ⟨d, z⟩ := plainE_has hpl h
    cases z
theorem dss_pool (ha : DE X a ma ta) (hm : DSs X rest m tm) (hN : X.N.Nodup) (hi : X.N[i]? = some x) (hx : Loc X.env.scope x) (hs : swapsWith a (some (.Name x pos')) pos.line X.env = pure false := by rfl)
    (hf : X.fn x = true ∨ X.env.scope.names.lookup x = some .local := by first | exact .inl rfl | exact .inr rfl | assumption) : DSs X (.Assign [.Name x pos'] a pos :: rest) (dPool i ma m) (tSeq (tAsg ta (gName i)) tm) := by
  refine ⟨pss_cons (ps_set hN hi hx ha.1 hs hf) hm.1, fun B S H env σ E D s q e => ?_⟩
  refine ha.2 B S H env σ _ _ s q fun v H' S' env' r z q' => ?_
  have zr := z.res
  split at q'
  · rename_i cs q1 q2 q3 q4 q5
    obtain ⟨⟨ns, rfl⟩, k0, k1, k2⟩ := q'
    obtain ⟨p, vs, rfl, z1, z2, z3, z4, z5, z6⟩ := zr
    have s' := z.sr.toPool (i := i) k1 z1 z5 z6 k0
    refine hm.2 ⟨S', H', some p⟩ S' H' _ _ (onlyRt E) D s' k2 ?_
    have z0 := z.sr
    have back : ∀ {S2 H2 : Hp} {env2 : En} {σ2 : L2.St}, SR X.K ⟨S', H', some p⟩ S2 H2 env2 σ2 → SR X.K B S2 H2 [] [] := fun {S2 H2 env2 σ2} s2 => by
      have np : B.pa ≠ some p := fun e => by
        obtain ⟨_, o, w⟩ := z0.pool p e
        rw [z2] at w
        cases w
      have up : ∀ b o, B.H0 b = some o → b ≠ p := fun b o w c => by
        rw [c, z2] at w
        cases w
      refine ⟨z0.ex0.trans s2.ex0, fun b o h w => ?_, fun b o h w => ?_, fun b h => z0.old0 b (s2.old0 b h), rfl, s2.ex, fun j d h => ?_, fun j l h => ?_, fun j k l m q e1 _ _ _ => ?_, fun j h => ?_, fun b h => ?_, fun j q l h => ?_, fun j k q l m e1 _ _ => ?_, fun j k q l m e1 _ => ?_, fun b e => ?_⟩
      · by_cases c : B.pa = some b
        · obtain ⟨⟨w1, _⟩, o', w2⟩ := z0.pool b c
          obtain ⟨⟨_, l, cells, y1, y2, y3, y4, y5, y6, _⟩, _⟩ := z0.pool b c
          exact s2.nw0 b _ y6 w1
        · exact s2.nw0 b o (z0.keep0 b o h c) (z0.nw0 b o h w)
      · exact s2.keep0 b o (z0.keep0 b o h w) fun c => up b o h (by cases c; rfl)
      · cases (show (none : Option (Option Nv)) = some (some _) from h)
      · cases (show (none : Option (Option Nv)) = some (some _) from h)
      · cases (show (none : Option (Option Nv)) = some (some _) from e1)
      · cases (show (none : Option (Option Nv)) = some (some _) from h)
      · obtain ⟨⟨w1, l, cells, y1, y2, y3, y4, y5, y6, y7, y8⟩, o, y9⟩ := z0.pool b h
        exact ⟨⟨s2.nw0 b _ y6 w1, l, cells, y1, y2, y3, y4, y5, s2.keep0 b _ y6 fun c => up b o y9 (by cases c; rfl), s2.ex0 _ _ y7, y8⟩, o, y9⟩
      · cases (show (none : Option (Option Nv)) = some (some _) from h)
      · cases (show (none : Option (Option Nv)) = some (some _) from e1)
      · cases (show (none : Option (Option Nv)) = some (some _) from e1)
      · obtain ⟨⟨w1, l, cells, y1, y2, y3, y4, y5, y6, y7, y8⟩, o, y9⟩ := z0.pool b e
        rw [s2.keep0 b _ y6 fun c => up b o y9 (by cases c; rfl), ← z0.pin b e, y6]
    refine ⟨fun _ _ _ _ _ w => w.elim, fun S2 H2 env2 σ2 r2 v2 s2 w1 w2 => ?_, fun _ _ _ _ _ w => w.elim, fun _ _ _ _ _ w => w.elim, fun _ _ _ _ _ _ _ _ _ _ _ _ w => w.elim⟩
    cases r2 with
    | val d => exact e.rt S2 H2 [] [] (.val d) v2 (back s2) w1 w2
    | own l => exact w2.elim
    | brw j l => exact w2.elim
    | pool => exact w2.elim
  · exact q'.elim
end
end DL
end

section
set_option Elab.async false
set_option linter.all false
set_option maxRecDepth 100000
set_option maxHeartbeats 4000000
namespace DL
open PySem PySem.Spec PyProof.Rows L2
open Evl (Ex)
/-! ### a def whose last parameter is a list that it changes -/
abbrev FMI := List R → List D → (R → List D → Prop) → Prop
def startI (n : Nat) (rs : List R) (p : Addr) (l : List D) : En := (rs.map R.nv ++ [some (.fix p (.lst l))]) ++ List.replicate (n - (rs.length + 1)) none
def bodyI (n : Nat) (m : DSM) : FMI := fun rs l Qd => ∀ p : Addr, m { nx := fun env => ∃ l', Has env rs.length (.fix p (.lst l')) ∧ Qd (.val .non) l', rt := fun env r => ∃ l', Has env rs.length (.fix p (.lst l')) ∧ Qd r l' } (startI n rs p l)
def spI (K : PySem.W.Frag) (n : Nat) (F : FMI) : Sp := fun vs H Q _ => ∃ (S : Hp) (pa : Option Addr) (vs0 : List V) (p : Addr) (rs : List R) (l : List D) (Qd : R → List D → Prop), vs = vs0 ++ [.ref p] ∧ Ex S H ∧ (∀ a, pa = some a → PoolAt S H a) ∧ ArgR K S pa vs0 rs ∧ vs.length = n ∧
  (S p = none ∧ pa ≠ some p ∧ ∃ ws, H p = some (.lst ws) ∧ Reps K S ws l) ∧ F rs l Qd ∧
  ∀ v H' S' r l', DRet K S (lose H p) pa S' H' r v → (S' p = none ∧ ∃ ws, H' p = some (.lst ws) ∧ Reps K S' ws l') → Qd r l' → Q v H'
theorem spI.imp {K : PySem.W.Frag} {n : Nat} {F F' : FMI} (h : ∀ rs l Q, F' rs l Q → F rs l Q) : ∀ vs H Q E, spI K n F' vs H Q E → spI K n F vs H Q E :=
  fun vs H Q E ⟨S, pa, vs0, p, rs, l, Qd, h0, h1, h2, h3, h4, h5, h6, h7⟩ => ⟨S, pa, vs0, p, rs, l, Qd, h0, h1, h2, h3, h4, h5, h _ _ _ h6, h7⟩
/-- .. asked by one who does not look at the list again -/
theorem spI.last {K : PySem.W.Frag} {n : Nat} {F : FMI} {G : FML} (h : ∀ rs l Q, G rs l Q → F rs l fun r _ => Q r) : ∀ vs H Q E, spL K n G vs H Q E → spI K n F vs H Q E :=
  fun vs H Q E ⟨S, pa, vs0, p, rs, l, Qd, h0, h1, h2, h3, h4, h5, h6, h7⟩ => ⟨S, pa, vs0, p, rs, l, _, h0, h1, h2, h3, h4, h5, h _ _ _ h6, fun v H' S' r l' d _ q => h7 v H' S' r d q⟩
section
variable {K : PySem.W.Frag} {S H : Hp} {pa : Option Addr}
theorem SR.entryI {vs : List V} {rs : List R} {N : List Str} {p : Addr} {l : List D} {ws : List V} (h1 : Ex S H) (h2 : ∀ a, pa = some a → PoolAt S H a) (h3 : ArgR K S pa vs rs) (p1 : S p = none) (p2 : pa ≠ some p) (p3 : H p = some (.lst ws)) (p4 : Reps K S ws l) : SR K ⟨S, lose H p, pa⟩ S H (startI N.length rs p l) (L2.start N (vs ++ [.ref p])) := by
  have hl := h3.length
  have get : ∀ i n, Has (startI N.length rs p l) i n → (rs.map R.nv)[i]? = some (some n) ∨ (i = rs.length ∧ n = .fix p (.lst l)) := fun i n h => by
    unfold startI at h
    have h' : ((rs.map R.nv ++ [some (.fix p (.lst l))]) ++ List.replicate (N.length - (rs.length + 1)) none)[i]? = some (some n) := h
    rcases Nat.lt_or_ge i (rs.map R.nv).length with c | c
    · rw [List.getElem?_append_left (by rw [List.length_append]; omega), List.getElem?_append_left c] at h'
      exact .inl h'
    · rcases Nat.lt_or_ge i (rs.map R.nv ++ [some (Nv.fix p (.lst l))]).length with c2 | c2
      · rw [List.getElem?_append_left c2, List.getElem?_append_right c] at h'
        rw [List.length_append, List.length_singleton] at c2
        have e0 : i - (rs.map R.nv).length = 0 := by omega
        rw [e0] at h'
        have e1 : n = .fix p (.lst l) := (Option.some.inj (Option.some.inj h')).symm
        rw [List.length_map] at c c2
        exact .inr ⟨by omega, e1⟩
      · rw [List.getElem?_append_right c2] at h'
        have := List.mem_of_getElem? h'
        rw [List.mem_replicate] at this
        cases this.2
  have slt : ∀ i v, (vs ++ [V.ref p])[i]? = some v → Slt (L2.start N (vs ++ [.ref p])) i v := fun i v h => by
    unfold L2.start
    have c : i < ((vs ++ [V.ref p]).map some).length := by
      rw [List.length_map]
      exact (List.getElem?_eq_some_iff.mp h).1
    show ((vs ++ [V.ref p]).map some ++ List.replicate (N.length - (vs ++ [V.ref p]).length) none)[i]? = some (some v)
    rw [List.getElem?_append_left c, List.getElem?_map, h]
    rfl
  have slt0 : ∀ i v, vs[i]? = some v → Slt (L2.start N (vs ++ [.ref p])) i v := fun i v h => slt i v (by
    rw [List.getElem?_append_left (List.getElem?_eq_some_iff.mp h).1]
    exact h)
  have lst : Slt (L2.start N (vs ++ [.ref p])) rs.length (.ref p) := slt _ _ (by
    rw [List.getElem?_append_right (by omega), hl, Nat.sub_self]
    rfl)
  refine ⟨Ex.refl _, fun _ _ _ h => h, fun a o h _ => (lose_some h).2, fun a h => ?_, ?_, h1, fun i d h => ?_, fun i m h => ?_, fun i j m m2 q h _ _ _ => ?_, fun i h => ?_, fun a h => ⟨h2 a h, ?_⟩, fun i q m h => ?_, fun i j q m m2 _ h _ => ?_, fun i j q m m2 h h' => ?_, fun a h => congrArg headO (lose_ne (H := H) (fun c => p2 (by rw [← c]; exact h))).symm⟩
  · by_cases c : a = p
    · subst c
      exact lose_same
    · exact (lose_ne c).trans h
  · unfold startI L2.start
    simp only [List.length_append, List.length_map, List.length_replicate, List.length_singleton]
    omega
  · rcases get i _ h with h | ⟨_, h⟩
    · obtain ⟨v, q1, ⟨d', e, q2⟩ | ⟨e, _⟩⟩ := h3.get h
      · cases e
        exact ⟨v, slt0 i v q1, q2⟩
      · cases e
    · cases h
  · rcases get i _ h with h | ⟨_, h⟩
    · obtain ⟨v, q1, ⟨d', e, q2⟩ | ⟨e, _⟩⟩ := h3.get h
      · cases e
      · cases e
    · cases h
  · rcases get i _ h with h | ⟨_, h⟩
    · obtain ⟨v, q1, ⟨d', e, q2⟩ | ⟨e, _⟩⟩ := h3.get h
      · cases e
      · cases e
    · cases h
  · rcases get i _ h with h | ⟨_, h⟩
    · obtain ⟨v, q1, ⟨d', e, q2⟩ | ⟨e, a, q2, q3⟩⟩ := h3.get h
      · cases e
      · subst q3
        exact ⟨a, q2, slt0 i _ q1⟩
    · cases h
  · obtain ⟨_, l, cells, pos, big, seed, cnt, bud, k1, _⟩ := h2 a h
    exact ⟨_, (lose_ne (fun c => p2 (by rw [← c]; exact h))).trans k1⟩
  · rcases get i _ h with h | ⟨e, h⟩
    · obtain ⟨v, q1, ⟨d', e, q2⟩ | ⟨e, _⟩⟩ := h3.get h
      · cases e
      · cases e
    · cases h
      subst e
      exact ⟨lst, p1, lose_same, _, p3, ws, rfl, p4⟩
  · rcases get j _ h with h | ⟨_, h⟩
    · obtain ⟨v, q1, ⟨d', e, q2⟩ | ⟨e, _⟩⟩ := h3.get h
      · cases e
      · cases e
    · cases h
  · rcases get i _ h with h | ⟨e, h⟩
    · obtain ⟨v, q1, ⟨d', e, q2⟩ | ⟨e, _⟩⟩ := h3.get h
      · cases e
      · cases e
    · rcases get j _ h' with h' | ⟨e', h'⟩
      · obtain ⟨v, q1, ⟨d', e, q2⟩ | ⟨e, _⟩⟩ := h3.get h'
        · cases e
        · cases e
      · rw [e, e']
theorem fn_dI {P : Program} {w : World} {mg : Str → Option Value} {base : Heap} {x qual : Str} {st : Stmt} {f : Addr} {fd : FuncData} {N ps : List Str} {k : Nat} {m : DSM} (F : Fun K x qual st f fd) (Sc : FnScope N ps (defScope st))
    (hbody : ∀ (cdv : Value) (A : Around) (outer : List Env) (s : Shared) (H : Hp) (E : XK), Room k (A.deeper (envOfC qual (defScope st) s.heap.objs.size f cdv)) → ∃ t, DSs (cxOf CX0 P w K mg base N qual (defScope st) f cdv A outer s H E).nox (defBody st) m t) :
    FnOk P w K mg base CX0 (k + 1) f fd ps (spI K ps.length (bodyI N.length m)) := by
  refine F.ok Sc (fun vs H Q E h => ?_) fun cdv A outer s H vs Q E hr h => ?_
  · obtain ⟨S, pa, vs0, p, rs, l, Qd, h0, h1, h2, h3, h4, h5⟩ := h
    exact h4
  · obtain ⟨S, pa, vs0, p, rs, l, Qd, rfl, h1, h2, h3, h4, ⟨p1, p2, ws, p3, p4⟩, h6, h7⟩ := h
    obtain ⟨t, t1, t2⟩ := hbody cdv A outer s H E hr
    refine ⟨t, t1, t2 ⟨S, lose H p, pa⟩ S H _ _ _ _ (SR.entryI h1 h2 h3 p1 p2 p3 p4) (h6 p) ?_⟩
    have fin : ∀ {S' H' : Hp} {env : En} {σ : L2.St} {r : R} {v : V}, SR K ⟨S, lose H p, pa⟩ S' H' env σ → RetR K ⟨S, lose H p, pa⟩ S' H' r v → (∃ l', Has env rs.length (.fix p (.lst l')) ∧ Qd r l') → Q v H' := fun s r ⟨l', f, q⟩ => by
      obtain ⟨_, k2, _, o, k4, ws, rfl, k5⟩ := s.fix _ _ _ f
      exact h7 _ _ _ _ l' ⟨s.ex0, s.ex, s.keep0, s.nw0, s.old0, fun a e => (s.pool a e).1, s.pin, r⟩ ⟨k2, ws, k4, k5⟩ q
    exact ⟨fun S' H' env σ s q => fin s (r := .val .non) .non q, fun S' H' env σ r v s q z => fin s q z, fun _ _ _ _ _ z => z.elim, fun _ _ _ _ _ z => z.elim, fun _ _ _ _ _ _ _ _ _ _ _ _ z => z.elim⟩
end
end DL
end

section
set_option Elab.async false
set_option linter.all false
set_option maxRecDepth 100000
set_option maxHeartbeats 4000000
namespace DL
open PySem PySem.Spec PyProof.Rows L2
open Evl (Ex)
/-! ### the list at a known place: read, written, handed on -/
section
variable {K : PySem.W.Frag} {B : Bs} {S H S' H' : Hp} {env : En} {σ : L2.St}
theorem SR.putF {i : Nat} {l l' : FxL} {p : Addr} {o' : HO} (s : SR K B S H env σ) (h : Has env i (.fix p l)) (r : FxAt K S l' o') : SR K B S (upd H p o') (env.set i (some (.fix p l'))) σ := by
  obtain ⟨h1, h2, h3, vs, h4, h5⟩ := s.fix i p l h
  have npa : ∀ a, B.pa = some a → a ≠ p := fun a e c => by
    obtain ⟨_, o, q⟩ := s.pool a e
    rw [c, h3] at q
    cases q
  have ow : ∀ {j m}, Has (env.set i (some (.fix p l'))) j (.own m) → j ≠ i ∧ Has env j (.own m) := fun {j m} e => by
    by_cases z : j = i
    · subst z
      cases set_self e
    · exact ⟨z, set_other e z⟩
  have fx : ∀ {j q m}, Has (env.set i (some (.fix p l'))) j (.fix q m) → ∃ m', Has env j (.fix q m') := fun {j q m} e => by
    by_cases z : j = i
    · subst z
      cases set_self e
      exact ⟨l, h⟩
    · exact ⟨m, set_other e z⟩
  refine ⟨s.ex0, s.nw0, fun a o e c => ?_, fun a e => ?_, by rw [List.length_set]; exact s.len, fun a o e => ?_, fun j d e => ?_, fun j m e => ?_, fun j k m n q e1 e2 e3 e4 => s.dis j k m n q (ow e1).2 (ow e2).2 e3 e4, fun j e => ?_, fun a e => ?_, fun j q m e => ?_, fun j k q m n e1 e2 e3 => ?_, fun j k q m n e1 e2 => ?_, fun a e => by rw [upd_ne (npa a e)]; exact s.pin a e⟩
  · rw [upd_ne (fun z => by rw [z, h3] at e; cases e)]
    exact s.keep0 a o e c
  · by_cases z : a = p
    · subst z
      exact h3
    · rw [upd_ne z] at e
      exact s.old0 a e
  · rw [upd_ne (fun z => by rw [z, h2] at e; cases e)]
    exact s.ex a o e
  · by_cases z : j = i
    · subst z
      exact nomatch set_self e
    · exact s.val j d (set_other e z)
  · obtain ⟨c, e⟩ := ow e
    obtain ⟨q, ws, q1, q2, q3, q4, q5⟩ := s.own j m e
    refine ⟨q, ws, q1, q2, q3, ?_, q5⟩
    rw [upd_ne (fun z => s.dfx i j p l m h e (by rw [← z]; exact q1))]
    exact q4
  · by_cases z : j = i
    · subst z
      exact nomatch set_self e
    · exact s.pl j (set_other e z)
  · obtain ⟨⟨y, l', cells, pos, big, seed, cnt, bud, k1, k2, k3⟩, o⟩ := s.pool a e
    exact ⟨⟨y, l', cells, pos, big, seed, cnt, bud, (upd_ne (npa a e)).trans k1, k2, k3⟩, o⟩
  · by_cases z : j = i
    · subst z
      cases set_self e
      exact ⟨h1, h2, h3, o', upd_same, r⟩
    · have e' := set_other e z
      obtain ⟨k1, k2, k3, ws, k4, k5⟩ := s.fix j q m e'
      refine ⟨k1, k2, k3, ws, ?_, k5⟩
      rw [upd_ne (fun c => z (s.dff j i p m l (by rw [← c]; exact e') h))]
      exact k4
  · obtain ⟨m', e1⟩ := fx e1
    exact s.dfx j k q m' n e1 (ow e2).2 e3
  · obtain ⟨m', e1⟩ := fx e1
    obtain ⟨n', e2⟩ := fx e2
    exact s.dff j k q m' n' e1 e2
end
/-- left[e] -/
def dIxF (i : Nat) (mb : DM) : DM := fun env Q => (∃ p l0, Has env i (.fix p (.lst l0))) ∧ mb env fun env1 r => match env1[i]? with
  | some (some (.fix _ (.lst l))) => mIx (.lst l) r.data fun q => Q env1 q
  | _ => False
/-- left[e] = v -/
def dPutF (i : Nat) (mi m : DM) : DSM := fun E env => dKeep m env fun env1 r => (∃ p l0, Has env1 i (.fix p (.lst l0))) ∧ mi env1 fun env2 k => match r, k, env2[i]? with
  | .val d, .val (.int j), some (some (.fix p (.lst l))) => ∃ n, ixN l.length j = some n ∧ E.nx (env2.set i (some (.fix p (.lst (l.set n d)))))
  | _, _, _ => False
section
variable {X : Cx} {a b : Expr} {ma mb : DM} {ta tb : TE} {i : Nat} {x : Str} {xp tp pos : Pos}
theorem de_ixF (hv : PE X a (tVar i)) (hb : DE X b mb tb) (hs : PlainIx b) : DE X (.Subscript a b pos) (dIxF i mb) (tOp (rIx X.K) (tVar i) tb) := by
  refine ⟨pe_ix ix_seq hv hb.1 hs, fun B S H env σ Q Qv s q k => ?_⟩
  obtain ⟨⟨p, l0, c0⟩, q⟩ := q
  obtain ⟨h1, _⟩ := s.fix i p _ c0
  refine ⟨_, h1, hb.2 B S H env σ _ _ s q fun y H2 S2 env2 r2 e2 q2 => ?_⟩
  split at q2
  · rename_i p' l c
    obtain ⟨k1, k2, k3, o, k4, vs, rfl, k5⟩ := e2.sr.fix i p' _ c
    cases Slt.ref h1 k1
    exact opd_ix S2 H2 (.ref p) y (.lst l) r2.data _ _ e2.sr.ex (.inr ⟨p, vs, l, rfl, rfl, k4, k5⟩) e2.look1 q2 fun v H3 S3 q n q3 => k v H3 S3 env2 q (.fin e2.t n) q3
  · exact q2.elim
theorem ds_putF (hv : PE X (.Name x xp) (tVar i)) (hb : DE X b mb tb) (ha : DE X a ma ta)
    (hss : ∀ v, assign (.Subscript (.Name x xp) b tp) X.env v = (do
      let ov ← holding [v] (eval (.Name x xp) X.env)
      let iv ← holding [v, ov] (eval b X.env)
      standAt tp
      holding [v, ov, iv] (setItem ov iv v)
      release [v, ov, iv] []) := by intro _; rfl)
    (hs : swapsWithSole [.Subscript (.Name x xp) b tp] a pos.line X.env = pure false := by rfl) (hw : swappedStores [.Subscript (.Name x xp) b tp] a X.env = pure none := by rfl)
    (h1 : (assignEach [.Subscript (.Name x xp) b tp] X.env).map (·.2) = [assign (.Subscript (.Name x xp) b tp) X.env] := by rfl) : DS X (.Assign [.Subscript (.Name x xp) b tp] a pos) (dPutF i mb ma) (tAsg ta (gSub (tVar i) tb rSetL)) := by
  obtain ⟨t1, t2⟩ := de_keep ha
  refine ⟨ps_asg t1 (pg_sub hv hb.1 set_list hss) hs hw h1, fun B S H env σ E D s q e => ?_⟩
  refine t2 B S H env σ _ _ s q fun v H1 S1 env1 r z1 q1 => ?_
  obtain ⟨⟨p0, l0, c0⟩, q1⟩ := q1
  obtain ⟨ho, _⟩ := z1.sr.fix i p0 _ c0
  refine ⟨_, ho, hb.2 B S1 H1 env1 σ _ _ z1.sr q1 fun w H2 S2 env2 k z2 q2 => ?_⟩
  split at q2
  · rename_i d j p l c
    obtain ⟨n, n1, n2⟩ := q2
    obtain ⟨y1, y2, y3, o, y4, vs, rfl, y5⟩ := z2.sr.fix i p _ c
    cases Slt.ref ho y1
    have e2 : w = .int j := by
      have h' : Rep X.K S2 w (.int j) := z2.res
      cases h'
      rfl
    refine ⟨_, vs, j, n, rfl, e2, y4, by rw [y5.length]; exact n1, ?_⟩
    have r1 : Rep X.K S1 v d := z1.res
    exact e.nx S2 _ _ σ (z2.sr.putF (l' := .lst _) c ⟨_, rfl, y5.set n (r1.mono z2.go.ex)⟩) n2
  · exact q2.elim
/-! the recursion: f(.., left) -/
abbrev DIA' := En → (En → List R → Addr → List D → Prop) → Prop
def DFA (X : Cx) (i : Nat) (es : List Expr) (m : DIA') (t : TA) : Prop := PA X es t ∧ ∀ (B : Bs) (S H : Hp) (env : En) (σ : L2.St) (Q : En → List R → Addr → List D → Prop) (Qv : List V → Hp → Prop), SR X.K B S H env σ → m env Q →
  (∀ vs p H' S' env' rs l, TPo X.K B S H env σ S' H' env' → LkA X.K B S' H' vs rs → Has env' i (.fix p (.lst l)) → vs.length + 1 = es.length → Q env' rs p l → Qv (vs ++ [.ref p]) H') → t σ H Qv
def dEndF (i : Nat) : DIA' := fun env Q => match env[i]? with
  | some (some (.fix p (.lst l))) => Q env [] p l
  | _ => False
def dConsF (m : DM) (n : DIA') : DIA' := fun env Q => m env fun env1 r => n env1 fun env2 rs p l => Q env2 (r :: rs) p l
def dCallF (i : Nat) (F : FMI) (n : DIA') : PM := fun env Q _ => n env fun env' rs p l => argsOk rs = true ∧ F rs l fun r l' => match r with
  | .val d => Q (env'.set i (some (.fix p (.lst l')))) d
  | _ => False
variable {k : Nat} {f : Addr} {fd : FuncData} {ps : List Str} {F : FMI} {e : Expr} {es : List Expr} {n : DIA'} {tn : TA} {np : Nat}
theorem dfa_end (hv : PE X a (tVar i)) (hs : starEach (a :: []) X.env = (false, eval a X.env) :: starEach [] X.env := by rfl) : DFA X i [a] (dEndF i) (tCons (tVar i) tNil) := by
  refine ⟨pa_cons hv pa_nil hs, fun B S H env σ Q Qv s q k => ?_⟩
  unfold dEndF at q
  split at q
  · rename_i p l c
    obtain ⟨h1, _⟩ := s.fix i p _ c
    exact ⟨_, h1, k [] p H S env [] l (.refl s) .nil c rfl q⟩
  · exact q.elim
theorem dfa_cons (ha : DE X a ma ta) (hb : DFA X i es n tn) (hs : starEach (a :: es) X.env = (false, eval a X.env) :: starEach es X.env := by rfl) : DFA X i (a :: es) (dConsF ma n) (tCons ta tn) := by
  refine ⟨pa_cons ha.1 hb.1 hs, fun B S H env σ Q Qv s q k => ?_⟩
  refine ha.2 B S H env σ _ _ s q fun x H1 S1 env1 r1 e1 q1 => ?_
  refine hb.2 B S1 H1 env1 σ _ _ e1.sr q1 fun vs p H2 S2 env2 rs l e2 l2 g len2 q2 => ?_
  refine k (x :: vs) p H2 S2 env2 (r1 :: rs) l (e1.t.trans e2) (.cons (RepB.go e1 rfl e2) (fun d e => ?_) (fun e => ?_) l2) g (by rw [List.length_cons, List.length_cons]; omega) q2
  · subst e
    have := e1.res
    exact Rep.mono e2.go.ex this
  · subst e
    exact e1.res
theorem SR.handed {K : PySem.W.Frag} {B : Bs} {S H S' H' : Hp} {env : En} {σ : L2.St} {r : R} {v : V} {p : Addr} {i : Nat} {l l' : FxL} {o' : HO} (s : SR K B S H env σ) (h : Has env i (.fix p l)) (d : DRet K S (lose H p) B.pa S' H' r v) (c1 : S' p = none) (c2 : H' p = some o') (c3 : FxAt K S' l' o') :
    SR K B S' H' (env.set i (some (.fix p l'))) σ := by
  obtain ⟨h1, h2, h3, vs, h4, h5⟩ := s.fix i p l h
  have up : ∀ b o, B.H0 b = some o → b ≠ p := fun b o w c => by
    rw [c, h3] at w
    cases w
  have npa : ∀ a, B.pa = some a → a ≠ p := fun a e c => by
    obtain ⟨_, o, q⟩ := s.pool a e
    exact up a o q c
  have ow : ∀ {j m}, Has (env.set i (some (.fix p l'))) j (.own m) → Has env j (.own m) := fun {j m} e => by
    by_cases z : j = i
    · subst z
      cases set_self e
    · exact set_other e z
  have fx : ∀ {j q m}, Has (env.set i (some (.fix p l'))) j (.fix q m) → ∃ m', Has env j (.fix q m') := fun {j q m} e => by
    by_cases z : j = i
    · subst z
      cases set_self e
      exact ⟨l, h⟩
    · exact ⟨m, set_other e z⟩
  refine ⟨s.ex0.trans d.ex, fun a o h e => ?_, fun a o h c => d.keep a o ((lose_ne (up a o h)).trans (s.keep0 a o h c)) c, fun a h => ?_, by rw [List.length_set]; exact s.len, d.sh, fun j d' e => ?_, fun j m e => ?_, fun j k m n q e1 e2 e3 e4 => s.dis j k m n q (ow e1) (ow e2) e3 e4, fun j e => ?_, fun a e => ?_, fun j q m e => ?_, fun j k q m n e1 e2 e3 => ?_, fun j k q m n e1 e2 => ?_, fun a e => by have k := d.pin a e; rw [lose_ne (npa a e)] at k; exact k.trans (s.pin a e)⟩
  · by_cases c : B.pa = some a
    · exact (d.pool a c).1
    · exact d.nw a o ((lose_ne (up a o h)).trans (s.keep0 a o h c)) (s.nw0 a o h e)
  · by_cases ne : a = p
    · subst ne
      exact h3
    · exact s.old0 a ((lose_ne ne).symm.trans (d.old a h))
  · by_cases z : j = i
    · subst z
      exact nomatch set_self e
    · obtain ⟨v, k1, k2⟩ := s.val j d' (set_other e z)
      exact ⟨v, k1, k2.mono d.ex⟩
  · have e' := ow e
    obtain ⟨q, ws, q1, q2, q3, q4, q5⟩ := s.own j m e'
    have ne : q ≠ p := fun z => s.dfx i j p l m h e' (by rw [← z]; exact q1)
    have np : B.pa ≠ some q := fun e => by
      obtain ⟨_, o, w⟩ := s.pool q e
      rw [q3] at w
      cases w
    exact ⟨q, ws, q1, d.nw _ _ ((lose_ne ne).trans q4) q2, q3, d.keep _ _ ((lose_ne ne).trans q4) np, q5.mono d.ex⟩
  · by_cases z : j = i
    · subst z
      exact nomatch set_self e
    · exact s.pl j (set_other e z)
  · obtain ⟨_, o⟩ := s.pool a e
    exact ⟨d.pool a e, o⟩
  · by_cases z : j = i
    · subst z
      cases set_self e
      exact ⟨h1, c1, h3, o', c2, c3⟩
    · have e' := set_other e z
      obtain ⟨k1, k2, k3, us, k4, k5⟩ := s.fix j q m e'
      have ne : q ≠ p := fun c => z (s.dff j i p m l (by rw [← c]; exact e') h)
      have np : B.pa ≠ some q := fun e => by
        obtain ⟨_, o, w⟩ := s.pool q e
        rw [k3] at w
        cases w
      exact ⟨k1, d.nw _ _ ((lose_ne ne).trans k4) k2, k3, us, d.keep _ _ ((lose_ne ne).trans k4) np, k5.mono d.ex⟩
  · obtain ⟨m', e1⟩ := fx e1
    exact s.dfx j k q m' n e1 (ow e2) e3
  · obtain ⟨m', e1⟩ := fx e1
    obtain ⟨n', e2⟩ := fx e2
    exact s.dff j k q m' n' e1 e2
theorem dp_callF (hF : FnOk X.prog X.w X.K X.mg X.base CX0 k f fd ps (spI X.K np F)) (hr : Room k X.A) (hg : Gl X x) (hm : X.mg x = some (.ref f)) (hk : PySem.W.keepIn X.K (.ref f) = true) (hb : Binds X.K fd ps [])
    (ha : DFA X i (e :: es) n tn) (hlen : (e :: es).length = np) (hdb : (x == ("__debug__" : Str)) = false := by decide) (he : starEach (e :: es) X.env = (false, eval e X.env) :: starEach es X.env := by rfl) (hpl : (backTo pos (starEach es X.env)).any (·.1) = false := by rfl) :
    DP X (.Call (.Name x xp) (e :: es) [] pos) (dCallF i F n) (tCall (spI X.K np F) [] E0 tn) := by
  refine ⟨pe_call hF hr hg hm hk hb .nil pass0 ha.1 hdb he hpl, fun B S H env σ Q Qx Qv s q xk k => ha.2 B S H env σ _ _ s q fun vs p H1 S1 env1 rs l z lk g len q1 => ?_⟩
  show spI X.K np F ((vs ++ [.ref p]) ++ []) H1 Qv E0
  rw [List.append_nil]
  obtain ⟨h1, h2, h3, o, h4, ws, rfl, h5⟩ := z.sr.fix i p _ g
  have hpa : B.pa ≠ some p := fun e => by
    obtain ⟨_, o, w⟩ := z.sr.pool p e
    rw [h3] at w
    cases w
  refine ⟨S1, B.pa, vs, p, rs, l, _, rfl, z.sr.ex, fun a e => (z.sr.pool a e).1, lk.args q1.1, by rw [List.length_append]; exact len.trans hlen, ⟨h2, hpa, ws, h4, h5⟩, q1.2, fun v H' S' r l' d ⟨c1, us, c2, c3⟩ qr => ?_⟩
  cases r with
  | val d0 => exact k v d0 H' S' _ (z.sr.handed (l' := .lst _) g d c1 c2 ⟨_, rfl, c3⟩) d.ret qr
  | own l2 => exact qr.elim
  | pool => exact qr.elim
  | brw i l2 => exact qr.elim
end
end DL
end

section
set_option Elab.async false
set_option linter.all false
set_option maxRecDepth 100000
set_option maxHeartbeats 4000000
namespace DL
open PySem PySem.Spec PyProof.Rows L2
/-! ### slices by natural numbers -/
theorem cutTo (xs : List D) (k : Nat) : DL.cutD xs none (some (k : Int)) = xs.take k := by
  unfold DL.cutD
  rw [HT.sIx_none, HT.sIx_nat, List.drop_zero, Nat.sub_zero]
  rcases Nat.le_total k xs.length with h | h
  · rw [Nat.min_eq_left h]
  · rw [Nat.min_eq_right h, List.take_of_length_le (Nat.le_refl _), List.take_of_length_le h]
theorem cutFrom (xs : List D) (k : Nat) : DL.cutD xs (some (k : Int)) none = xs.drop k := by
  unfold DL.cutD
  rw [HT.sIx_none, HT.sIx_nat]
  rcases Nat.le_total k xs.length with h | h
  · rw [Nat.min_eq_left h, List.take_of_length_le (by rw [List.length_drop]; exact Nat.le_refl _)]
  · rw [Nat.min_eq_right h, List.drop_of_length_le (Nat.le_refl _), List.drop_of_length_le h, List.take_nil]
theorem cutFrom1 (x : D) (xs : List D) : DL.cutD (x :: xs) (some 1) none = xs := cutFrom (x :: xs) 1
theorem atI_head (x : D) (xs : List D) : atI (x :: xs) 0 = some x := DL.atI_nat (k := 0) rfl
theorem cdiv_nat {m : Nat} (h : m ≤ 5000) (h2 : 0 < m) : CDivW 0 (m : Int) := ⟨by omega, by
  have : ((m : Int)).natAbs = m := by omega
  rw [this]
  have := Nat.log2_le_self m
  omega⟩
end DL
end

section
set_option Elab.async false
set_option linter.all false
set_option maxRecDepth 100000
set_option maxHeartbeats 4000000
namespace DL
open PySem PySem.Spec PyProof.Rows L2
open Evl (Ex)
/-! ### a loan: a def reads a name's own list, and hands back data without places -/
def flatD : D → Bool
  | .non => true
  | .bl _ => true
  | .int _ => true
  | .str _ => true
  | _ => false
theorem flat_rep {K : PySem.W.Frag} {S S' : Hp} {v : V} {d : D} (h : Rep K S v d) (f : flatD d = true) : Rep K S' v d := by
  cases h with
  | non => exact .non
  | bl b => exact .bl b
  | int i => exact .int i
  | str x => exact .str x
  | any => cases f
  | err _ _ => cases f
  | scr _ => cases f
  | lst _ _ => cases f
  | tup _ _ => cases f
  | ins _ _ _ _ => cases f
theorem flat_reps {K : PySem.W.Frag} {S S' : Hp} : ∀ {vs : List V} {ds : List D}, Reps K S vs ds → ds.all flatD = true → Reps K S' vs ds
  | _, _, .nil, _ => .nil
  | _, _, .cons h r, f => by
    rw [List.all_cons, Bool.and_eq_true] at f
    exact .cons (flat_rep h f.1) (flat_reps r f.2)
/-- the last argument is a name's own list, lent -/
abbrev DLN := En → (En → List R → List D → Prop) → Prop
def dEndN (i : Nat) : DLN := fun env Q => match env[i]? with
  | some (some (.own l)) => Q env [] l
  | _ => False
def dConsN (m : DM) (n : DLN) : DLN := fun env Q => m env fun env1 r => n env1 fun env2 rs l => Q env2 (r :: rs) l
def DNA (X : Cx) (i : Nat) (es : List Expr) (m : DLN) (t : TA) : Prop := PA X es t ∧ ∀ (B : Bs) (S H : Hp) (env : En) (σ : L2.St) (Q : En → List R → List D → Prop) (Qv : List V → Hp → Prop), SR X.K B S H env σ → m env Q →
  (∀ vs p H' S' env' rs l, TPo X.K B S H env σ S' H' env' → LkA X.K B S' H' vs rs → Has env' i (.own l) → Slt σ i (.ref p) → vs.length + 1 = es.length → Q env' rs l → Qv (vs ++ [.ref p]) H') → t σ H Qv
def dCallN (F : FM) (n : DLN) : DM := fun env Q => n env fun env' rs l => argsOk rs = true ∧ F (rs ++ [.val (.lst l)]) fun r => match r with
  | .val d => flatD d = true ∧ Q env' (.val d)
  | .own l2 => l2.all flatD = true ∧ Q env' (.own l2)
  | _ => False
section
variable {X : Cx} {a : Expr} {ma : DM} {ta : TE} {k : Nat} {f : Addr} {fd : FuncData} {ps : List Str} {F : FM} {x : Str} {p pos : Pos} {e : Expr} {es : List Expr} {n : DLN} {tn : TA} {np i : Nat}
theorem dna_end (hv : PE X a (tVar i)) (hs : starEach (a :: []) X.env = (false, eval a X.env) :: starEach [] X.env := by rfl) : DNA X i [a] (dEndN i) (tCons (tVar i) tNil) := by
  refine ⟨pa_cons hv pa_nil hs, fun B S H env σ Q Qv s q k => ?_⟩
  unfold dEndN at q
  split at q
  · rename_i l c
    obtain ⟨p, vs, h1, _⟩ := s.own i l c
    exact ⟨_, h1, k [] p H S env [] l (.refl s) .nil c h1 rfl q⟩
  · exact q.elim
theorem dna_cons (ha : DE X a ma ta) (hb : DNA X i es n tn) (hs : starEach (a :: es) X.env = (false, eval a X.env) :: starEach es X.env := by rfl) : DNA X i (a :: es) (dConsN ma n) (tCons ta tn) := by
  refine ⟨pa_cons ha.1 hb.1 hs, fun B S H env σ Q Qv s q k => ?_⟩
  refine ha.2 B S H env σ _ _ s q fun x H1 S1 env1 r1 e1 q1 => ?_
  refine hb.2 B S1 H1 env1 σ _ _ e1.sr q1 fun vs p H2 S2 env2 rs l e2 l2 g g2 len2 q2 => ?_
  refine k (x :: vs) p H2 S2 env2 (r1 :: rs) l (e1.t.trans e2) (.cons (RepB.go e1 rfl e2) (fun d e => ?_) (fun e => ?_) l2) g g2 (by rw [List.length_cons, List.length_cons]; omega) q2
  · subst e
    have := e1.res
    exact Rep.mono e2.go.ex this
  · subst e
    exact e1.res
theorem ArgR.app {K : PySem.W.Frag} {S : Hp} {pa : Option Addr} {v : V} {d : D} (r : Rep K S v d) : ∀ {vs : List V} {rs : List R}, ArgR K S pa vs rs → ArgR K S pa (vs ++ [v]) (rs ++ [.val d])
  | _, _, .nil => .val r .nil
  | _, _, .val h t => .val h (ArgR.app r t)
  | _, _, .pool h t => .pool h (ArgR.app r t)
theorem ArgR.mono {K : PySem.W.Frag} {S S' : Hp} {pa : Option Addr} (e : Ex S S') : ∀ {vs : List V} {rs : List R}, ArgR K S pa vs rs → ArgR K S' pa vs rs
  | _, _, .nil => .nil
  | _, _, .val h t => .val (h.mono e) (ArgR.mono e t)
  | _, _, .pool h t => .pool h (ArgR.mono e t)
/-- S, the lent list taken out again -/
theorem SR.lent {K : PySem.W.Frag} {B : Bs} {S H S' H' : Hp} {env : En} {σ : L2.St} {r : R} {v : V} {q : Addr} {i : Nat} {l : List D} {ws : List V} (s : SR K B S H env σ) (h : Has env i (.own l)) (hq : Slt σ i (.ref q)) (hw : H q = some (.lst ws)) (d : DRet K (upd S q (.lst ws)) H B.pa S' H' r v) :
    SR K B (lose S' q) H' env σ := by
  obtain ⟨p, vs, h1, h2, h3, h4, h5⟩ := s.own i l h
  cases Slt.ref hq h1
  have sub : Ex S (lose S' q) := fun a o e => by
    have ne : a ≠ q := fun z => by rw [z, h2] at e; cases e
    rw [lose_ne ne]
    exact d.ex a o (by rw [upd_ne ne]; exact e)
  have npq : ∀ a, B.pa = some a → a ≠ q := fun a e c => by
    obtain ⟨_, o, z⟩ := s.pool a e
    rw [c, h3] at z
    cases z
  have nw : ∀ a o, H a = some o → S a = none → lose S' q a = none := fun a o e z => by
    by_cases c : a = q
    · subst c
      exact lose_same
    · rw [lose_ne c]
      exact d.nw a o e (by rw [upd_ne c]; exact z)
  refine ⟨s.ex0.trans sub, fun a o e z => ?_, fun a o e c => d.keep a o (s.keep0 a o e c) c, fun a e => s.old0 a (d.old a e), s.len, fun a o e => ?_, fun j d' e => ?_, fun j m e => ?_, s.dis, s.pl, fun a e => ?_, fun j u m e => ?_, s.dfx, s.dff, fun a e => (d.pin a e).trans (s.pin a e)⟩
  · by_cases c : B.pa = some a
    · rw [lose_ne (npq a c)]
      exact (d.pool a c).1
    · exact nw a o (s.keep0 a o e c) (s.nw0 a o e z)
  · obtain ⟨_, e⟩ := lose_some e
    exact d.sh a o e
  · obtain ⟨v, k1, k2⟩ := s.val j d' e
    exact ⟨v, k1, k2.mono sub⟩
  · obtain ⟨u, us, k1, k2, k3, k4, k5⟩ := s.own j m e
    have np : B.pa ≠ some u := fun e => by
      obtain ⟨_, o, w⟩ := s.pool u e
      rw [k3] at w
      cases w
    exact ⟨u, us, k1, nw u _ k4 k2, k3, d.keep _ _ k4 np, k5.mono sub⟩
  · obtain ⟨y0, o⟩ := s.pool a e
    obtain ⟨w1, l1, cells, y1, y2, y3, y4, y5, y6, y7, y8⟩ := d.pool a e
    obtain ⟨z1, l2, cells2, x1, x2, x3, x4, x5, x6, x7, x8⟩ := y0
    have same : l1 = l2 := by
      have k := d.pin a e
      rw [y6, x6] at k
      injection k with k
      injection k
    subst same
    have nl : l1 ≠ q := fun c => by rw [c, h2] at x7; cases x7
    exact ⟨⟨by rw [lose_ne (npq a e)]; exact w1, l1, cells, y1, y2, y3, y4, y5, y6, by rw [lose_ne nl]; exact y7, y8⟩, o⟩
  · obtain ⟨k1, k2, k3, us, k4, k5⟩ := s.fix j u m e
    have np : B.pa ≠ some u := fun e => by
      obtain ⟨_, o, w⟩ := s.pool u e
      rw [k3] at w
      cases w
    exact ⟨k1, nw u _ k4 k2, k3, us, d.keep _ _ k4 np, k5.mono sub⟩
theorem de_callN (hF : FnOk X.prog X.w X.K X.mg X.base CX0 k f fd ps (spF X.K np F)) (hr : Room k X.A) (hg : Gl X x) (hm : X.mg x = some (.ref f)) (hk : PySem.W.keepIn X.K (.ref f) = true) (hb : Binds X.K fd ps [])
    (ha : DNA X i (e :: es) n tn) (hlen : (e :: es).length = np) (hdb : (x == ("__debug__" : Str)) = false := by decide) (he : starEach (e :: es) X.env = (false, eval e X.env) :: starEach es X.env := by rfl) (hpl : (backTo pos (starEach es X.env)).any (·.1) = false := by rfl) :
    DE X (.Call (.Name x p) (e :: es) [] pos) (dCallN F n) (tCall (spF X.K np F) [] E0 tn) := by
  refine ⟨pe_call hF hr hg hm hk hb .nil pass0 ha.1 hdb he hpl, fun B S H env σ Q Qv s q k => ha.2 B S H env σ _ _ s q fun vs p H1 S1 env1 rs l z lk g g2 len q1 => ?_⟩
  show spF X.K np F ((vs ++ [.ref p]) ++ []) H1 Qv E0
  rw [List.append_nil]
  obtain ⟨p', ws, h1, h2, h3, h4, h5⟩ := z.sr.own i l g
  cases Slt.ref g2 h1
  have e1 : Ex S1 (upd S1 p (.lst ws)) := Ex.new h2
  have exH : Ex (upd S1 p (.lst ws)) H1 := fun a o w => by
    by_cases c : a = p
    · subst c
      rw [upd_same] at w
      cases w
      exact h4
    · rw [upd_ne c] at w
      exact z.sr.ex a o w
  have npp : ∀ a, B.pa = some a → a ≠ p := fun a w c => by
    obtain ⟨_, o, y⟩ := z.sr.pool a w
    rw [c, h3] at y
    cases y
  refine ⟨upd S1 p (.lst ws), B.pa, rs ++ [.val (.lst l)], _, exH, fun a w => ?_, (lk.args q1.1 |>.mono e1).app (.lst upd_same (h5.mono e1)), by rw [List.length_append]; exact len.trans hlen, q1.2, fun v H' S' r d qr => ?_⟩
  · obtain ⟨⟨y0, l1, cells, y1, y2, y3, y4, y5, y6, y7, y8⟩, _⟩ := z.sr.pool a w
    exact ⟨by rw [upd_ne (npp a w)]; exact y0, l1, cells, y1, y2, y3, y4, y5, y6, e1 _ _ y7, y8⟩
  · have s' := z.sr.lent g g2 h4 d
    have go : Go (Ow B env1 σ) S1 H1 (lose S' p) H' := by
      refine ⟨fun a o w => ?_, fun a o w nz => d.keep a o w fun c => nz (.inl c), fun a o w nz u => ?_, d.old⟩
      · have ne : a ≠ p := fun c => by rw [c, h2] at w; cases w
        rw [lose_ne ne]
        exact d.ex a o (by rw [upd_ne ne]; exact w)
      · by_cases ne : a = p
        · subst ne
          exact lose_same
        · rw [lose_ne ne]
          exact d.nw a o w (by rw [upd_ne ne]; exact u)
    have go' : Go (Ow B env σ) S H (lose S' p) H' := z.go.trans go fun x o _ nz w => nz (Ow.frz z.fz w)
    have dr := d.ret
    cases r with
    | val d0 => exact k v H' (lose S' p) env1 (.val d0) ⟨s', go', z.fz, flat_rep dr qr.1⟩ qr.2
    | own l2 =>
      obtain ⟨p2, us, rfl, k1, k2, k3, k4⟩ := dr
      have ne : p2 ≠ p := fun c => by
        have w : H1 p2 = none := k2
        rw [c, h4] at w
        cases w
      exact k _ H' (lose S' p) env1 (.own l2) ⟨s', go', z.fz, p2, us, rfl, by rw [lose_ne ne]; exact k1, z.sr.hp0 k2, z.go.old p2 k2, fun w => z.sr.now k2 w, k3, flat_reps k4 qr.1⟩ qr.2
    | pool => exact qr.elim
    | brw j l2 => exact qr.elim
/-- by what the i-th name holds -/
def dEither (i : Nat) (m1 m2 : DM) : DM := fun env Q => match env[i]? with
  | some (some (.own _)) => m1 env Q
  | _ => m2 env Q
theorem de_either {a : Expr} {m1 m2 : DM} {ta : TE} (h1 : DE X a m1 ta) (h2 : DE X a m2 ta) : DE X a (dEither i m1 m2) ta := by
  refine ⟨h1.1, fun B S H env σ Q Qv s q k => ?_⟩
  unfold dEither at q
  split at q
  · exact h1.2 B S H env σ Q Qv s q k
  · exact h2.2 B S H env σ Q Qv s q k
/-! ### (list(e), tuple(e))[c]: the list stays one's own -/
end
end DL
end

section
set_option Elab.async false
set_option linter.all false
set_option maxRecDepth 100000
set_option maxHeartbeats 4000000
/-! An own error: super().__init__(f"..{a}"), then self.a = a. -/
namespace EX
open PySem PySem.W PySem.Calls PyProof.Rows PySem.HandSPX
abbrev eArgs (a : Str) (p1 p2 : Pos) : Arguments := { posonlyargs := [], args := [{ arg := "self", annotation := none, pos := p1 }, { arg := a, annotation := none, pos := p2 }], vararg := none, kwonlyargs := [], kw_defaults := [], kwarg := none, defaults := [] }
abbrev eBody (a txt : Str) (p0 p1 p2 p3 p4 p5 p6 p7 p8 q1 q2 q3 q4 : Pos) : List Stmt :=
  [.Expr (.Call (.Attribute (.Call (.Name "super" p0) [] [] p1) "__init__" p2) [.JoinedStr [.Constant (.str txt) 0 p3, .FormattedValue (.Name a p4) (-1) none p5] p6] [] p7) p8,
   .Assign [.Attribute (.Name "self" q1) a q2] (.Name a q3) q4]
abbrev eScope (a : Str) : Scope := { kind := .function, names := [(PySem.Str.ofString "self", .local), (a, .local), (PySem.Str.ofString "__class__", .free), (PySem.Str.ofString "super", .globalImplicit)], isGenerator := false, isCoroutine := false, more := [] }
/-- what the written part says of an own error's class at C, its __init__ at fI -/
structure ErrTxt (prog : Program) (K : Frag) (C fI : Addr) (a txt : Str) : Prop where
  cls : ∃ nm q N bs bm sn sub ab col dd k0 k1 k2 k3 k5, K.lookup C = some (excClassObj nm q C N bs bm true sn sub ab col dd k0 k1 k2 k3 k5 "ValueError.__new__") ∧ refsVE bm = true
  sa : findIn K (.ref C) "__setattr__" = some (some (.builtin "object.__setattr__"))
  ga : findIn K (.ref C) "__getattribute__" = some (some (.builtin "BaseException.__getattribute__"))
  gg : findIn K (.ref C) "__getattr__" = some none
  noN : findIn K (.ref C) a = some none
  iC : findIn K (.ref C) "__init__" = some (some (.ref fI))
  tC : typeIn K (.ref fI) = some (.type "function")
  kC : keepIn K (.ref C) = true
  exC : subIn K (.ref C) (.type "BaseException") = some true
  veC : subIn K (.ref C) (.type "ValueError") = some true
  tyC : typeIn K (.ref C) = some (.type "type")
  hdC : hasDictIn K C = true
  ms : mroIn K C (.ref C) = some true
  su : ks_superIn K C C "__init__" = some (some (.builtin "ValueError.__init__"))
  op : nsIn K cStatics "thirdparty.any" = some none
  fn : ∃ (oc : Value) (od : Option Addr) (qual : Str) (doc pm : Value) (an : Option Addr) (cda cc : Addr) (ct : Value) (osl : Array (Option Value)) (p1 p2 p0 p1' p2' p3 p4 p5 p6 p7 p8 q1 q2 q3 q4 : Pos),
    K.lookup fI = some ⟨oc, od, .func (ksFn "__init__" qual (eArgs a p1 p2) (eBody a txt p0 p1' p2' p3 p4 p5 p6 p7 p8 q1 q2 q3 q4) (eScope a) .none .none doc pm an (.ref cda) ct cc), osl⟩ ∧ codeIn K (.ref cda) qual = true ∧ (p2'.endLine == p7.line) = true ∧
    (∃ (ccl : Value) (cdd : Option Addr) (vs : Array Value) (ccs : Array (Option Value)) (file : Str) (tf : Tok), K.lookup cda = some ⟨ccl, cdd, .fields vs, ccs⟩ ∧ vs[2]? = some (.str file tf) ∧ ((prog.main.file : Str) == file) = true) ∧
    ∃ (cl : Value) (cld : Option Addr) (csl : Array (Option Value)), K.lookup cc = some ⟨cl, cld, .cell (some (.ref C)), csl⟩
  topS : (prog.main.scope.names.lookup ("super" : Str)).isSome = false
/-- a name of the class's own field: not one of the names that __init__ has beside -/
def NmOk (a : Str) : Prop := a = "at" ∨ a = "what"
/-- what an error tells: a short text or a small int -/
inductive Small : Value → Prop
  | str (y : Str) (t : Tok) : y.length ≤ 1000 → Small (.str y t)
  | int (i : Int) (t : Tok) : i.natAbs.log2 < 1000 → Small (.int i t)

theorem ev1 (p0 p1' p2' p7 : Pos) (env : Env) (e : Expr) (hp : (p2'.endLine == p7.line) = true) (hs : starEach (e :: []) env = [(false, eval e env)]) : eval (.Call (.Attribute (.Call (.Name "super" p0) [] [] p1') "__init__" p2') [e] [] p7) env = (do
      let ov ← attributeBase (.Call (.Name "super" p0) [] [] p1') "__init__" env (eval (.Call (.Name "super" p0) [] [] p1') env)
      standAt p2'.atName
      let (f, first) ← holding [ov] (getMethod ov "__init__" (do return (← importBound (.Call (.Name "super" p0) [] [] p1') env).getD true))
      callWith p7 f first (backTo p7 (starEach [e] env)) []) := by
  show (do
    let ov ← attributeBase (.Call (.Name "super" p0) [] [] p1') "__init__" env (eval (.Call (.Name "super" p0) [] [] p1') env)
    standAt p2'.atName
    methodCall (.Call (.Name "super" p0) [] [] p1') "__init__" p2' p7 env ov 1 (backTo p7 (starEach [e] env)) (backToKw p7 (keywordEach [] env))) = _
  have h1 : methodCallForm 1 (backTo p7 (starEach [e] env)) (backToKw p7 (keywordEach [] env)) = true := by rw [hs]; rfl
  have h2 : methodCallPos true (.Call (.Name "super" p0) [] [] p1') env p2' p7 = pure p7 := by
    unfold methodCallPos
    rw [hp]
    rfl
  congr 1
  funext ov
  congr 1
  funext u
  unfold methodCall
  rw [h1, h2]
  congr 1

/-! the wrapper's call, by the heap -/
section
variable {prog : Program} {w : World} {A : Around} {E : Value → Shared → Prop} {h : Heap} {g : Array GenState} {d : Drawn} {t : Nat} {os : OsState}
variable {nm q : Str} {C N : Addr} {bs bm : List Value} {hdct : Bool} {sn : List Str} {sub : List Value} {ab : Bool} {col : Option Bool} {dd : Option Addr} {k0 k1 k2 k3 k5 : Option Value}
theorem call_mw {u e t0 : Addr} {rest : List Value} {Q : Value → Shared → Prop}
    (hC : h.get? C = some (excClassObj nm q C N bs bm hdct sn sub ab col dd k0 k1 k2 k3 k5 "ValueError.__new__")) (he : h.get? e = some (excO C t0)) (hu : h.get? u = some (kxs_mw "ValueError.__init__" e)) (hrest : rest.length ≤ sizeLine)
    (hq : ∀ h' t1, (∀ b o, b ≠ e → h.get? b = some o → h'.get? b = some o) → h'.get? e = some (excO C t1) → Q .none ⟨h', g, d, t, os⟩) :
    wpAny (model prog w) A (call (.ref u) rest) Q E ⟨h, g, d, t, os⟩ := by
  refine wpAny_call (codeAny_of_tree ?_)
  show wpAny _ A.in1 (callAny (.ref u) ⟨rest, []⟩) _ _ _
  simp only [callAny]
  refine wpAny_bind (wpAny_load hu ?_)
  simp only [kxs_mw, show (Value.type "method-wrapper" == Value.type "method" || Value.type "method-wrapper" == Value.type "builtin_function_or_method" || Value.type "method-wrapper" == Value.type "method-wrapper") = true by decide, if_true]
  refine KFB.if_so (by decide) ?_
  refine wpAny_bind (check_bound_init F.excBase_ValueError.toExcCallFacts hC he rfl ?_)
  refine wpAny_bind (wpAny_pure (wpAny_pure ?_))
  refine ⟨Code.quiet_builtin _ (by decide +kernel), codeAny_builtin F.excBase_ValueError.initEntry ?_⟩
  rw [Around.under_plainId F.excBase_ValueError.init.plain _]
  wp_walk
  refine hq _ h.objs.size (fun b o hb ho => ?_) ?_
  · rw [Heap.get?_update_other _ _ (Ne.symm hb)]
    exact Heap.get?_push_of_some _ ho
  · rw [Heap.get?_update_self _ (Heap.get?_push_of_some _ he) rfl]
    rfl
end
end EX
end

section
set_option Elab.async false
set_option linter.all false
set_option maxRecDepth 100000
set_option maxHeartbeats 4000000
namespace EX
open PySem PySem.W PySem.Calls PyProof.Rows PySem.HandSPX
/-- what __init__ leaves of a fresh exception at x -/
structure InitEnd (h h' : Heap) (x C dx t1 : Addr) (a : Str) (v : Value) : Prop where
  keep : ∀ b o, b ≠ x → h.get? b = some o → h'.get? b = some o
  obj : h'.get? x = some { cls := .ref C, dict := some dx, data := .fields #[.ref t1, .none, .none, .none, .bool false, .none] }
  dbig : h.objs.size ≤ dx
  dne : dx ≠ x
  ns : h'.Ns1 dx (fun y => if y = a then some v else none)
section
variable {prog : Program} {w : World} {A : Around} {E : Value → Shared → Prop} {R : Result → Shared → Prop} {s : Shared} {K : Frag} {mg : Str → Option Value} {base : Heap} {C fI : Addr} {a txt : Str}
theorem ldA {M : Model} {A : Around} {E : Value → Shared → Prop} {s : Shared} {env : Env} {m : Str → Option Value} {x : Str} {pos : Pos} {v : Value} {Q : Value → Shared → Prop} (hn : s.heap.Ns env.locals m) (hv : m x = some v) (h : Q v s)
    (hk : env.scope.kind = .function) (hl : env.kindOf x = some .local) (hd : (x == ("__debug__" : Str)) = false) : wpAny M A (eval (.Name x pos) env) Q E s := wpAny_Name (wpAny_loadName_local hk hl hn hv h) hd
theorem fmt_small {v : Value} (sm : Small v) {Q : Value → Shared → Prop} (h : ∀ y t s', y.length ≤ 2000 → (∃ tk, s' = { s with toks := tk }) → Q (.str y t) s') : wpAny (model prog w) A (formatField v Str.empty) Q E s := by
  cases sm with
  | str y t hy => exact wpAny_formatField_str (h _ _ _ (by omega) ⟨_, rfl⟩) (h _ _ _ (by omega) ⟨_, rfl⟩) (by rw [sizeLine_eq]; omega)
  | int i t hi =>
    refine wpAny_formatField_int (by omega) (h _ _ _ ?_ ⟨_, rfl⟩)
    have e := int_text_length_le (k := 1000) (by decide) hi
    show (Str.ofString (toString i)).length ≤ 2000
    rw [PySem.ofString_length]
    omega
theorem err_init (T : ErrTxt prog K C fI a txt) (ht : txt.length ≤ 1000) (na : NmOk a) (M : L2.Mod K mg base) (hsup : mg "super" = none) (kb : ∀ b o, base.get? b = some o → s.heap.get? b = some o) (hroom : A.depth < recursionLimit)
    {x t0 : Addr} {v : Value} (hx : s.heap.get? x = some (excO C t0)) (nx : K.lookup x = none) (sm : Small v) (hq : ∀ h' tk dx t1, InitEnd s.heap h' x C dx t1 a v → R (.ok (.ret .none)) { s with heap := h', toks := tk }) :
    codeAny (model prog w) A (.call (.ref fI) ⟨[.ref x, v], []⟩) R s := by
  obtain ⟨oc, od, qual, doc, pm, an, cda, cc, ct, osl, p1, p2, p0, p1', p2', p3, p4, p5, p6, p7, p8, q1, q2, q3, q4, lf, hcd, hp2, ⟨ccl, cdd, vs, ccs, file, tf, lcd, hvs, hfile⟩, cl, cld, csl, lcc⟩ := T.fn
  obtain ⟨nm, q, N, bs, bm, sn, sub, ab, col, dd, k0, k1, k2, k3, k5, hC, hbm⟩ := T.cls
  have hcl : clsIn K C = some { name := nm, bases := bs, mro := .ref C :: bm, ns := N, qualname := q, hasDict := true, slotNames := sn, subclasses := sub, abstract := ab, collection := col, hasDel := false } := by unfold clsIn; rw [hC] <;> rfl
  have X : K.In s.heap := M.kin.keeps kb
  have lim : s.heap.NoLimit := M.nolimit.keeps kb
  have hG : s.heap.Ns mainGlobals mg := M.glob.keeps kb
  obtain ⟨mb, hB0, hB1⟩ := M.blt
  have hB : s.heap.Ns builtinsNs mb := hB0.keeps kb
  have ksf : (eScope a).names.lookup ("self" : Str) = some .local := by rcases na with rfl | rfl <;> rfl
  have ka : (eScope a).names.lookup a = some .local := by rcases na with rfl | rfl <;> rfl
  have kc : (eScope a).names.lookup ("__class__" : Str) = some .free := by rcases na with rfl | rfl <;> rfl
  have kss : (eScope a).names.lookup ("super" : Str) = some .globalImplicit := by rcases na with rfl | rfl <;> rfl
  have kdb : (a == ("__debug__" : Str)) = false := by rcases na with rfl | rfl <;> decide
  refine ks_codeAny_call_defAt (fd := ksFn "__init__" qual (eArgs a p1 p2) (eBody a txt p0 p1' p2' p3 p4 p5 p6 p7 p8 q1 q2 q3 q4) (eScope a) .none .none doc pm an (.ref cda) ct cc) (body := eBody a txt p0 p1' p2' p3 p4 p5 p6 p7 p8 q1 q2 q3 q4)
    (binds := [("self", .ref x), (a, v)]) hroom (X _ _ lf) rfl lim (codeRec_of X hcd) rfl (BindsTo.of_eq ?hb) ?hcell ?hloc (fun h₁ hns k₁ => ?_) rfl rfl rfl
  case hb =>
    rcases na with rfl | rfl <;> first | rfl | with_unfolding_all rfl
  case hcell =>
    show ∀ y ∈ (eScope a).names, y.2 ≠ .cell
    rcases na with rfl | rfl <;> decide
  case hloc =>
    intro y hy
    rcases List.mem_cons.mp hy with rfl | hy
    · exact ksf
    rcases List.mem_cons.mp hy with rfl | hy
    · exact ka
    · cases hy
  have vself : (fun y => ([("self", Value.ref x), (a, v)] : List (Str × Value)).reverse.lookup y) "self" = some (.ref x) := by rcases na with rfl | rfl <;> rfl
  have va : (fun y => ([("self", Value.ref x), (a, v)] : List (Str × Value)).reverse.lookup y) a = some v := by rcases na with rfl | rfl <;> rfl
  generalize (fun y => ([("self", Value.ref x), (a, v)] : List (Str × Value)).reverse.lookup y) = m at hns vself va
  show PySem.wpAt _ _ (.func (eBody a txt p0 p1' p2' p3 p4 p5 p6 p7 p8 q1 q2 q3 q4) (ksEnv qual (eScope a) s.heap.objs.size fI (.ref cda) cc)) (execs _ (ksEnv qual (eScope a) s.heap.objs.size fI (.ref cda) cc)) _ _ _
  have X1 : K.In h₁ := X.keeps k₁
  have hx1 := k₁ _ _ hx
  have es1 : starEach [Expr.JoinedStr [.Constant (.str txt) 0 p3, .FormattedValue (.Name a p4) (-1) none p5] p6] (ksEnv qual (eScope a) s.heap.objs.size fI (.ref cda) cc) = [(false, eval (Expr.JoinedStr [.Constant (.str txt) 0 p3, .FormattedValue (.Name a p4) (-1) none p5] p6) (ksEnv qual (eScope a) s.heap.objs.size fI (.ref cda) cc))] := rfl
  refine ks_wpAt_execs_cons (ks_wpAt_Expr_any (ks_wpAt_MethodCall ?_ (he := ev1 _ _ _ _ _ _ hp2 es1)))
  refine ks_wpAt_super_base (env := ksEnv qual (eScope a) s.heap.objs.size fI (.ref cda) cc) kss kc (by decide) rfl (X1 _ _ lf) rfl rfl rfl (X1 _ _ lcd) rfl hvs hfile T.topS ?_
  refine ks_loadName_global rfl kss (loadGlobal_builtin (env := ksEnv qual (eScope a) s.heap.objs.size fI (.ref cda) cc) (hG.keeps k₁) hsup (hB.keeps k₁) ((hB1 _ (by decide)).trans (by decide +kernel)) ⟨rfl, ?_⟩)
  refine wpAny_loadName_free rfl kc rfl ⟨_, X1 _ _ lcc, rfl⟩ ?_
  refine wpAny_loadName_local rfl ksf hns vself ?_
  refine ks_wpAny_isType_cls (X1 _ _ hC) rfl ⟨rfl, ?_⟩
  refine ks_wpAny_call_super (C := C) (X1 _ _ hC) rfl hx1 rfl (fun c z => nomatch z) (looks_mroIn X1 T.ms) (fun h₂ hso k₂ => ?_)
  have X2 : K.In h₂ := X1.keeps k₂
  have hx2 := k₂ _ _ hx1
  have I2 : InstAt h₂ x (excO C t0) C none := ⟨hx2, rfl, rfl, trivial⟩
  have hsu := T.su
  unfold ks_superIn at hsu
  rw [hcl] at hsu
  refine kxs_getMethod kxs_ValueError hso (looks_opaque X2 T.op) (l₀ := .ref C :: bm) ?_ rfl X2 hsu (I2.type.andThen (looks_subIn X2 T.veC)) (ks_ne X2 I2 hcl) (by decide) ?_
  · exact fun A Q E s k q => wpAny_bind ((looks_clsIn X2 hcl) A _ E s k (wpAny_pure q))
  rw [es1]
  refine kxs_callWith (i := "ValueError.__init__") (x := x) rfl (evalArgs_plain (spliced_cons ?_))
  -- the text of the error: put together, never asked for
  have hns2 : h₂.Ns s.heap.objs.size m := hns.keeps k₂
  obtain ⟨h₃, e3⟩ : ∃ h₃, h₃ = h₂.push (kxs_mw "ValueError.__init__" x) := ⟨_, rfl⟩
  have k₃ : ∀ b o, h₂.get? b = some o → h₃.get? b = some o := fun b o e => by rw [e3]; exact Heap.get?_push_of_some _ e
  have hu : h₃.get? h₂.objs.size = some (kxs_mw "ValueError.__init__" x) := by rw [e3]; exact Heap.get?_push_at rfl rfl
  rw [← e3]
  have hns3 : h₃.Ns s.heap.objs.size m := hns2.keeps k₃
  have X3 : K.In h₃ := X2.keeps k₃
  have hx3 := k₃ _ _ hx2
  refine wpAny_JoinedStr (pos := p6) ?_
  refine wpAny_Constant_str ⟨txt, _, rfl, ?_, ?_⟩
  · rw [strLen_append, sizeLine_eq]
    show 0 + txt.length ≤ _
    omega
  refine wpAny_FormattedValue_plain (ldA (m := m) hns3 va (fmt_small sm fun y t s' hy ⟨tk, es'⟩ => ?_) rfl ka kdb)
  subst es'
  refine ⟨y, t, rfl, ?_, ?_, ?_⟩
  · rw [strLen_append, strLen_append, sizeLine_eq]
    show 0 + txt.length + y.length ≤ _
    omega
  · rw [strLen_append, strLen_append, sizeLine_eq]
    show 0 + txt.length + y.length ≤ _
    omega
  refine spliced_nil ⟨hu, ?_⟩
  show wpAny _ _ (call (.ref h₂.objs.size) [_]) _ _ _
  refine call_mw (X3 _ _ hC) hx3 hu (by rw [sizeLine_eq]; exact (by decide : 1 ≤ 16777216)) fun h₄ t1 k₄ hx4 => ?_
  -- self.a = a
  have nL : s.heap.objs.size ≠ x := Nat.ne_of_gt (Heap.lt_size hx)
  have X4 : K.In h₄ := fun b o e => k₄ b o (fun z => by rw [z, nx] at e; cases e) (X3 _ _ e)
  have hns4 : h₄.Ns s.heap.objs.size m := by
    obtain ⟨oL, es, ep, hL, r⟩ := hns3
    exact ⟨oL, es, ep, k₄ _ _ nL hL, r⟩
  show PySem.wpAt _ _ _ _ _ _ _
  refine ks_wpAt_execs_cons (ks_wpAt_Assign_Attr ?_)
  refine wpAt_of_wpAny (ldA (m := m) hns4 va (ldA (m := m) hns4 vself ?_ rfl ksf (by decide)) rfl ka kdb)
  refine set_plain X4 (ox := excO C t1) (od := none) ⟨hx4, rfl, rfl, trivial⟩ T.sa ?_
  refine exc_osa X4 hx4 hcl (show refsVE (.ref C :: bm) = true from hbm) rfl T.noN (fun h₅ tk₅ dx k₅ dn dne hx₅ hn₅ => ?_)
  show PySem.wpAt _ _ _ (execs [] _) _ _ _
  refine wpAt_of_wpAny (wpAny_execs_nil (hq h₅ tk₅ dx t1 ⟨fun b o hb e => k₅ b o hb (k₄ b o hb (k₃ b o (k₂ b o (k₁ b o e)))), hx₅, ?_, dne, hn₅⟩))
  have z1 : s.heap.objs.size < h₁.objs.size := hns.lt
  have z2 : s.heap.objs.size < h₄.objs.size := hns4.lt
  exact Nat.le_trans (Nat.le_of_lt z2) dn
end
end EX
end

section
set_option Elab.async false
set_option linter.all false
set_option maxRecDepth 100000
set_option maxHeartbeats 4000000
namespace EX
open PySem PySem.W PySem.Calls PyProof.Rows PySem.HandSPX
/-- an own error, made: at e, its dict at d -/
structure ErrMade (h h' : Heap) (e C d : Addr) (a : Str) (v : Value) : Prop where
  old : ∀ b o, h.get? b = some o → h'.get? b = some o
  enew : h.objs.size ≤ e
  ebj : ∃ oe us, h'.get? e = some oe ∧ oe.cls = .ref C ∧ oe.dict = some d ∧ oe.data = .fields us ∧ us[1]? = some .none ∧ us[2]? = some .none
  dnew : h.objs.size ≤ d
  apart : d ≠ e
  fld : h'.Ns1 d (fun y => if y = a then some v else none)
section
variable {prog : Program} {w : World} {A : Around} {E : Value → Shared → Prop} {R : Result → Shared → Prop} {s : Shared} {K : Frag} {mg : Str → Option Value} {base : Heap} {C fI : Addr} {a txt : Str}
theorem err_made (T : ErrTxt prog K C fI a txt) (ht : txt.length ≤ 1000) (na : NmOk a) (M : L2.Mod K mg base) (hsup : mg "super" = none) (kb : ∀ b o, base.get? b = some o → s.heap.get? b = some o) (hroom : A.depth + 1 < recursionLimit)
    {v : Value} (sm : Small v) (hq : ∀ h' tk e d, ErrMade s.heap h' e C d a v → R (.ok (.ret (.ref e))) { s with heap := h', toks := tk }) : codeAny (model prog w) A (.call (.ref C) ⟨[v], []⟩) R s := by
  obtain ⟨nm, q, N, bs, bm, sn, sub, ab, col, dd, k0, k1, k2, k3, k5, hC, hbm⟩ := T.cls
  have X : K.In s.heap := M.kin.keeps kb
  obtain ⟨h0, g, dr, tk, os⟩ := s
  have up : ∀ b o, h0.get? b = some o → ((h0.push (kdv_tup [v])).push (excO C h0.objs.size)).get? b = some o := fun b o e => Heap.get?_push_of_some _ (Heap.get?_push_of_some _ e)
  have at1 : ((h0.push (kdv_tup [v])).push (excO C h0.objs.size)).get? (h0.objs.size + 1) = some (excO C h0.objs.size) := by heap_get
  have fresh : K.lookup (h0.objs.size + 1) = none := by
    cases e : K.lookup (h0.objs.size + 1) with
    | none => rfl
    | some o =>
      have z := Heap.lt_size (show h0.get? (h0.objs.size + 1) = some o from X _ _ e)
      exact absurd (Nat.lt_of_succ_lt z) (Nat.lt_irrefl _)
  refine call_own F.excBase_ValueError (fun Y => refsVE_contains Y bm hbm) (X _ _ hC) (looks_findIn X T.iC) (fun self => bind_fn X self T.tC) (by rw [sizeLine_eq]; exact (by decide : 1 ≤ 16777216)) ?_
  refine err_init (s := ⟨(h0.push (kdv_tup [v])).push (excO C h0.objs.size), g, dr, tk, os⟩) T ht na M hsup (fun b o e => up b o (kb b o e)) hroom at1 fresh sm fun h' tk' dx t1 ie => ?_
  have sz : ((h0.push (kdv_tup [v])).push (excO C h0.objs.size)).objs.size = h0.objs.size + 1 + 1 := by rw [Heap.size_push, Heap.size_push]
  have dbig := ie.dbig
  have dbig' : h0.objs.size + 1 + 1 ≤ dx := by rw [← sz]; exact dbig
  exact ⟨rfl, hq h' tk' (h0.objs.size + 1) dx ⟨fun b o e => ie.keep b o (Nat.ne_of_lt (Nat.lt_succ_of_lt (Heap.lt_size e))) (up b o e), Nat.le_succ _, ⟨_, _, ie.obj, rfl, rfl, rfl, rfl, rfl⟩, Nat.le_trans (Nat.le_trans (Nat.le_succ _) (Nat.le_succ _)) dbig', ie.dne, ie.ns⟩⟩
end
end EX
namespace L2
open PySem PySem.Spec PyProof.Rows EX
theorem relO_one {a : Str} {v : V} {u : Value} (r : RelV v u) (f : Str) : RelO (List.lookup f [(a, v)]) (if f = a then some u else none) := by
  rw [lookup_put]
  by_cases c : f = a
  · rw [if_pos c, if_pos c]
    exact r
  · rw [if_neg c, if_neg c]
    exact True.intro
inductive SmallV : V → Prop
  | str (y : Str) : y.length ≤ 1000 → SmallV (.str y)
  | int (i : Int) : i.natAbs.log2 < 1000 → SmallV (.int i)
theorem SmallV.of {v : V} {u : Value} (h : SmallV v) (r : RelV v u) : Small u := by
  cases h with
  | str y h =>
    obtain ⟨t, rfl⟩ := r
    exact .str y t h
  | int i h =>
    obtain ⟨t, rfl⟩ := r
    exact .int i t h
section
variable {X : Cx} {C fI : Addr} {a txt x : Str}
/-- C(e), C an own error's class; its field a -/
def tMkErr (C : Addr) (a : Str) (ta : TA) : St → Hp → XK → Prop := fun σ H Q => ta σ H fun vs H1 => ∃ v, vs = [v] ∧ SmallV v ∧ ∀ d, H1 d = none → Q (.ref C) (some d) (upd H1 d (.xd [(a, v)]))
theorem pmk_err {e : Expr} {ta : TA} {p pos : Pos} {k : Nat} (T : ErrTxt X.prog X.K C fI a txt) (ht : txt.length ≤ 1000) (na : NmOk a) (hsup : X.mg "super" = none) (gC : X.mg x = some (.ref C)) (hr : Room k X.A) (ha : PA X [e] ta) (hg : Gl X x)
    (hdb : (x == ("__debug__" : Str)) = false := by decide) (he : starEach (e :: []) X.env = (false, eval e X.env) :: starEach [] X.env := by rfl) (hpl : (backTo pos (starEach [] X.env)).any (·.1) = false := by rfl) :
    L2N.PMk X (.Call (.Name x p) [e] [] pos) (tMkErr C a ta) := by
  intro pins s σ H Q I h
  refine wpAny_Call_Name_kw (ld_glob I hg gC ?_ hdb)
  refine PySem.W.callWith_K (h₀ := X.base) I.ok.mod.kin T.kC (thn (ha.run pos pins s σ H _ I h) fun us s1 ⟨vs, H1, I1, r1, v, ev, sm, q1⟩ => ⟨I1.kIn, ?_⟩) he hpl
  subst ev
  cases r1 with
  | @cons _ u _ ur rv rn =>
    cases rn
    show wpAny _ _ (call (.ref C) [u]) _ _ _
    obtain ⟨h0, g, dr, tk, os⟩ := s1
    refine wpAny_call (err_made T ht na I1.mod hsup I1.bk (by have := hr.dp; omega) (sm.of rv) fun h' tk' e d M => ?_)
    show L2N.MkP X pins σ Q (.ref e) ⟨h', g, dr, tk', os⟩
    obtain ⟨oe, fv, e1, e2, e3, e4, e5, e6⟩ := M.ebj
    obtain ⟨G, g1, g2⟩ := restrict h' fun b => decide (b ≠ e)
    have gk : ∀ b, b ≠ e → G.get? b = h'.get? b := fun b hb => g1 b (decide_eq_true hb)
    have ge : G.get? e = none := g2 e (by simp)
    have old : ∀ b o, h0.get? b = some o → G.get? b = some o := fun b o q => (gk b (Nat.ne_of_lt (Nat.lt_of_lt_of_le (Heap.lt_size q) M.enew))).trans (M.old b o q)
    have ok1 : ObjOk X.prog X.w (upd H1 d (.xd [(a, v)])) G d (.xd [(a, v)]) := ⟨_, M.fld.at (fun o q => (gk d M.apart).trans q), fun f => relO_one rv f⟩
    have J : Inv X pins σ (upd H1 d (.xd [(a, v)])) ⟨G, g, dr, tk', os⟩ := I1.laid (t' := tk') old M.dnew ok1
    refine ⟨e, oe, fv, ⟨G, g, dr, tk', os⟩, _, .ref C, some d, rfl, J, fun b o q => ?_, ge, e1, ⟨e2, e3, fun us hu => by rw [e4] at hu; cases hu; exact e6⟩, e4, e5, ?_, rfl, I1.bare, raises_own T.exC T.tyC, q1 d (I1.hok.fresh M.dnew)⟩
    · by_cases hb : b = e
      · have q' : G.get? b = some o := q
        rw [hb, ge] at q'
        cases q'
      · exact (gk b hb).symm.trans q
    · rw [upd_ne (Ne.symm M.apart)]
      exact I1.hok.fresh M.enew
/-- raise C(e) -/
def tRaiseErr (C : Addr) (a : Str) (W : WX) (ta : TA) : TS := fun _ σ H => tMkErr C a ta σ H fun cls d H' => W cls d σ H'
theorem ps_raiseErr {e : Expr} {ta : TA} {W : WX} {p pos pos2 : Pos} {k : Nat} (hc : X.calm = true) (tk : L2N.Takes X W) (T : ErrTxt X.prog X.K C fI a txt) (ht : txt.length ≤ 1000) (na : NmOk a) (hsup : X.mg "super" = none) (gC : X.mg x = some (.ref C)) (hr : Room k X.A) (ha : PA X [e] ta) (hg : Gl X x)
    (hdb : (x == ("__debug__" : Str)) = false := by decide) (he : starEach (e :: []) X.env = (false, eval e X.env) :: starEach [] X.env := by rfl) (hpl : (backTo pos (starEach [] X.env)).any (·.1) = false := by rfl) :
    PS X (.Raise (some (.Call (.Name x p) [e] [] pos)) none pos2) (tRaiseErr C a W ta) := L2N.ps_raise hc tk (pmk_err T ht na hsup gC hr ha hg hdb he hpl)
/-- the error that the suite holds, at e0 (its class cls, its dict d): its field -/
def tErrFld (C : Addr) (a : Str) (e0 : Addr) (cls : Value) (d : Option Addr) (te : TE) : TE := fun σ H Q => te σ H fun x H1 => x = .ref e0 ∧ cls = .ref C ∧ ∃ (dd : Addr) (v : V), d = some dd ∧ H1 dd = some (.xd [(a, v)]) ∧ Q v H1
theorem pe_errFld {e0 : Addr} {oe : Obj} {cls : Value} {d : Option Addr} {pn : List (Addr × Obj)} {e : Expr} {te : TE} {pos : Pos} (T : ErrTxt X.prog X.K C fI a txt) (hz : Zc cls d oe) (hf : ∃ vs, oe.data = .fields vs) (he : PE (X.suite e0 ((e0, oe) :: pn)) e te)
    (hb : attributeBase e a X.env (eval e X.env) = eval e X.env := by rfl) : PE (X.suite e0 ((e0, oe) :: pn)) (.Attribute e a pos) (tErrFld C a e0 cls d te) := by
  refine ⟨fun pins s σ H Q I h => attr_of hb (thn (he.run pins s σ H _ I h) fun u s1 hh => ?_)⟩
  obtain ⟨x, H1, I1, rx, ex, ec, dd, v, ed, ea, q⟩ := hh
  subst ex
  obtain rfl : u = Value.ref e0 := rx
  subst ec
  subst ed
  obtain ⟨ha, _⟩ := I1.pin (e0, oe) (List.mem_append_left _ List.mem_cons_self)
  obtain ⟨vs, hd⟩ := hf
  have ox : ObjOk X.prog X.w H1 s1.heap dd (.xd [(a, v)]) := I1.hok dd _ ea
  obtain ⟨mA, hns, hr⟩ := ox
  obtain ⟨od, ho, hl⟩ := lookIn_ns hns
  have l : List.lookup a [(a, v)] = some v := by rw [lookup_put, if_pos rfl]
  obtain ⟨u, hu, ru⟩ := RelO.some_of (v := v) (o := mA a) (by rw [← l]; exact hr a)
  have J : PySem.W.InstAt s1.heap e0 oe C (some od) := ⟨ha, hz.1, by unfold PySem.W.notCls; rw [hd] <;> rfl, by rw [hz.2]; exact ho⟩
  exact HandSPX.exc_get I1.kIn J T.ga T.gg T.exC (PySem.W.findObj_own T.hdC T.noN rfl (by rw [hl, hu])) (handed_of ru) ⟨v, H1, I1.tok _, ru, q⟩
end
end L2
end

section
set_option Elab.async false
set_option linter.all false
set_option maxRecDepth 100000
set_option maxHeartbeats 4000000
namespace DL
open PySem PySem.Spec PyProof.Rows L2
open Evl (Ex)
/-! ### things: their fields -/
def putNs (f : Str) : List Str → List Str
  | [] => [f]
  | n :: ns => if n == f then n :: ns else n :: putNs f ns
def putDs (f : Str) (d : D) : List Str → List D → List D
  | [], _ => [d]
  | _, [] => [d]
  | n :: ns, x :: l => if n == f then d :: l else x :: putDs f d ns l
theorem putF_ns (f : Str) (y : V) : ∀ fs : List (Str × V), (putF f y fs).map (·.1) = putNs f (fs.map (·.1))
  | [] => rfl
  | (g, x) :: r => by
    show (if g = f then (g, y) :: r else (g, x) :: putF f y r).map (·.1) = (if g == f then g :: r.map (·.1) else g :: putNs f (r.map (·.1)))
    by_cases c : g = f
    · rw [if_pos c, if_pos (beq_iff_eq.mpr c)]
      rfl
    · rw [if_neg c, if_neg (fun z => c (beq_iff_eq.mp z)), List.map_cons, putF_ns f y r]
theorem putF_ds {K : PySem.W.Frag} {S : Hp} {f : Str} {y : V} {d : D} (h : Rep K S y d) : ∀ {fs : List (Str × V)} {l : List D}, Reps K S (fs.map (·.2)) l → Reps K S ((putF f y fs).map (·.2)) (putDs f d (fs.map (·.1)) l)
  | [], _, r => by
    cases r
    exact .cons h .nil
  | (g, x) :: fs, _, r => by
    cases r with
    | cons r1 r2 =>
      rename_i d1 ds
      show Reps K S ((if g = f then (g, y) :: fs else (g, x) :: putF f y fs).map (·.2)) (if g == f then d :: ds else d1 :: putDs f d (fs.map (·.1)) ds)
      by_cases c : g = f
      · rw [if_pos c, if_pos (beq_iff_eq.mpr c)]
        exact .cons h r2
      · rw [if_neg c, if_neg (fun z => c (beq_iff_eq.mp z))]
        exact .cons r1 (putF_ds h r2)
/-- name.f, the name's own thing -/
def dFldF (C0 : Addr) (i : Nat) (f : Str) : DM := fun env Q => match env[i]? with
  | some (some (.fix _ (.ins C _ ns l))) => C = C0 ∧ ∃ d, lookF f ns l = some d ∧ Q env (.val d)
  | _ => False
/-- name.f = e -/
def dPutA (C0 : Addr) (i : Nat) (f : Str) (m : DM) : DSM := fun E env => dKeep m env fun env1 r => match r, env1[i]? with
  | .val d, some (some (.fix p (.ins C dx ns l))) => C = C0 ∧ ns.length < 1000 ∧ E.nx (env1.set i (some (.fix p (.ins C dx (putNs f ns) (putDs f d ns l)))))
  | _, _ => False
/-- name.f op= e, plain ints -/
def dAugA (C0 : Addr) (i : Nat) (f : Str) (o : Int → Int → Int) (m : DM) : DSM := fun E env => match env[i]? with
  | some (some (.fix _ (.ins C1 _ ns l))) => C1 = C0 ∧ ∃ x, lookF f ns l = some (.int x) ∧ m env fun env1 r => match r, env1[i]? with
    | .val (.int y), some (some (.fix p (.ins C dx ns l))) => C = C0 ∧ ns.length < 1000 ∧ E.nx (env1.set i (some (.fix p (.ins C dx (putNs f ns) (putDs f (.int (o x y)) ns l)))))
    | _, _ => False
  | _ => False
section
variable {X : Cx} {a b : Expr} {ma mb : DM} {ta tb : TE} {i : Nat} {x f : Str} {xp tp pos : Pos} {C0 : Addr}
theorem de_fldF (hc : Cls X.K C0) (hn : NoAttr X.K C0 f) (hv : PE X a (tVar i)) (hb : attributeBase a f X.env (eval a X.env) = eval a X.env := by rfl) : DE X (.Attribute a f pos) (dFldF C0 i f) (tFld X.K (tVar i) f) := by
  refine ⟨pe_fld hv hb, fun B S H env σ Q Qv s q k => ?_⟩
  unfold dFldF at q
  split at q
  · rename_i p C dx ns l c
    obtain ⟨rfl, d, q1, q2⟩ := q
    obtain ⟨h1, h2, h3, o, h4, fs, rfl, rfl, h5⟩ := s.fix i p _ c
    obtain ⟨w, w1, w2⟩ := h5.lookF q1
    exact ⟨_, h1, p, _, dx, fs, w, rfl, h4, hc, hn, w1, k w H S env (.val d) ⟨s, .refl, .refl _, w2⟩ q2⟩
  · exact q.elim
theorem ds_putA (hc : Cls X.K C0) (hn : NoAttr X.K C0 f) (hv : PE X b (tVar i)) (ha : DE X a ma ta) (hs : swapsWith a (some (.Attribute b f tp)) pos.line X.env = pure false := by rfl) :
    DS X (.Assign [.Attribute b f tp] a pos) (dPutA C0 i f ma) (sFld X.K (tVar i) ta f) := by
  obtain ⟨t1, t2⟩ := de_keep ha
  refine ⟨ps_fld hv t1 hs, fun B S H env σ E D s q e => ?_⟩
  refine t2 B S H env σ _ _ s q fun v H1 S1 env1 r z q1 => ?_
  split at q1
  · rename_i d p C' dx ns l c
    obtain ⟨rfl, q1⟩ := q1
    obtain ⟨h1, h2, h3, o, h4, fs, rfl, rfl, h5⟩ := z.sr.fix i p _ c
    rw [List.length_map] at q1
    refine ⟨_, h1, p, C', dx, fs, rfl, h4, hc, hn, q1.1, ?_⟩
    exact e.nx S1 _ _ σ (z.sr.putF (l' := .ins C' dx (putNs f (fs.map (·.1))) (putDs f d (fs.map (·.1)) l)) c ⟨_, rfl, putF_ns f v fs, putF_ds z.res h5⟩) q1.2
  · exact q1.elim
theorem ds_augA {op : Operator} {o : Int → Int → Int} {rd : V → V → Hp → VK → Prop} (hc : Cls X.K C0) (hn : NoAttr X.K C0 f) (hv : PE X b (tVar i)) (ha : DE X a ma ta) (hop : InOp X op rd) (hrd : ∀ x y H Q, Q (.int (o x y)) H → rd (.int x) (.int y) H Q) :
    DS X (.AugAssign (.Attribute b f tp) op a pos) (dAugA C0 i f o ma) (sFldAug X.K (tVar i) ta rd f) := by
  refine ⟨ps_fldaug hv ha.1 hop, fun B S H env σ E D s q e => ?_⟩
  unfold dAugA at q
  split at q
  · rename_i p0 C dx0 ns0 l0 c0
    obtain ⟨rfl, x, q1, q2⟩ := q
    obtain ⟨g1, g2, g3, o', g4, fs0, rfl, rfl, g6⟩ := s.fix i p0 _ c0
    obtain ⟨w, w1, w2⟩ := g6.lookF q1
    cases w2
    refine ⟨_, g1, p0, _, dx0, fs0, _, rfl, g4, hc, hn, w1, ?_⟩
    refine ha.2 B S H env σ _ _ s q2 fun v H1 S1 env1 r z q3 => ?_
    split at q3
    · rename_i y p C' dx ns l c
      obtain ⟨rfl, q3⟩ := q3
      obtain ⟨h1, h2, h3, o', h4, fs, rfl, rfl, h5⟩ := z.sr.fix i p _ c
      cases Slt.ref g1 h1
      have zr : Rep X.K S1 v (.int y) := z.res
      cases zr
      rw [List.length_map] at q3
      refine hrd x y H1 _ ⟨dx, fs, h4, q3.1, ?_⟩
      exact e.nx S1 _ _ σ (z.sr.putF (l' := .ins C' dx (putNs f (fs.map (·.1))) (putDs f (.int (o x y)) (fs.map (·.1)) l)) c ⟨_, rfl, putF_ns f _ fs, putF_ds (.int _) h5⟩) q3.2
    · exact q3.elim
  · exact q.elim
end
end DL
end

section
set_option Elab.async false
set_option linter.all false
set_option maxRecDepth 100000
set_option maxHeartbeats 4000000
namespace DL
open PySem PySem.Spec PyProof.Rows L2
open Evl (Ex)
/-! ### promises of defs that may raise -/
theorem _root_.L2.Fun.okN {P : Program} {w : World} {K : PySem.W.Frag} {mg : Str → Option Value} {base : Heap} {x qual : Str} {st : Stmt} {f : Addr} {fd : FuncData} {N ps : List Str} {k : Nat} {sp : Sp} (F : Fun K x qual st f fd) (Sc : FnScope N ps (defScope st)) (len : ∀ vs H Q E, sp vs H Q E → vs.length = ps.length)
    (h : ∀ (cdv : Value) (A : Around) (outer : List Env) (s : Shared) (H : Hp) (vs : List V) (Q : VK) (E : XK), Room k (A.deeper (envOfC qual (defScope st) s.heap.objs.size f cdv)) → sp vs H Q E →
      ∃ t, PSs (cxOf (L2N.CX P w) P w K mg base N qual (defScope st) f cdv A outer s H E) (defBody st) t ∧ t { nx := fun _ H' => Q .non H', rt := Q } (L2.start N vs) H) : FnOk P w K mg base (L2N.CX P w) (k + 1) f fd ps sp := by
  obtain ⟨oc, od, kV, doc, pm, an, cdv, ct, osl, rfl, lk, hcd⟩ := F.ex
  exact fn_of lk hcd Sc len fun A outer s H vs Q E hr hsp => h cdv A outer s H vs Q E hr hsp
abbrev FME := List R → (R → Prop) → (Xd → Prop) → Prop
abbrev FMM := List R → FxL → (R → FxL → Prop) → (Xd → Prop) → Prop
/-- what an error leaves behind -/
def Lft (K : PySem.W.Frag) (S H : Hp) (pa : Option Addr) (Qx : Xd → Prop) (E : XK) : Prop := ∀ (x : Xd) (d : Addr) (v : V) (H' S' : Hp), DRet K S H pa S' H' (.val .non) .non → H d = none → S' d = none → H' d = some (.xd [(x.a, v)]) → Rep K S' v x.v → Qx x → E (.ref x.C) (some d) H'
def spE (K : PySem.W.Frag) (n : Nat) (F : FME) : Sp := fun vs H Q E => ∃ (S : Hp) (pa : Option Addr) (rs : List R) (Qd : R → Prop) (Qx : Xd → Prop), Ex S H ∧ (∀ a, pa = some a → PoolAt S H a) ∧ ArgR K S pa vs rs ∧ vs.length = n ∧ F rs Qd Qx ∧
  (∀ v H' S' r, DRet K S H pa S' H' r v → Qd r → Q v H') ∧ Lft K S H pa Qx E
/-- the first argument is a thing that it may change -/
def spM (K : PySem.W.Frag) (n : Nat) (F : FMM) : Sp := fun vs H Q E => ∃ (S : Hp) (pa : Option Addr) (p : Addr) (vs1 : List V) (rs : List R) (l : FxL) (Qd : R → FxL → Prop) (Qx : Xd → Prop), vs = .ref p :: vs1 ∧ Ex S H ∧ (∀ a, pa = some a → PoolAt S H a) ∧ ArgR K S pa vs1 rs ∧ vs.length = n ∧
  (S p = none ∧ pa ≠ some p ∧ ∃ o, H p = some o ∧ FxAt K S l o) ∧ F rs l Qd Qx ∧
  (∀ v H' S' r l', DRet K S (lose H p) pa S' H' r v → (S' p = none ∧ ∃ o, H' p = some o ∧ FxAt K S' l' o) → Qd r l' → Q v H') ∧ Lft K S (lose H p) pa Qx E
theorem spE.imp {K : PySem.W.Frag} {n : Nat} {F F' : FME} (h : ∀ rs Q Qx, F' rs Q Qx → F rs Q Qx) : ∀ vs H Q E, spE K n F' vs H Q E → spE K n F vs H Q E :=
  fun vs H Q E ⟨S, pa, rs, Qd, Qx, h1, h2, h3, h4, h5, h6⟩ => ⟨S, pa, rs, Qd, Qx, h1, h2, h3, h4, h _ _ _ h5, h6⟩
theorem spM.imp {K : PySem.W.Frag} {n : Nat} {F F' : FMM} (h : ∀ rs l Q Qx, F' rs l Q Qx → F rs l Q Qx) : ∀ vs H Q E, spM K n F' vs H Q E → spM K n F vs H Q E :=
  fun vs H Q E ⟨S, pa, p, vs1, rs, l, Qd, Qx, h0, h1, h2, h3, h4, h5, h6, h7⟩ => ⟨S, pa, p, vs1, rs, l, Qd, Qx, h0, h1, h2, h3, h4, h5, h _ _ _ _ h6, h7⟩
/-- what a body makes of the arguments -/
def bodyE (n : Nat) (m : DSM) : FME := fun rs Qd Qx => m { nx := fun _ => Qd (.val .non), rt := fun _ r => Qd r, xc := Qx } (startD n rs)
def startM (n : Nat) (p : Addr) (l : FxL) (rs : List R) : En := (some (.fix p l) :: rs.map R.nv) ++ List.replicate (n - (rs.length + 1)) none
def bodyM (n : Nat) (m : DSM) : FMM := fun rs l Qd Qx => ∀ p : Addr, m { nx := fun env => ∃ l', Has env 0 (.fix p l') ∧ Qd (.val .non) l', rt := fun env r => ∃ l', Has env 0 (.fix p l') ∧ Qd r l', xc := Qx } (startM n p l rs)
section
variable {K : PySem.W.Frag} {S H S' H' : Hp} {pa : Option Addr} {B : Bs} {env : En} {σ : L2.St}
theorem SR.entryM {vs : List V} {rs : List R} {N : List Str} {p : Addr} {l : FxL} {o : HO} (h1 : Ex S H) (h2 : ∀ a, pa = some a → PoolAt S H a) (h3 : ArgR K S pa vs rs) (p1 : S p = none) (p2 : pa ≠ some p) (p3 : H p = some o) (p4 : FxAt K S l o) : SR K ⟨S, lose H p, pa⟩ S H (startM N.length p l rs) (L2.start N (.ref p :: vs)) := by
  have hl := h3.length
  have get : ∀ i n, Has (startM N.length p l rs) i n → (i = 0 ∧ n = .fix p l) ∨ ∃ j, i = j + 1 ∧ (rs.map R.nv)[j]? = some (some n) := fun i n h => by
    cases i with
    | zero =>
      have h' : some (some (Nv.fix p l)) = some (some n) := h
      cases h'
      exact .inl ⟨rfl, rfl⟩
    | succ j =>
      have h' : (rs.map R.nv ++ List.replicate (N.length - (rs.length + 1)) none)[j]? = some (some n) := h
      rcases Nat.lt_or_ge j (rs.map R.nv).length with c | c
      · rw [List.getElem?_append_left c] at h'
        exact .inr ⟨j, rfl, h'⟩
      · rw [List.getElem?_append_right c] at h'
        have := List.mem_of_getElem? h'
        rw [List.mem_replicate] at this
        cases this.2
  have slt : ∀ i v, (V.ref p :: vs)[i]? = some v → Slt (L2.start N (.ref p :: vs)) i v := fun i v h => by
    unfold L2.start
    have c : i < ((V.ref p :: vs).map some).length := by
      rw [List.length_map]
      exact (List.getElem?_eq_some_iff.mp h).1
    show ((V.ref p :: vs).map some ++ List.replicate (N.length - (V.ref p :: vs).length) none)[i]? = some (some v)
    rw [List.getElem?_append_left c, List.getElem?_map, h]
    rfl
  have slt1 : ∀ j v, vs[j]? = some v → Slt (L2.start N (.ref p :: vs)) (j + 1) v := fun j v h => slt (j + 1) v h
  refine ⟨Ex.refl _, fun _ _ _ h => h, fun a o h _ => (lose_some h).2, fun a h => ?_, ?_, h1, fun i d h => ?_, fun i m h => ?_, fun i j m m2 q h _ _ _ => ?_, fun i h => ?_, fun a h => ⟨h2 a h, ?_⟩, fun i q m h => ?_, fun i j q m m2 _ h _ => ?_, fun i j q m m2 h h' => ?_, fun a h => congrArg headO (lose_ne (H := H) (fun c => p2 (by rw [← c]; exact h))).symm⟩
  · by_cases c : a = p
    · subst c
      exact lose_same
    · exact (lose_ne c).trans h
  · unfold startM L2.start
    simp only [List.length_append, List.length_map, List.length_replicate, List.length_cons]
    omega
  · rcases get i _ h with ⟨_, h⟩ | ⟨j, rfl, g⟩
    · cases h
    · obtain ⟨v, q1, ⟨d', e, q2⟩ | ⟨e, _⟩⟩ := h3.get g
      · cases e
        exact ⟨v, slt1 j v q1, q2⟩
      · cases e
  · rcases get i _ h with ⟨_, h⟩ | ⟨j, rfl, g⟩
    · cases h
    · obtain ⟨v, q1, ⟨d', e, q2⟩ | ⟨e, _⟩⟩ := h3.get g
      · cases e
      · cases e
  · rcases get i _ h with ⟨_, h⟩ | ⟨j, rfl, g⟩
    · cases h
    · obtain ⟨v, q1, ⟨d', e, q2⟩ | ⟨e, _⟩⟩ := h3.get g
      · cases e
      · cases e
  · rcases get i _ h with ⟨_, h⟩ | ⟨j, rfl, g⟩
    · cases h
    · obtain ⟨v, q1, ⟨d', e, q2⟩ | ⟨e, a, q2, q3⟩⟩ := h3.get g
      · cases e
      · subst q3
        exact ⟨a, q2, slt1 j _ q1⟩
  · obtain ⟨_, l, cells, pos, big, seed, cnt, bud, k1, _⟩ := h2 a h
    exact ⟨_, (lose_ne (fun c => p2 (by rw [← c]; exact h))).trans k1⟩
  · rcases get i _ h with ⟨e, h⟩ | ⟨j, rfl, g⟩
    · cases h
      subst e
      exact ⟨slt 0 _ rfl, p1, lose_same, o, p3, p4⟩
    · obtain ⟨v, q1, ⟨d', e, q2⟩ | ⟨e, _⟩⟩ := h3.get g
      · cases e
      · cases e
  · rcases get j _ h with ⟨_, h⟩ | ⟨j', rfl, g⟩
    · cases h
    · obtain ⟨v, q1, ⟨d', e, q2⟩ | ⟨e, _⟩⟩ := h3.get g
      · cases e
      · cases e
  · rcases get i _ h with ⟨e, h⟩ | ⟨j1, rfl, g⟩
    · rcases get j _ h' with ⟨e', h'⟩ | ⟨j2, rfl, g⟩
      · rw [e, e']
      · obtain ⟨v, q1, ⟨d', e, q2⟩ | ⟨e, _⟩⟩ := h3.get g
        · cases e
        · cases e
    · obtain ⟨v, q1, ⟨d', e, q2⟩ | ⟨e, _⟩⟩ := h3.get g
      · cases e
      · cases e
/-- what stands behind a def's run -/
theorem SR.dret {S0 H0 : Hp} {r : R} {v : V} (s : SR K ⟨S0, H0, pa⟩ S' H' env σ) (h : RetR K ⟨S0, H0, pa⟩ S' H' r v) : DRet K S0 H0 pa S' H' r v :=
  ⟨s.ex0, s.ex, s.keep0, s.nw0, s.old0, fun a e => (s.pool a e).1, s.pin, h⟩
end
section
variable {P : Program} {w : World} {K : PySem.W.Frag} {mg : Str → Option Value} {base : Heap} {x qual : Str} {st : Stmt} {f : Addr} {fd : FuncData} {N ps : List Str} {k : Nat} {m : DSM}
theorem lft_xc {A : Around} {outer : List Env} {s : Shared} {H : Hp} {E : XK} {cdv : Value} {scope : Scope} {S H0 : Hp} {pa : Option Addr} {Qx : Xd → Prop} (h : Lft K S H0 pa Qx E) : ∀ σ, XcOk (cxOf (L2N.CX P w) P w K mg base N qual scope f cdv A outer s H E) ⟨S, H0, pa⟩ σ Qx :=
  fun σ S' H' env d x v sr h0 h1 hd r q => wk_of (W := fun cls d _ H => E cls d H) (L2N.takes_of rfl rfl rfl rfl) (h x d v H' S' (sr.dret (r := .val .non) (v := .non) .non) h0 h1 hd r q)
theorem fn_dE (F : Fun K x qual st f fd) (Sc : FnScope N ps (defScope st))
    (hbody : ∀ (cdv : Value) (A : Around) (outer : List Env) (s : Shared) (H : Hp) (E : XK), Room k (A.deeper (envOfC qual (defScope st) s.heap.objs.size f cdv)) → ∃ t, DSs (cxOf (L2N.CX P w) P w K mg base N qual (defScope st) f cdv A outer s H E) (defBody st) m t) :
    FnOk P w K mg base (L2N.CX P w) (k + 1) f fd ps (spE K ps.length (bodyE N.length m)) := by
  refine F.okN Sc (fun vs H Q E h => ?_) fun cdv A outer s H vs Q E hr h => ?_
  · obtain ⟨S, pa, rs, Qd, Qx, h1, h2, h3, h4, h5⟩ := h
    exact h4
  · obtain ⟨S, pa, rs, Qd, Qx, h1, h2, h3, h4, h5, h6, h7⟩ := h
    obtain ⟨t, t1, t2⟩ := hbody cdv A outer s H E hr
    refine ⟨t, t1, t2 ⟨S, H, pa⟩ S H _ _ _ _ (SR.entry h1 h2 h3) h5 ?_⟩
    exact ⟨fun S' H' env σ s q => h6 _ _ _ (.val .non) (s.dret .non) q, fun S' H' env σ r v s q z => h6 _ _ _ _ (s.dret q) z, fun _ _ _ _ _ z => z.elim, fun _ _ _ _ _ z => z.elim, lft_xc h7⟩
theorem fn_dM (F : Fun K x qual st f fd) (Sc : FnScope N ps (defScope st))
    (hbody : ∀ (cdv : Value) (A : Around) (outer : List Env) (s : Shared) (H : Hp) (E : XK), Room k (A.deeper (envOfC qual (defScope st) s.heap.objs.size f cdv)) → ∃ t, DSs (cxOf (L2N.CX P w) P w K mg base N qual (defScope st) f cdv A outer s H E) (defBody st) m t) :
    FnOk P w K mg base (L2N.CX P w) (k + 1) f fd ps (spM K ps.length (bodyM N.length m)) := by
  refine F.okN Sc (fun vs H Q E h => ?_) fun cdv A outer s H vs Q E hr h => ?_
  · obtain ⟨S, pa, p, vs1, rs, l, Qd, Qx, h0, h1, h2, h3, h4, h5⟩ := h
    exact h4
  · obtain ⟨S, pa, p, vs1, rs, l, Qd, Qx, rfl, h1, h2, h3, h4, ⟨p1, p2, o, p3, p4⟩, h5, h6, h7⟩ := h
    obtain ⟨t, t1, t2⟩ := hbody cdv A outer s H E hr
    refine ⟨t, t1, t2 ⟨S, lose H p, pa⟩ S H _ _ _ _ (SR.entryM h1 h2 h3 p1 p2 p3 p4) (h5 p) ?_⟩
    have fin : ∀ {S' H' : Hp} {env : En} {σ : L2.St} {r : R} {v : V}, SR K ⟨S, lose H p, pa⟩ S' H' env σ → RetR K ⟨S, lose H p, pa⟩ S' H' r v → (∃ l', Has env 0 (.fix p l') ∧ Qd r l') → Q v H' := fun s r ⟨l', f, q⟩ => by
      obtain ⟨_, k2, _, o, k4, k5⟩ := s.fix _ _ _ f
      exact h6 _ _ _ _ l' (s.dret r) ⟨k2, o, k4, k5⟩ q
    exact ⟨fun S' H' env σ s q => fin s (r := .val .non) .non q, fun S' H' env σ r v s q z => fin s q z, fun _ _ _ _ _ z => z.elim, fun _ _ _ _ _ z => z.elim, lft_xc h7⟩
end
/-! ### calls -/
section
variable {K : PySem.W.Frag} {S H S' H' : Hp} {B : Bs} {env : En} {σ : L2.St}
/-- a thing is lost from sight -/
theorem SR.lost {p : Addr} {i : Nat} {l : FxL} {r : R} {v : V} (s : SR K B S H env σ) (h : Has env i (.fix p l)) (d : DRet K S (lose H p) B.pa S' H' r v) : SR K B S' H' (env.set i none) σ := by
  obtain ⟨h1, h2, h3, o, h4, h5⟩ := s.fix i p l h
  have s1 : SR K B S H (env.set i none) σ := by
    have q := s.drop (i := i) (n := some (.ref p))
    have e : σ.set i (some (.ref p)) = σ := by
      refine List.ext_getElem? fun j => ?_
      by_cases c : i = j
      · subst c
        rw [List.getElem?_set_self (List.getElem?_eq_some_iff.mp h1).1]
        exact h1.symm
      · rw [List.getElem?_set_ne c]
    rw [e] at q
    exact q
  refine s1.given h3 (fun w => ?_) d
  rcases w with w | ⟨j, m, w1, w2⟩ | ⟨j, m, w1⟩
  · obtain ⟨_, o, z⟩ := s.pool p w
    rw [h3] at z
    cases z
  · by_cases c : j = i
    · subst c
      exact nomatch set_self w1
    · exact s.dfx i j p l m h (set_other w1 c) w2
  · by_cases c : j = i
    · subst c
      exact nomatch set_self w1
    · exact c (s.dff j i p m l (set_other w1 c) h)
theorem XcOk.lft {X : Cx} {Qx : Xd → Prop} (s : SR X.K B S H env σ) (xk : XcOk X B σ Qx) : Lft X.K S H B.pa Qx (WE (wk X) σ) := fun x d v H' S' dr h0 h1 hd r q => xk S' H' env d x v (s.ret dr) (s.hp0 h0) h1 hd r q
theorem XcOk.lftM {X : Cx} {Qx : Xd → Prop} {p : Addr} {i : Nat} {l : FxL} (s : SR X.K B S H env σ) (h : Has env i (.fix p l)) (xk : XcOk X B σ Qx) : Lft X.K S (lose H p) B.pa Qx (WE (wk X) σ) := fun x d v H' S' dr h0 h1 hd r q => xk S' H' _ d x v (s.lost h dr) (by
  by_cases c : d = p
  · rw [c]
    exact (s.fix i p l h).2.2.1
  · exact s.hp0 ((lose_ne c).symm.trans h0)) h1 hd r q
end
def dCallE (F : FME) (n : DAM) : PM := fun env Q Qx => n env fun env' rs => argsOk rs = true ∧ F rs (fun r => match r with
  | .val d => Q env' d
  | _ => False) Qx
/-- f(w, e, ..), w the i-th name's thing -/
def dCallM (i : Nat) (F : FMM) (n : DAM) : PM := fun env Q Qx => match env[i]? with
  | some (some (.fix _ _)) => n env fun env' rs => argsOk rs = true ∧ match env'[i]? with
    | some (some (.fix p l)) => F rs l (fun r l' => match r with
      | .val d => Q (env'.set i (some (.fix p l'))) d
      | _ => False) Qx
    | _ => False
  | _ => False
/-- w.m(), which changes nothing and raises nothing -/
def dAsk (i : Nat) (F : FMM) : DM := fun env Q => match env[i]? with
  | some (some (.fix _ l)) => F [] l (fun r l' => l' = l ∧ match r with
    | .val d => Q env (.val d)
    | _ => False) (fun _ => False)
  | _ => False
section
variable {X : Cx} {k : Nat} {f C : Addr} {fd : FuncData} {ps : List Str} {FE : FME} {FM' : FMM} {x m : Str} {p pos apos p1 p2 : Pos} {e o : Expr} {es : List Expr} {n : DAM} {tn : TA} {np i : Nat}
theorem de_callE (hF : FnOk X.prog X.w X.K X.mg X.base (L2N.CX X.prog X.w) k f fd ps (spE X.K np FE)) (hr : Room k X.A) (hg : Gl X x) (hm : X.mg x = some (.ref f)) (hk : PySem.W.keepIn X.K (.ref f) = true) (hb : Binds X.K fd ps [])
    (ha : DA X (e :: es) n tn) (hlen : (e :: es).length = np) (hdb : (x == ("__debug__" : Str)) = false := by decide) (he : starEach (e :: es) X.env = (false, eval e X.env) :: starEach es X.env := by rfl) (hpl : (backTo pos (starEach es X.env)).any (·.1) = false := by rfl) :
    DP X (.Call (.Name x p) (e :: es) [] pos) (dCallE FE n) (tCallS (spE X.K np FE) (WE (wk X)) tn) := by
  refine ⟨pe_callS hF hr hg hm hk hb (fun σ => L2N.passAt takes_wk σ) ha.1 hdb he hpl, fun B S H env σ Q Qx Qv s q xk k => ha.2 B S H env σ _ _ s q fun vs H1 S1 env1 rs z l len q1 => ?_⟩
  refine ⟨S1, B.pa, rs, _, Qx, z.sr.ex, fun a e => (z.sr.pool a e).1, l.args q1.1, len.trans hlen, q1.2, fun v H' S' r d q => ?_, xk.lft z.sr⟩
  cases r with
  | val d0 => exact k v d0 H' S' env1 (z.sr.ret d) d.ret q
  | own l => exact q.elim
  | brw i l => exact q.elim
  | pool => exact q.elim
/-- what is behind the arguments of a call with a thing -/
theorem spM_of {B : Bs} {S H : Hp} {env : En} {σ : L2.St} {vs : List V} {rs : List R} {Q : En → D → Prop} {Qx : Xd → Prop} {Qv : VK} {q0 : Addr} (s : SR X.K B S H env σ) (h0 : Slt σ i (.ref q0)) (l : LkA X.K B S H vs rs) (len : vs.length + 1 = np) (h : argsOk rs = true ∧ match env[i]? with
    | some (some (.fix p l)) => FM' rs l (fun r l' => match r with
      | .val d => Q (env.set i (some (.fix p l'))) d
      | _ => False) Qx
    | _ => False) (xk : XcOk X B σ Qx) (k : ∀ v d H' S' env', SR X.K B S' H' env' σ → Rep X.K S' v d → Q env' d → Qv v H') : spM X.K np FM' (.ref q0 :: vs) H Qv (WE (wk X) σ) := by
  obtain ⟨ha, h⟩ := h
  split at h
  · rename_i p l0 c
    obtain ⟨h1, h2, h3, o, h4, h5⟩ := s.fix i p _ c
    cases Slt.ref h0 h1
    have hpa : B.pa ≠ some q0 := fun e => by
      obtain ⟨_, o, w⟩ := s.pool q0 e
      rw [h3] at w
      cases w
    refine ⟨S, B.pa, q0, vs, rs, l0, _, Qx, rfl, s.ex, fun a e => (s.pool a e).1, l.args ha, by rw [List.length_cons]; exact len, ⟨h2, hpa, o, h4, h5⟩, h, fun v H' S' r l' d ⟨c1, o', c2, c3⟩ q => ?_, xk.lftM s c⟩
    cases r with
    | val d0 => exact k v d0 H' S' _ (s.handed c d c1 c2 c3) d.ret q
    | own l2 => exact q.elim
    | pool => exact q.elim
    | brw i l2 => exact q.elim
  · exact h.elim
theorem dp_callM0 (hF : FnOk X.prog X.w X.K X.mg X.base (L2N.CX X.prog X.w) k f fd ps (spM X.K np FM')) (hr : Room k X.A) (hg : Gl X x) (hm : X.mg x = some (.ref f)) (hk : PySem.W.keepIn X.K (.ref f) = true) (hb : Binds X.K fd ps [])
    (hv : PE X o (tVar i)) (ha : DA X es n tn) (hlen : es.length + 1 = np) (hs : starEach (o :: es) X.env = (false, eval o X.env) :: starEach es X.env := by rfl) (hdb : (x == ("__debug__" : Str)) = false := by decide) (hpl : (backTo pos (starEach es X.env)).any (·.1) = false := by rfl) :
    DP X (.Call (.Name x p) (o :: es) [] pos) (dCallM i FM' n) (tCallS (spM X.K np FM') (WE (wk X)) (tCons (tVar i) tn)) := by
  refine ⟨pe_callS hF hr hg hm hk hb (fun σ => L2N.passAt takes_wk σ) (pa_cons hv ha.1 hs) hdb hs hpl, fun B S H env σ Q Qx Qv s q xk k => ?_⟩
  unfold dCallM at q
  split at q
  · rename_i q0 l0 c
    obtain ⟨h1, _⟩ := s.fix i q0 _ c
    refine ⟨_, h1, ha.2 B S H env σ _ _ s q fun vs H1 S1 env1 rs z l len q1 => ?_⟩
    exact spM_of z.sr h1 l (by omega) q1 xk k
  · exact q.elim
end
end DL
end

section
set_option Elab.async false
set_option linter.all false
set_option maxRecDepth 100000
set_option maxHeartbeats 4000000
namespace L2
open PySem PySem.Spec PyProof.Rows
section
variable {X : Cx} {CX : CXT} {k : Nat} {f C : Addr} {fd : FuncData} {ps : List Str} {sp : Sp} {E : St → XK} {x m : Str} {p pos apos : Pos} {e o : Expr} {es : List Expr} {ta : TE} {t : TA}
def tMethX (C : Addr) (m : Str) (sp : Sp) (E : St → XK) (ta : TE) (t : TA) : TE := fun σ H Q => ta σ H fun x H1 => ∃ a dx fs, x = .ref a ∧ H1 a = some (.ins C dx fs) ∧ fs.lookup m = none ∧ t σ H1 fun vs H2 => sp (x :: vs) H2 Q (E σ)
theorem pe_methX {pl : Sem Bool} (ho : PE X o ta) (c : Cls X.K C) (hm : Meth X.K C m f) (F : FnOk X.prog X.w X.K X.mg X.base CX k f fd ps sp) (hr : Room k X.A) (hb : Binds X.K fd ps []) (hx : ∀ σ, PassesAt CX X σ (E σ)) (ha : PA X (e :: es) t)
    (hst : starEach (e :: es) X.env = (false, eval e X.env) :: starEach es X.env := by rfl) (hpl : (backTo pos (starEach es X.env)).any (·.1) = false := by rfl)
    (ht : eval (.Call (.Attribute o m apos) (e :: es) [] pos) X.env = (eval o X.env >>= fun ov => standAt apos.atName >>= fun _ => holding [ov] (getMethod ov m pl) >>= fun y => callWith pos y.1 y.2 (backTo pos (starEach (e :: es) X.env)) (backToKw pos (keywordEach [] X.env))) := by rfl) :
    PE X (.Call (.Attribute o m apos) (e :: es) [] pos) (tMethX C m sp E ta t) := by
  refine ⟨fun pins s σ H Q I h => ?_⟩
  refine PySem.W.methodCall_KW (pl := pl) (thn (ho.run pins s σ H _ I h) fun u s1 ⟨x, H1, I1, rx, a, dx, fs, ex, ea, l, q⟩ => ?_) ht
  subst ex
  obtain rfl : u = Value.ref a := rx
  refine getmeth_ok I1 ea c hm l ?_
  refine PySem.W.callWith_K (first := [.ref a]) (h₀ := X.base) I.ok.mod.kin hm.kp (thn (ha.run pos pins s1 σ H1 _ I1 q) fun us s2 ⟨vs, H2, I2, r, q2⟩ => ⟨I2.kIn, ?_⟩) hst hpl
  exact run_fnS (us := .ref a :: us) (vs := .ref a :: vs) F hr hb (hx σ) I2 (.cons rfl r) q2
theorem pe_methX0 {pl : Sem Bool} (ho : PE X o ta) (c : Cls X.K C) (hm : Meth X.K C m f) (F : FnOk X.prog X.w X.K X.mg X.base CX k f fd ps sp) (hr : Room k X.A) (hb : Binds X.K fd ps []) (hx : ∀ σ, PassesAt CX X σ (E σ))
    (ht : eval (.Call (.Attribute o m apos) [] [] pos) X.env = (eval o X.env >>= fun ov => standAt apos.atName >>= fun _ => holding [ov] (getMethod ov m pl) >>= fun y => callWith pos y.1 y.2 (backTo pos (starEach [] X.env)) (backToKw pos (keywordEach [] X.env))) := by rfl) :
    PE X (.Call (.Attribute o m apos) [] [] pos) (tMethX C m sp E ta tNil) := by
  refine ⟨fun pins s σ H Q I h => ?_⟩
  refine PySem.W.methodCall_KW (pl := pl) (thn (ho.run pins s σ H _ I h) fun u s1 ⟨x, H1, I1, rx, a, dx, fs, ex, ea, l, q⟩ => ?_) ht
  subst ex
  obtain rfl : u = Value.ref a := rx
  refine getmeth_ok I1 ea c hm l ?_
  exact PySem.W.callWith_K0 (first := [.ref a]) I1.kIn hm.kp (run_fnS (us := [.ref a]) (vs := [.ref a]) F hr hb (hx σ) I1 (.cons rfl .nil) q)
/-- C(e, ..) whose __init__ may raise -/
def tMakeX (C : Addr) (sp : Sp) (E : St → XK) (t : TA) : TE := fun σ H Q => t σ H fun vs H1 => ∀ x dx, H1 x = none → H1 dx = none → dx ≠ x →
  sp (.ref x :: vs) (upd (upd H1 dx (.own x)) x (.ins C dx [])) (fun v H2 => v = .non ∧ Q (.ref x) H2) (E σ)
theorem pe_makeX (M : Mk X.K C f) (F : FnOk X.prog X.w X.K X.mg X.base CX k f fd ps sp) (hr : Room (k + 1) X.A) (hg : Gl X x) (hm : X.mg x = some (.ref C)) (hb : Binds X.K fd ps []) (hx : ∀ σ, PassesAt CX X σ (E σ))
    (ha : PA X (e :: es) t) (hdb : (x == ("__debug__" : Str)) = false := by decide) (he : starEach (e :: es) X.env = (false, eval e X.env) :: starEach es X.env := by rfl) (hpl : (backTo pos (starEach es X.env)).any (·.1) = false := by rfl) :
    PE X (.Call (.Name x p) (e :: es) [] pos) (tMakeX C sp E t) := by
  refine ⟨fun pins s σ H Q I h => ?_⟩
  refine wpAny_Call_Name_kw (ld_glob I hg hm ?_ hdb)
  refine PySem.W.callWith_K (h₀ := X.base) I.ok.mod.kin M.kp (thn (ha.run pos pins s σ H _ I h) fun us s1 ⟨vs, H1, I1, r, q⟩ => ⟨I1.kIn, ?_⟩) he hpl
  have nx : H1 (s1.heap.objs.size + 1) = none := I1.hok.fresh (Nat.le_succ _)
  have nd : H1 s1.heap.objs.size = none := I1.hok.fresh (Nat.le_refl _)
  have hq := q _ _ nx nd (Nat.ne_of_lt (Nat.lt_succ_self _))
  have I2 := Inv.made (C := C) I1
  have r2 : Vals (V.ref (s1.heap.objs.size + 1) :: vs) (Value.ref (s1.heap.objs.size + 1) :: us) := .cons rfl r
  have hl : (Value.ref (s1.heap.objs.size + 1) :: us).length = ps.length := by
    have w := r2.length
    rw [F.len _ _ _ _ hq] at w
    exact w.symm
  have b := hb _ (Value.ref (s1.heap.objs.size + 1) :: us) I2.kIn (by rw [List.append_nil]; exact hl)
  rw [List.append_nil] at b
  show wpAny _ _ (call (.ref C) us) _ _ _
  refine wpAny_call (make_map (f := f) I1.kIn M.makes M.init (beq_iff_eq.mp M.fn) (codeAny_mono (F.run _ X.stack _ _ ⟨Value.ref (s1.heap.objs.size + 1) :: us, []⟩ _ _ _ (E σ) (hr.make C us []) (I2.env0.make C us []) b r2 hq) fun r s' hq' => ?_))
  cases r with
  | error e => exact hx σ pins _ _ e s' I2 hq'
  | ok fl =>
    cases fl with
    | ret u =>
      obtain ⟨v, H', I3, rv, ev, q3⟩ := I2.after hq'
      subst ev
      exact ⟨rv, ⟨V.ref (s1.heap.objs.size + 1), H', I3, rfl, q3⟩⟩
    | next => exact False.elim hq'
    | brk => exact False.elim hq'
    | cont => exact False.elim hq'
end
end L2
namespace DL
open PySem PySem.Spec PyProof.Rows L2
open Evl (Ex)
def noF (m : Str) (ns : List Str) : Bool := ns.all fun n => !(m == n)
theorem noF_lookup {m : Str} : ∀ {fs : List (Str × V)}, noF m (fs.map (·.1)) = true → fs.lookup m = none
  | [], _ => rfl
  | (n, v) :: fs, h => by
    unfold noF at h
    rw [List.map_cons, List.all_cons, Bool.and_eq_true] at h
    rw [List.lookup_cons]
    cases q : m == n with
    | true =>
      have h1 := h.1
      rw [q] at h1
      cases h1
    | false => exact noF_lookup (fs := fs) h.2
/-- w.m(e, ..) -/
def dMethM (C0 : Addr) (i : Nat) (m : Str) (F : FMM) (n : DAM) : PM := fun env Q Qx => match env[i]? with
  | some (some (.fix _ (.ins C _ ns _))) => C = C0 ∧ noF m ns = true ∧ n env fun env' rs => argsOk rs = true ∧ match env'[i]? with
    | some (some (.fix p l)) => F rs l (fun r l' => match r with
      | .val d => Q (env'.set i (some (.fix p l'))) d
      | _ => False) Qx
    | _ => False
  | _ => False
/-- w.m(), nothing is changed -/
def dAskM (C0 : Addr) (i : Nat) (m : Str) (F : FMM) : DM := fun env Q => match env[i]? with
  | some (some (.fix _ (.ins C dx ns l))) => C = C0 ∧ noF m ns = true ∧ F [] (.ins C dx ns l) (fun r l' => l' = .ins C dx ns l ∧ match r with
    | .val d => Q env (.val d)
    | _ => False) (fun _ => False)
  | _ => False
theorem xc_never {X : Cx} {B : Bs} {σ : L2.St} : XcOk X B σ fun _ => False := fun _ _ _ _ _ _ _ _ _ _ _ z => z.elim
section
variable {X : Cx} {k : Nat} {f C : Addr} {fd : FuncData} {ps : List Str} {F : FMM} {x m a txt : Str} {p pos apos p1 p2 xp : Pos} {e o : Expr} {es : List Expr} {n : DAM} {tn : TA} {np i : Nat}
theorem dp_meth {pl : Sem Bool} (c : Cls X.K C) (hm : Meth X.K C m f) (hF : FnOk X.prog X.w X.K X.mg X.base (L2N.CX X.prog X.w) k f fd ps (spM X.K np F)) (hr : Room k X.A) (hb : Binds X.K fd ps []) (hv : PE X o (tVar i)) (ha : DA X (e :: es) n tn) (hlen : (e :: es).length + 1 = np)
    (hst : starEach (e :: es) X.env = (false, eval e X.env) :: starEach es X.env := by rfl) (hpl : (backTo pos (starEach es X.env)).any (·.1) = false := by rfl)
    (ht : eval (.Call (.Attribute o m apos) (e :: es) [] pos) X.env = (eval o X.env >>= fun ov => standAt apos.atName >>= fun _ => holding [ov] (getMethod ov m pl) >>= fun y => callWith pos y.1 y.2 (backTo pos (starEach (e :: es) X.env)) (backToKw pos (keywordEach [] X.env))) := by rfl) :
    DP X (.Call (.Attribute o m apos) (e :: es) [] pos) (dMethM C i m F n) (tMethX C m (spM X.K np F) (WE (wk X)) (tVar i) tn) := by
  refine ⟨pe_methX hv c hm hF hr hb (fun σ => L2N.passAt takes_wk σ) ha.1 hst hpl ht, fun B S H env σ Q Qx Qv s q xk k => ?_⟩
  unfold dMethM at q
  split at q
  · rename_i q0 C' dx ns l0 c0
    obtain ⟨rfl, nf, q⟩ := q
    obtain ⟨h1, _, _, o', h4, fs, rfl, rfl, _⟩ := s.fix i q0 _ c0
    refine ⟨_, h1, q0, dx, fs, rfl, h4, noF_lookup nf, ha.2 B S H env σ _ _ s q fun vs H1 S1 env1 rs z l len q1 => ?_⟩
    exact spM_of z.sr h1 l (by omega) q1 xk k
  · exact q.elim
theorem dp_meth0 {pl : Sem Bool} (c : Cls X.K C) (hm : Meth X.K C m f) (hF : FnOk X.prog X.w X.K X.mg X.base (L2N.CX X.prog X.w) k f fd ps (spM X.K 1 F)) (hr : Room k X.A) (hb : Binds X.K fd ps []) (hv : PE X o (tVar i))
    (ht : eval (.Call (.Attribute o m apos) [] [] pos) X.env = (eval o X.env >>= fun ov => standAt apos.atName >>= fun _ => holding [ov] (getMethod ov m pl) >>= fun y => callWith pos y.1 y.2 (backTo pos (starEach [] X.env)) (backToKw pos (keywordEach [] X.env))) := by rfl) :
    DP X (.Call (.Attribute o m apos) [] [] pos) (dMethM C i m F dNil) (tMethX C m (spM X.K 1 F) (WE (wk X)) (tVar i) tNil) := by
  refine ⟨pe_methX0 hv c hm hF hr hb (fun σ => L2N.passAt takes_wk σ) ht, fun B S H env σ Q Qx Qv s q xk k => ?_⟩
  unfold dMethM at q
  split at q
  · rename_i q0 C' dx ns l0 c0
    obtain ⟨rfl, nf, q⟩ := q
    obtain ⟨h1, _, _, o', h4, fs, rfl, rfl, _⟩ := s.fix i q0 _ c0
    refine ⟨_, h1, q0, dx, fs, rfl, h4, noF_lookup nf, ?_⟩
    exact spM_of s h1 .nil rfl q xk k
  · exact q.elim
theorem de_ask {pl : Sem Bool} (c : Cls X.K C) (hm : Meth X.K C m f) (hF : FnOk X.prog X.w X.K X.mg X.base (L2N.CX X.prog X.w) k f fd ps (spM X.K 1 F)) (hr : Room k X.A) (hb : Binds X.K fd ps []) (hv : PE X o (tVar i))
    (ht : eval (.Call (.Attribute o m apos) [] [] pos) X.env = (eval o X.env >>= fun ov => standAt apos.atName >>= fun _ => holding [ov] (getMethod ov m pl) >>= fun y => callWith pos y.1 y.2 (backTo pos (starEach [] X.env)) (backToKw pos (keywordEach [] X.env))) := by rfl) :
    DE X (.Call (.Attribute o m apos) [] [] pos) (dAskM C i m F) (tMethX C m (spM X.K 1 F) (WE (wk X)) (tVar i) tNil) := by
  refine ⟨pe_methX0 hv c hm hF hr hb (fun σ => L2N.passAt takes_wk σ) ht, fun B S H env σ Q Qv s q k => ?_⟩
  unfold dAskM at q
  split at q
  · rename_i q0 C' dx ns l0 c0
    obtain ⟨rfl, nf, q⟩ := q
    obtain ⟨h1, h2, h3, o', h4, fs, rfl, rfl, h5⟩ := s.fix i q0 _ c0
    refine ⟨_, h1, q0, dx, fs, rfl, h4, noF_lookup nf, ?_⟩
    have hpa : B.pa ≠ some q0 := fun e => by
      obtain ⟨_, o, w⟩ := s.pool q0 e
      rw [h3] at w
      cases w
    refine ⟨S, B.pa, q0, [], [], .ins C' dx (fs.map (·.1)) l0, _, fun _ => False, rfl, s.ex, fun a e => (s.pool a e).1, .nil, rfl, ⟨h2, hpa, _, h4, fs, rfl, rfl, h5⟩, q, fun v H' S' r l' d ⟨c1, o', c2, c3⟩ q => ?_, xc_never.lftM s c0⟩
    obtain ⟨rfl, q⟩ := q
    have s' := s.handed c0 d c1 c2 c3
    have e0 : env.set i (some (.fix q0 (.ins C' dx (fs.map (·.1)) l0))) = env := by
      refine List.ext_getElem? fun j => ?_
      by_cases z : i = j
      · subst z
        rw [List.getElem?_set_self (List.getElem?_eq_some_iff.mp c0).1]
        exact c0.symm
      · rw [List.getElem?_set_ne z]
    rw [e0] at s'
    have go : Go (Ow B env σ) S H S' H' := by
      refine ⟨d.ex, fun a o h nz => ?_, fun a o h nz e => ?_, fun a h => ?_⟩
      · have ne : a ≠ q0 := fun z => nz (.inr (.inr ⟨i, _, z ▸ c0⟩))
        exact d.keep a o ((lose_ne ne).trans h) fun e => nz (.inl e)
      · have ne : a ≠ q0 := fun z => nz (.inr (.inr ⟨i, _, z ▸ c0⟩))
        exact d.nw a o ((lose_ne ne).trans h) e
      · by_cases ne : a = q0
        · subst ne
          rw [c2] at h
          cases h
        · exact (lose_ne ne).symm.trans (d.old a h)
    cases r with
    | val d0 => exact k v H' S' env (.val d0) ⟨s', go, .refl _, d.ret⟩ q
    | own l2 => exact q.elim
    | pool => exact q.elim
    | brw i l2 => exact q.elim
  · exact q.elim
/-! raise -/
inductive SmallD : D → Prop
  | str (y : Str) : y.length ≤ 1000 → SmallD (.str y)
  | int (i : Int) : i.natAbs.log2 < 1000 → SmallD (.int i)
def dRaise (C : Addr) (a : Str) (m : DM) : DSM := fun E env => m env fun _ r => match r with
  | .val d => SmallD d ∧ E.xc ⟨C, a, d⟩
  | _ => False
theorem ds_raise {fI : Addr} {ma : DM} {ta : TE} (hc : X.calm = true) (T : EX.ErrTxt X.prog X.K C fI a txt) (ht : txt.length ≤ 1000) (na : EX.NmOk a) (hsup : X.mg "super" = none) (gC : X.mg x = some (.ref C)) (hr : Room k X.A) (ha : DE X e ma ta) (hg : Gl X x)
    (hs : starEach (e :: []) X.env = (false, eval e X.env) :: starEach [] X.env := by rfl) (hdb : (x == ("__debug__" : Str)) = false := by decide) (hpl : (backTo pos (starEach [] X.env)).any (·.1) = false := by rfl) :
    DS X (.Raise (some (.Call (.Name x p) [e] [] pos)) none p2) (dRaise C a ma) (tRaiseErr C a (wk X) (tCons ta tNil)) := by
  refine ⟨ps_raiseErr hc takes_wk T ht na hsup gC hr (pa_cons ha.1 pa_nil hs) hg hdb hs hpl, fun B S H env σ E D s q ek => ?_⟩
  refine ha.2 B S H env σ _ _ s q fun v H1 S1 env1 r z q1 => ?_
  cases r with
  | val d =>
    have zr : Rep X.K S1 v d := z.res
    refine ⟨v, rfl, ?_, fun dd hd => ?_⟩
    · cases q1.1 with
      | str y h =>
        cases zr
        exact .str y h
      | int i h =>
        cases zr
        exact .int i h
    · have n := Nw.hid z.sr.ex (o := .xd [(a, v)]) hd
      exact ek.xc σ S1 _ env1 dd ⟨C, a, d⟩ v (z.sr.nw n) (z.sr.hp0 hd) (z.sr.sp0 hd) upd_same (zr.mono n.ex) q1.2
  | own l => exact q1.elim
  | brw i l => exact q1.elim
  | pool => exact q1.elim
/-- e, for what it does -/
def dDropP (m : PM) : DSM := fun E env => m env (fun env' _ => E.nx env') E.xc
theorem ds_exprP {m : PM} {ta : TE} (ha : DP X e m ta) (hs : swapsWith e none pos.line X.env = pure false := by rfl) : DS X (.Expr e pos) (dDropP m) (tDrop ta) :=
  ⟨ps_expr ha.1 hs, fun B S H env σ E D s q ek => ha.2 B S H env σ _ _ _ s q (ek.xc σ) fun v d H' S' env' s' _ q' => ek.nx S' H' env' σ s' q'⟩
/-! a tuple whose last part may raise -/
abbrev PAM := En → (En → List D → Prop) → (Xd → Prop) → Prop
def DAP (X : Cx) (es : List Expr) (m : PAM) (t : TA) : Prop := PA X es t ∧ ∀ (B : Bs) (S H : Hp) (env : En) (σ : L2.St) (Q : En → List D → Prop) (Qx : Xd → Prop) (Qv : List V → Hp → Prop), SR X.K B S H env σ → m env Q Qx → XcOk X B σ Qx →
  (∀ vs ds H' S' env', SR X.K B S' H' env' σ → Reps X.K S' vs ds → Q env' ds → Qv vs H') → t σ H Qv
def dEndP (m : PM) : PAM := fun env Q Qx => m env (fun env' d => Q env' [d]) Qx
def dConsP (m : DM) (n : PAM) : PAM := fun env Q Qx => dKeep m env fun env1 r => match r with
  | .val d => n env1 (fun env2 ds => Q env2 (d :: ds)) Qx
  | _ => False
def dTupP (n : PAM) : PM := fun env Q Qx => n env (fun env' ds => ds.length ≤ sizeLine ∧ Q env' (.tup ds)) Qx
theorem dap_end {m : PM} {ta : TE} (ha : DP X e m ta) (hs : starEach (e :: []) X.env = (false, eval e X.env) :: starEach [] X.env := by rfl) : DAP X [e] (dEndP m) (tCons ta tNil) :=
  ⟨pa_cons ha.1 pa_nil hs, fun B S H env σ Q Qx Qv s q xk k => ha.2 B S H env σ _ Qx _ s q xk fun v d H' S' env' s' r q' => k [v] [d] H' S' env' s' (.cons r .nil) q'⟩
theorem dap_cons {ma : DM} {ta : TE} {n : PAM} (ha : DE X e ma ta) (hb : DAP X es n tn) (hs : starEach (e :: es) X.env = (false, eval e X.env) :: starEach es X.env := by rfl) : DAP X (e :: es) (dConsP ma n) (tCons ta tn) := by
  obtain ⟨t1, t2⟩ := de_keep ha
  refine ⟨pa_cons t1 hb.1 hs, fun B S H env σ Q Qx Qv s q xk k => t2 B S H env σ _ _ s q fun v H1 S1 env1 r z q1 => ?_⟩
  cases r with
  | val d =>
    have zr : Rep X.K S1 v d := z.res
    refine hb.2 ⟨S1, B.H0, B.pa⟩ S1 H1 env1 σ _ Qx _ z.sr.base q1 (fun S2 H2 env2 d2 x2 v2 s2 => xk S2 H2 env2 d2 x2 v2 (z.sr.unbase s2)) fun vs ds H' S' env' s' rs q' => ?_
    exact k (v :: vs) (d :: ds) H' S' env' (z.sr.unbase s') (.cons (zr.mono s'.ex0) rs) q'
  | own l => exact q1.elim
  | brw i l => exact q1.elim
  | pool => exact q1.elim
theorem dp_tup {x1} {n : PAM} (h : DAP X es n tn) : DP X (.Tuple es x1 pos) (dTupP n) (tTup tn) := by
  refine ⟨pe_tup h.1, fun B S H env σ Q Qx Qv s q xk k => h.2 B S H env σ _ Qx _ s q xk fun vs ds H' S' env' s' r q' => ⟨by rw [r.length]; exact q'.1, fun p hp => ?_⟩⟩
  have n := Nw.add s'.ex (o := .tup vs) hp
  exact k _ (.tup ds) _ _ env' (s'.nw n) (.tup (SqT.of upd_same) (r.mono n.ex)) q'.2
end
end DL
end

section
set_option Elab.async false
set_option linter.all false
set_option maxRecDepth 100000
set_option maxHeartbeats 4000000
namespace DL
open PySem PySem.Spec PyProof.Rows L2
open Evl (Ex)
/-! ### things made -/
section
variable {K : PySem.W.Frag} {B : Bs} {S H S' H' : Hp} {env : En} {σ : L2.St}
theorem SR.storeF {i : Nat} {p : Addr} {l : FxL} {o : HO} (s : SR K B S H env σ) (h1 : S p = none) (h2 : B.H0 p = none) (h3 : ¬ Ow B env σ p) (h4 : H p = some o) (h5 : FxAt K S l o) : SR K B S H (env.set i (some (.fix p l))) (σ.set i (some (.ref p))) := by
  have il : ∀ {j : Nat} {n : Nv}, Has (env.set i (some (.fix p l))) j n → j < σ.length := fun {j n} h => by
    have q := (List.getElem?_eq_some_iff.mp h).1
    rw [List.length_set] at q
    exact s.len ▸ q
  have other : ∀ {j : Nat} {n : Nv}, Has (env.set i (some (.fix p l))) j n → n ≠ .fix p l → j ≠ i ∧ Has env j n := fun {j n} h ne => by
    have c : j ≠ i := fun z => by
      subst z
      exact ne (Option.some.inj (set_self h)).symm
    exact ⟨c, set_other h c⟩
  refine ⟨s.ex0, s.nw0, s.keep0, s.old0, by rw [List.length_set, List.length_set]; exact s.len, s.ex, fun j d h => ?_, fun j m h => ?_, fun j k m n q e1 e2 e3 e4 => ?_, fun j h => ?_, s.pool, fun j q m h => ?_, fun j k q m n e1 e2 e3 => ?_, fun j k q m n e1 e2 => ?_, s.pin⟩
  · obtain ⟨c, h⟩ := other h (fun z => by cases z)
    obtain ⟨v, k1, k2⟩ := s.val j d h
    exact ⟨v, (sset_other c).mpr k1, k2⟩
  · obtain ⟨c, h⟩ := other h (fun z => by cases z)
    obtain ⟨q, vs, k1, k2⟩ := s.own j m h
    exact ⟨q, vs, (sset_other c).mpr k1, k2⟩
  · obtain ⟨c1, e1⟩ := other e1 (fun z => by cases z)
    obtain ⟨c2, e2⟩ := other e2 (fun z => by cases z)
    exact s.dis j k m n q e1 e2 ((sset_other c1).mp e3) ((sset_other c2).mp e4)
  · obtain ⟨c, h⟩ := other h (fun z => by cases z)
    obtain ⟨a, k1, k2⟩ := s.pl j h
    exact ⟨a, k1, (sset_other c).mpr k2⟩
  · by_cases c : j = i
    · subst c
      have q2 := il h
      cases set_self h
      exact ⟨sset_self q2, h1, h2, o, h4, h5⟩
    · obtain ⟨k1, k2⟩ := s.fix j q m (set_other h c)
      exact ⟨(sset_other c).mpr k1, k2⟩
  · obtain ⟨c2, g2⟩ := other e2 (fun z => by cases z)
    have g3 := (sset_other c2).mp e3
    by_cases c : j = i
    · subst c
      cases set_self e1
      exact h3 (.inr (.inl ⟨k, n, g2, g3⟩))
    · exact s.dfx j k q m n (set_other e1 c) g2 g3
  · by_cases c : j = i
    · subst c
      cases set_self e1
      by_cases c2 : k = j
      · exact c2.symm
      · exact (h3 (.inr (.inr ⟨k, n, set_other e2 c2⟩))).elim
    · by_cases c2 : k = i
      · subst c2
        cases set_self e2
        exact (h3 (.inr (.inr ⟨j, m, set_other e1 c⟩))).elim
      · exact s.dff j k q m n (set_other e1 c) (set_other e2 c2)
theorem lose_new {x dx C : Addr} {H : Hp} (hx : H x = none) (ne : dx ≠ x) : lose (upd (upd H dx (.own x)) x (.ins C dx [])) x = upd H dx (.own x) := by
  funext a
  by_cases c : a = x
  · subst c
    rw [lose_same, upd_ne (Ne.symm ne), hx]
  · rw [lose_ne c, upd_ne c]
end
/-- behind the arguments: what C(..) makes -/
def MadeF (C : Addr) (F : FMM) (rs : List R) (Q : FxL → Prop) (Qx : Xd → Prop) : Prop := argsOk rs = true ∧ ∀ dx, F rs (.ins C dx [] []) (fun r l' => match r with
  | .val .non => Q l'
  | _ => False) Qx
theorem made_of {X : Cx} {C : Addr} {F : FMM} {np : Nat} {B : Bs} {S H : Hp} {env : En} {σ : L2.St} {vs : List V} {rs : List R} {Q : FxL → Prop} {Qx : Xd → Prop} {Qv : VK} (s : SR X.K B S H env σ) (l : LkA X.K B S H vs rs) (len : vs.length + 1 = np) (h : MadeF C F rs Q Qx) {E : XK} (xk : ∀ x1 d v H' S', SR X.K B S' H' env σ → B.H0 d = none → S' d = none → H' d = some (.xd [(x1.a, v)]) → Rep X.K S' v x1.v → Qx x1 → E (.ref x1.C) (some d) H')
    (k : ∀ x H' S' l' o, SR X.K B S' H' env σ → Go (fun a => B.pa = some a) S H S' H' → H x = none → S' x = none → B.H0 x = none → ¬ Ow B env σ x → H' x = some o → FxAt X.K S' l' o → Q l' → Qv (.ref x) H') :
    ∀ x dx, H x = none → H dx = none → dx ≠ x → spM X.K np F (.ref x :: vs) (upd (upd H dx (.own x)) x (.ins C dx [])) (fun v H2 => v = .non ∧ Qv (.ref x) H2) E := by
  intro x dx hx hd ne
  have n2 := Nw.hid s.ex (o := .own x) hd
  have s2 := s.nw n2
  have hx2 : upd H dx (.own x) x = none := by rw [upd_ne (Ne.symm ne)]; exact hx
  have s3 := s2.nw (Nw.hid s2.ex (o := .ins C dx []) hx2)
  have hpa : B.pa ≠ some x := fun e => by
    obtain ⟨_, o, w⟩ := s.pool x e
    rw [s.hp0 hx] at w
    cases w
  refine ⟨S, B.pa, x, vs, rs, .ins C dx [] [], _, Qx, rfl, s3.ex, fun a e => (s3.pool a e).1, l.args h.1, by rw [List.length_cons]; exact len, ⟨s.sp0 hx, hpa, _, upd_same, [], rfl, rfl, .nil⟩, h.2 dx, ?_, ?_⟩
  · intro v H' S' r l' d c q
    rw [lose_new hx ne] at d
    obtain ⟨c1, o, c2, c3⟩ := c
    have s' := s2.ret d
    split at q
    · have dr := d.ret
      have ev : v = .non := by
        have w : Rep X.K S' v .non := dr
        cases w
        rfl
      refine ⟨ev, k x H' S' l' o s' ⟨d.ex, fun a u w nz => ?_, fun a u w nz e => ?_, fun a w => ?_⟩ hx c1 (s.hp0 hx) (s.now hx) c2 c3 q⟩
      · exact d.keep a u (by rw [upd_ne (fun z => by rw [z, hd] at w; cases w)]; exact w) nz
      · exact d.nw a u (by rw [upd_ne (fun z => by rw [z, hd] at w; cases w)]; exact w) e
      · have w2 := d.old a w
        by_cases c : a = dx
        · subst c
          exact hd
        · rw [upd_ne c] at w2
          exact w2
    · exact q.elim
  · intro x1 d v H' S' dr h0 h1 hdd r q
    rw [lose_new hx ne] at dr h0
    exact xk x1 d v H' S' (s2.ret dr) (s2.hp0 h0) h1 hdd r q
theorem XcOk.mk' {X : Cx} {B : Bs} {env : En} {σ : L2.St} {Qx : Xd → Prop} (xk : XcOk X B σ Qx) : ∀ x1 d v H' S', SR X.K B S' H' env σ → B.H0 d = none → S' d = none → H' d = some (.xd [(x1.a, v)]) → Rep X.K S' v x1.v → Qx x1 → WE (wk X) σ (.ref x1.C) (some d) H' :=
  fun x1 d v H' S' s h0 h1 hd r q => xk S' H' env d x1 v s h0 h1 hd r q
/-- name = C(e, ..): the name alone holds it -/
def dSetM (C : Addr) (i : Nat) (F : FMM) (n : DAM) : DSM := fun E env => n env fun env1 rs => MadeF C F rs (fun l' => ∀ p, E.nx (env1.set i (some (.fix p l')))) E.xc
/-- C(e, ..), from now on unchanged -/
def dMake (C : Addr) (F : FMM) (n : DAM) : DM := fun env Q => n env fun env1 rs => MadeF C F rs (fun l' => match l' with
  | .ins C' _ ns l => C' = C ∧ Q env1 (.val (.ins C ns l))
  | _ => False) fun _ => False
/-- .. which may raise -/
def dMakeP (C : Addr) (F : FMM) (n : DAM) : PM := fun env Q Qx => n env fun env1 rs => MadeF C F rs (fun l' => match l' with
  | .ins C' _ ns l => C' = C ∧ Q env1 (.ins C ns l)
  | _ => False) Qx
section
variable {X : Cx} {k : Nat} {f C : Addr} {fd : FuncData} {ps : List Str} {F : FMM} {x y : Str} {p pos pos' cpos : Pos} {e : Expr} {es : List Expr} {n : DAM} {tn : TA} {np i : Nat}
theorem ds_setM (M : Mk X.K C f) (hF : FnOk X.prog X.w X.K X.mg X.base (L2N.CX X.prog X.w) k f fd ps (spM X.K np F)) (hr : Room (k + 1) X.A) (hg : Gl X x) (hm : X.mg x = some (.ref C)) (hb : Binds X.K fd ps []) (ha : DA X (e :: es) n tn) (hlen : (e :: es).length + 1 = np)
    (hN : X.N.Nodup) (hi : X.N[i]? = some y) (hy : Loc X.env.scope y) (hdb : (x == ("__debug__" : Str)) = false := by decide) (he : starEach (e :: es) X.env = (false, eval e X.env) :: starEach es X.env := by rfl) (hpl : (backTo cpos (starEach es X.env)).any (·.1) = false := by rfl)
    (hs : swapsWith (.Call (.Name x p) (e :: es) [] cpos) (some (.Name y pos')) pos.line X.env = pure false := by rfl) (hf : X.fn y = true ∨ X.env.scope.names.lookup y = some .local := by first | exact .inl rfl | exact .inr rfl | assumption) :
    DS X (.Assign [.Name y pos'] (.Call (.Name x p) (e :: es) [] cpos) pos) (dSetM C i F n) (tAsg (tMakeX C (spM X.K np F) (WE (wk X)) tn) (gName i)) := by
  refine ⟨ps_set hN hi hy (pe_makeX M hF hr hg hm hb (fun σ => L2N.passAt takes_wk σ) ha.1 hdb he hpl) hs hf, fun B S H env σ E D s q ek => ?_⟩
  refine ha.2 B S H env σ _ _ s q fun vs H1 S1 env1 rs z l len q1 => ?_
  refine made_of (np := np) (Qv := fun v H' => D.nx (σ.set i (some v)) H') z.sr l (by omega) q1 (XcOk.mk' (ek.xc σ)) fun x H' S' l' o s' go hx c1 c0 c4 c2 c3 q2 => ?_
  exact ek.nx S' H' _ _ (s'.storeF c1 c0 c4 c2 c3) (q2 x)
theorem frz_new {B : Bs} {S H S' H' : Hp} {env : En} {σ : L2.St} {a : Addr} {C' dx : Addr} {ns : List Str} {l : List D} {o : HO} (s' : SR X.K B S' H' env σ) (go : Go (fun a => B.pa = some a) S H S' H') (hx : H a = none) (c1 : S' a = none) (c0 : B.H0 a = none) (c4 : ¬ Ow B env σ a) (c2 : H' a = some o) (c3 : FxAt X.K S' (.ins C' dx ns l) o) :
    ∃ S'', SR X.K B S'' H' env σ ∧ Go (fun a => B.pa = some a) S H S'' H' ∧ Rep X.K S'' (.ref a) (.ins C' ns l) := by
  obtain ⟨fs, rfl, rfl, r⟩ := c3
  have e1 : Ex S' (upd S' a (.ins C' dx fs)) := Ex.new c1
  refine ⟨_, s'.add c1 c0 c4 c2, ⟨go.ex.trans e1, go.keep, fun b u w nz z => ?_, go.old⟩, .ins upd_same rfl rfl (r.mono e1)⟩
  rw [upd_ne (fun c => by rw [c, hx] at w; cases w)]
  exact go.nw b u w nz z
theorem de_make (M : Mk X.K C f) (hF : FnOk X.prog X.w X.K X.mg X.base (L2N.CX X.prog X.w) k f fd ps (spM X.K np F)) (hr : Room (k + 1) X.A) (hg : Gl X x) (hm : X.mg x = some (.ref C)) (hb : Binds X.K fd ps []) (ha : DA X (e :: es) n tn) (hlen : (e :: es).length + 1 = np)
    (hdb : (x == ("__debug__" : Str)) = false := by decide) (he : starEach (e :: es) X.env = (false, eval e X.env) :: starEach es X.env := by rfl) (hpl : (backTo pos (starEach es X.env)).any (·.1) = false := by rfl) :
    DE X (.Call (.Name x p) (e :: es) [] pos) (dMake C F n) (tMakeX C (spM X.K np F) (WE (wk X)) tn) := by
  refine ⟨pe_makeX M hF hr hg hm hb (fun σ => L2N.passAt takes_wk σ) ha.1 hdb he hpl, fun B S H env σ Q Qv s q k => ?_⟩
  refine ha.2 B S H env σ _ _ s q fun vs H1 S1 env1 rs z l len q1 => ?_
  refine made_of (np := np) z.sr l (by omega) q1 (XcOk.mk' xc_never) fun x H' S' l' o s' go hx c1 c0 c4 c2 c3 q2 => ?_
  split at q2
  · rename_i C' dx ns l
    obtain ⟨rfl, q2⟩ := q2
    obtain ⟨S2, s2, g2, r2⟩ := frz_new s' go hx c1 c0 c4 c2 c3
    exact k _ H' S2 env1 (.val (.ins C' ns l)) ⟨s2, z.go.trans g2 fun a o w nz e => nz (.inl e), z.fz, r2⟩ q2
  · exact q2.elim
theorem dp_make (M : Mk X.K C f) (hF : FnOk X.prog X.w X.K X.mg X.base (L2N.CX X.prog X.w) k f fd ps (spM X.K np F)) (hr : Room (k + 1) X.A) (hg : Gl X x) (hm : X.mg x = some (.ref C)) (hb : Binds X.K fd ps []) (ha : DA X (e :: es) n tn) (hlen : (e :: es).length + 1 = np)
    (hdb : (x == ("__debug__" : Str)) = false := by decide) (he : starEach (e :: es) X.env = (false, eval e X.env) :: starEach es X.env := by rfl) (hpl : (backTo pos (starEach es X.env)).any (·.1) = false := by rfl) :
    DP X (.Call (.Name x p) (e :: es) [] pos) (dMakeP C F n) (tMakeX C (spM X.K np F) (WE (wk X)) tn) := by
  refine ⟨pe_makeX M hF hr hg hm hb (fun σ => L2N.passAt takes_wk σ) ha.1 hdb he hpl, fun B S H env σ Q Qx Qv s q xk k => ?_⟩
  refine ha.2 B S H env σ _ _ s q fun vs H1 S1 env1 rs z l len q1 => ?_
  refine made_of (np := np) z.sr l (by omega) q1 (XcOk.mk' xk) fun x H' S' l' o s' go hx c1 c0 c4 c2 c3 q2 => ?_
  split at q2
  · rename_i C' dx ns l
    obtain ⟨rfl, q2⟩ := q2
    obtain ⟨S2, s2, g2, r2⟩ := frz_new s' go hx c1 c0 c4 c2 c3
    exact k _ _ H' S2 env1 s2 r2 q2
  · exact q2.elim
end
end DL
end

section
set_option Elab.async false
set_option linter.all false
set_option maxRecDepth 100000
set_option maxHeartbeats 4000000
namespace DL
open PySem PySem.Spec PyProof.Rows L2
open Evl (Ex)
/-- a method of the class at C -/
structure MeAt (K : PySem.W.Frag) (C : Addr) (name qual : Str) (st : Stmt) (f : Addr) (fd : FuncData) (ps : List Str) : Prop where
  fn : Fun K name qual st f fd
  m : Meth K C name f
  b : Binds K fd ps []
theorem aug_add : ∀ x y H Q, Q (.int (x + y)) H → rAdd (.int x) (.int y) H Q := fun x y H Q q => ⟨x, y, rfl, rfl, q⟩
theorem _root_.L2.FnOk.up {P : Program} {w : World} {K : PySem.W.Frag} {mg : Str → Option Value} {base : Heap} {CX : CXT} {k j : Nat} {f : Addr} {fd : FuncData} {ps : List Str} {sp : Sp} (h : FnOk P w K mg base CX k f fd ps sp) (hj : k ≤ j) : FnOk P w K mg base CX j f fd ps sp :=
  ⟨h.len, fun A outer s H args us vs Q E hr => h.run A outer s H args us vs Q E (hr.mono hj)⟩
end DL
end

section
set_option Elab.async false
set_option linter.all false
set_option maxRecDepth 100000
set_option maxHeartbeats 4000000
namespace DL
open PySem PySem.Spec PyProof.Rows L2
open Evl (Ex)
/-! ### defs whose last two parameters are lists that they change -/
section
variable {K : PySem.W.Frag} {B : Bs} {S H S' H' : Hp} {env : En} {σ : L2.St} {pa : Option Addr}
/-- a thing is taken out of the ground, into a name's hand -/
theorem SR.regive {S0 H0 : Hp} {i : Nat} {p : Addr} {l : FxL} {o : HO} (s : SR K ⟨S0, H0, pa⟩ S H env σ) (hi : Has env i (.val .any)) (hs : Slt σ i (.ref p)) (h1 : S p = none) (h2 : pa ≠ some p) (hno : ∀ j m, Has env j (.own m) → ¬ Slt σ j (.ref p)) (hnf : ∀ j m, ¬ Has env j (.fix p m)) (h4 : H p = some o) (h5 : FxAt K S l o) :
    SR K ⟨S0, lose H0 p, pa⟩ S H (env.set i (some (.fix p l))) σ := by
  have other : ∀ {j : Nat} {n : Nv}, Has (env.set i (some (.fix p l))) j n → n ≠ .fix p l → j ≠ i ∧ Has env j n := fun {j n} h ne => by
    have c : j ≠ i := fun z => by
      subst z
      exact ne (Option.some.inj (set_self h)).symm
    exact ⟨c, set_other h c⟩
  have lo : ∀ a, H0 a = none → lose H0 p a = none := fun a h => by
    by_cases c : a = p
    · subst c
      exact lose_same
    · rw [lose_ne c]
      exact h
  refine ⟨s.ex0, fun a o h e => s.nw0 a o (lose_some h).2 e, fun a o h c => s.keep0 a o (lose_some h).2 c, fun a h => lo a (s.old0 a h), by rw [List.length_set]; exact s.len, s.ex, fun j d h => ?_, fun j m h => ?_, fun j k m n q e1 e2 e3 e4 => ?_, fun j h => ?_, fun a e => ?_, fun j q m h => ?_, fun j k q m n e1 e2 e3 => ?_, fun j k q m n e1 e2 => ?_, fun a e => ?_⟩
  · exact s.val j d (other h (fun z => by cases z)).2
  · obtain ⟨q, vs, k1, k2, k3, k4⟩ := s.own j m (other h (fun z => by cases z)).2
    exact ⟨q, vs, k1, k2, lo q k3, k4⟩
  · exact s.dis j k m n q (other e1 (fun z => by cases z)).2 (other e2 (fun z => by cases z)).2 e3 e4
  · exact s.pl j (other h (fun z => by cases z)).2
  · obtain ⟨k1, u, k2⟩ := s.pool a e
    refine ⟨k1, u, ?_⟩
    have e' : pa = some a := e
    show lose H0 p a = some u
    rw [lose_ne (fun c => h2 (by rw [← c]; exact e'))]
    exact k2
  · by_cases c : j = i
    · subst c
      cases set_self h
      exact ⟨hs, h1, lose_same, o, h4, h5⟩
    · obtain ⟨k1, k2, k3, k4⟩ := s.fix j q m (set_other h c)
      exact ⟨k1, k2, lo q k3, k4⟩
  · obtain ⟨c2, g2⟩ := other e2 (fun z => by cases z)
    by_cases c : j = i
    · subst c
      cases set_self e1
      exact hno k n g2 e3
    · exact s.dfx j k q m n (set_other e1 c) g2 e3
  · by_cases c : j = i
    · subst c
      cases set_self e1
      by_cases c2 : k = j
      · exact c2.symm
      · exact (hnf k n (set_other e2 c2)).elim
    · by_cases c2 : k = i
      · subst c2
        cases set_self e2
        exact (hnf j m (set_other e1 c)).elim
      · exact s.dff j k q m n (set_other e1 c) (set_other e2 c2)
  · have e' : pa = some a := e
    show headO (H a) = headO (lose H0 p a)
    rw [lose_ne (fun c => h2 (by rw [← c]; exact e'))]
    exact s.pin a e
/-- a place is forgotten -/
theorem SR.forget {p : Addr} (s : SR K B S H env σ) (h0 : S p = none) (h1 : B.H0 p = none) (h2 : ¬ Ow B env σ p) : SR K B S (lose H p) env σ := by
  have up : ∀ a o, B.H0 a = some o → a ≠ p := fun a o h c => by
    rw [c, h1] at h
    cases h
  have npa : ∀ a, B.pa = some a → a ≠ p := fun a e c => h2 (.inl (by rw [← c]; exact e))
  refine ⟨s.ex0, s.nw0, fun a o h c => by rw [lose_ne (up a o h)]; exact s.keep0 a o h c, fun a h => ?_, s.len, fun a o h => ?_, s.val, fun j m h => ?_, s.dis, s.pl, fun a e => ?_, fun j q m h => ?_, s.dfx, s.dff, fun a e => by rw [lose_ne (npa a e)]; exact s.pin a e⟩
  · by_cases c : a = p
    · subst c
      exact h1
    · exact s.old0 a ((lose_ne c).symm.trans h)
  · rw [lose_ne (fun c => by rw [c, h0] at h; cases h)]
    exact s.ex a o h
  · obtain ⟨q, vs, k1, k2, k3, k4, k5⟩ := s.own j m h
    exact ⟨q, vs, k1, k2, k3, (lose_ne (fun c => h2 (.inr (.inl ⟨j, m, h, by rw [c] at k1; exact k1⟩)))).trans k4, k5⟩
  · obtain ⟨⟨y, l, cells, pos, big, seed, cnt, bud, k1, k2⟩, o⟩ := s.pool a e
    exact ⟨⟨y, l, cells, pos, big, seed, cnt, bud, (lose_ne (npa a e)).trans k1, k2⟩, o⟩
  · obtain ⟨k1, k2, k3, o, k4, k5⟩ := s.fix j q m h
    exact ⟨k1, k2, k3, o, (lose_ne (fun c => h2 (.inr (.inr ⟨j, m, by rw [c] at h; exact h⟩)))).trans k4, k5⟩
theorem set_slot {i : Nat} {v : V} (h : Slt σ i v) : σ.set i (some v) = σ := by
  refine List.ext_getElem? fun j => ?_
  by_cases c : i = j
  · subst c
    rw [List.getElem?_set_self (List.getElem?_eq_some_iff.mp h).1]
    exact h.symm
  · rw [List.getElem?_set_ne c]
/-- a name's thing is let go -/
theorem SR.letgo {i : Nat} {p : Addr} {l : FxL} (s : SR K B S H env σ) (h : Has env i (.fix p l)) : SR K B S H (env.set i none) σ ∧ ¬ Ow B (env.set i none) σ p := by
  obtain ⟨h1, h2, h3, o, h4, h5⟩ := s.fix i p l h
  have s1 := s.drop (i := i) (n := some (.ref p))
  rw [set_slot h1] at s1
  refine ⟨s1, fun w => ?_⟩
  rcases w with w | ⟨j, m, w1, w2⟩ | ⟨j, m, w1⟩
  · obtain ⟨_, o, z⟩ := s.pool p w
    rw [h3] at z
    cases z
  · by_cases c : j = i
    · subst c
      exact nomatch set_self w1
    · exact s.dfx i j p l m h (set_other w1 c) w2
  · by_cases c : j = i
    · subst c
      exact nomatch set_self w1
    · exact c (s.dff j i p m l (set_other w1 c) h)
theorem SR.refix {i : Nat} {p : Addr} {l : FxL} {o : HO} (s : SR K B S H env σ) (hs : Slt σ i (.ref p)) (h1 : S p = none) (h2 : B.H0 p = none) (h3 : ¬ Ow B env σ p) (h4 : H p = some o) (h5 : FxAt K S l o) : SR K B S H (env.set i (some (.fix p l))) σ := by
  have q := s.storeF (i := i) h1 h2 h3 h4 h5
  rw [set_slot hs] at q
  exact q
/-- two things handed over, and back -/
theorem SR.handed2 {i j : Nat} {p q : Addr} {l l' m m' : FxL} {o u : HO} {r : R} {v : V} (ij : i ≠ j) (s : SR K B S H env σ) (hp : Has env i (.fix p l)) (hq : Has env j (.fix q m)) (d : DRet K S (lose (lose H p) q) B.pa S' H' r v) (p1 : S' p = none) (p2 : H' p = some o) (p3 : FxAt K S' l' o)
    (q1 : S' q = none) (q2 : H' q = some u) (q3 : FxAt K S' m' u) : SR K B S' H' ((env.set i (some (.fix p l'))).set j (some (.fix q m'))) σ := by
  have pq : p ≠ q := fun z => ij (s.dff i j p l m hp (by rw [z]; exact hq))
  obtain ⟨a1, a2, a3, oa, a4, a5⟩ := s.fix i p l hp
  obtain ⟨b1, b2, b3, ob, b4, b5⟩ := s.fix j q m hq
  obtain ⟨s1, n1⟩ := s.letgo hp
  have hq1 : Has (env.set i none) j (.fix q m) := (List.getElem?_set_ne ij).trans hq
  obtain ⟨s2, n2⟩ := s1.letgo hq1
  have n1' : ¬ Ow B ((env.set i none).set j none) σ p := fun w => n1 (by
    rcases w with w | ⟨k, m, w1, w2⟩ | ⟨k, m, w1⟩
    · exact .inl w
    · by_cases c : k = j
      · subst c
        exact nomatch set_self w1
      · exact .inr (.inl ⟨k, m, set_other w1 c, w2⟩)
    · by_cases c : k = j
      · subst c
        exact nomatch set_self w1
      · exact .inr (.inr ⟨k, m, set_other w1 c⟩))
  have s3 := s2.forget a2 a3 n1'
  have s4 := s3.given b3 n2 d
  have s5 := s4.refix (i := i) (l := l') a1 p1 a3 n1' p2 p3
  have n3 : ¬ Ow B (((env.set i none).set j none).set i (some (.fix p l'))) σ q := fun w => by
    rcases w with w | ⟨k, m, w1, w2⟩ | ⟨k, m, w1⟩
    · exact n2 (.inl w)
    · by_cases c : k = i
      · subst c
        cases set_self w1
      · exact n2 (.inr (.inl ⟨k, m, set_other w1 c, w2⟩))
    · by_cases c : k = i
      · subst c
        cases set_self w1
        exact pq rfl
      · exact n2 (.inr (.inr ⟨k, m, set_other w1 c⟩))
  have s6 := s5.refix (i := j) (l := m') b1 q1 b3 n3 q2 q3
  have e : (((env.set i none).set j none).set i (some (.fix p l'))).set j (some (.fix q m')) = (env.set i (some (.fix p l'))).set j (some (.fix q m')) := by
    rw [List.set_comm _ _ (Ne.symm ij), List.set_set, List.set_set]
  rw [e] at s6
  exact s6
end
end DL
end

section
set_option Elab.async false
set_option linter.all false
set_option maxRecDepth 100000
set_option maxHeartbeats 4000000
namespace DL
open PySem PySem.Spec PyProof.Rows L2
open Evl (Ex)
abbrev FMJ := List R → List D → List D → (R → List D → List D → Prop) → Prop
abbrev anyR : R := .val .any
def startJ (n : Nat) (rs : List R) (p : Addr) (l : List D) (q : Addr) (m : List D) : En := ((startD n (rs ++ [anyR, anyR])).set rs.length (some (.fix p (.lst l)))).set (rs.length + 1) (some (.fix q (.lst m)))
def bodyJ (n : Nat) (b : DSM) : FMJ := fun rs l m Qd => ∀ p q : Addr, b { nx := fun env => ∃ l' m', Has env rs.length (.fix p (.lst l')) ∧ Has env (rs.length + 1) (.fix q (.lst m')) ∧ Qd (.val .non) l' m', rt := fun env r => ∃ l' m', Has env rs.length (.fix p (.lst l')) ∧ Has env (rs.length + 1) (.fix q (.lst m')) ∧ Qd r l' m' } (startJ n rs p l q m)
def LstAt (K : PySem.W.Frag) (S H : Hp) (p : Addr) (l : List D) : Prop := S p = none ∧ ∃ ws, H p = some (.lst ws) ∧ Reps K S ws l
def spJ (K : PySem.W.Frag) (n : Nat) (F : FMJ) : Sp := fun vs H Q _ => ∃ (S : Hp) (pa : Option Addr) (vs0 : List V) (p q : Addr) (rs : List R) (l m : List D) (Qd : R → List D → List D → Prop), vs = vs0 ++ [.ref p, .ref q] ∧ Ex S H ∧ (∀ a, pa = some a → PoolAt S H a) ∧ ArgR K S pa vs0 rs ∧ vs.length = n ∧ p ≠ q ∧
  (pa ≠ some p ∧ LstAt K S H p l) ∧ (pa ≠ some q ∧ LstAt K S H q m) ∧ F rs l m Qd ∧
  ∀ v H' S' r l' m', DRet K S (lose (lose H p) q) pa S' H' r v → LstAt K S' H' p l' → LstAt K S' H' q m' → Qd r l' m' → Q v H'
theorem spJ.imp {K : PySem.W.Frag} {n : Nat} {F F' : FMJ} (h : ∀ rs l m Q, F' rs l m Q → F rs l m Q) : ∀ vs H Q E, spJ K n F' vs H Q E → spJ K n F vs H Q E :=
  fun vs H Q E ⟨S, pa, vs0, p, q, rs, l, m, Qd, h0, h1, h2, h3, h4, h5, h6, h7, h8, h9⟩ => ⟨S, pa, vs0, p, q, rs, l, m, Qd, h0, h1, h2, h3, h4, h5, h6, h7, h _ _ _ _ h8, h9⟩
section
variable {K : PySem.W.Frag} {S H : Hp} {pa : Option Addr}
theorem ArgR.app2 {v : V} {d : D} (r : Rep K S v d) : ∀ {vs : List V} {rs : List R}, ArgR K S pa vs rs → ArgR K S pa (vs ++ [v]) (rs ++ [.val d])
  | _, _, .nil => .val r .nil
  | _, _, .val h t => .val h (ArgR.app2 r t)
  | _, _, .pool h t => .pool h (ArgR.app2 r t)
theorem SR.entryJ {vs : List V} {rs : List R} {N : List Str} {p q : Addr} {l m : List D} (h1 : Ex S H) (h2 : ∀ a, pa = some a → PoolAt S H a) (h3 : ArgR K S pa vs rs) (hn : rs.length + 1 < N.length) (pq : p ≠ q) (hp : pa ≠ some p) (hpl : LstAt K S H p l) (hq : pa ≠ some q) (hql : LstAt K S H q m) :
    SR K ⟨S, lose (lose H p) q, pa⟩ S H (startJ N.length rs p l q m) (L2.start N (vs ++ [.ref p, .ref q])) := by
  have hl := h3.length
  have a1 := (h3.app2 (.any (.ref p))).app2 (.any (.ref q))
  rw [List.append_assoc, List.append_assoc] at a1
  have s0 := SR.entry (N := N) h1 h2 a1
  obtain ⟨p1, ws, p2, p3⟩ := hpl
  obtain ⟨q1, us, q2, q3⟩ := hql
  have len0 : (startD N.length (rs ++ [anyR, anyR])) = rs.map R.nv ++ (some (.val .any) :: some (.val .any) :: List.replicate (N.length - (rs.length + 2)) none) := by
    unfold startD
    rw [List.map_append, List.length_append, List.append_assoc]
    rfl
  have own0 : ∀ j m, ¬ Has (startD N.length (rs ++ [anyR, anyR])) j (.own m) := fun j m h => by
    have h' : (rs.map R.nv ++ (some (.val .any) :: some (.val .any) :: List.replicate (N.length - (rs.length + 2)) none))[j]? = some (some (.own m)) := by rw [← len0]; exact h
    rcases List.mem_append.mp (List.mem_of_getElem? h') with w | w
    · obtain ⟨r, hr, er⟩ := List.mem_map.mp w
      have : ∀ {vs : List V} {rs : List R}, ArgR K S pa vs rs → ∀ r ∈ rs, R.nv r ≠ some (.own m) := fun {vs rs} a => by
        induction a with
        | nil => intro r hr; cases hr
        | val _ _ ih =>
          intro r hr
          rcases List.mem_cons.mp hr with rfl | hr
          · intro z; cases z
          · exact ih r hr
        | pool _ _ ih =>
          intro r hr
          rcases List.mem_cons.mp hr with rfl | hr
          · intro z; cases z
          · exact ih r hr
      exact this h3 r hr er
    · rcases List.mem_cons.mp w with w | w
      · cases w
      · rcases List.mem_cons.mp w with w | w
        · cases w
        · rw [List.mem_replicate] at w
          cases w.2
  have fix0 : ∀ j x m, ¬ Has (startD N.length (rs ++ [anyR, anyR])) j (.fix x m) := fun j x m h => by
    have h' : (rs.map R.nv ++ (some (.val .any) :: some (.val .any) :: List.replicate (N.length - (rs.length + 2)) none))[j]? = some (some (.fix x m)) := by rw [← len0]; exact h
    rcases List.mem_append.mp (List.mem_of_getElem? h') with w | w
    · obtain ⟨r, hr, er⟩ := List.mem_map.mp w
      cases r with
      | val d => cases er
      | own l => cases er
      | brw i l => cases er
      | pool => cases er
    · rcases List.mem_cons.mp w with w | w
      · cases w
      · rcases List.mem_cons.mp w with w | w
        · cases w
        · rw [List.mem_replicate] at w
          cases w.2
  have at0 : Has (startD N.length (rs ++ [anyR, anyR])) rs.length (.val .any) := by
    rw [len0]
    show (rs.map R.nv ++ _)[rs.length]? = _
    rw [List.getElem?_append_right (by rw [List.length_map]; exact Nat.le_refl _), List.length_map, Nat.sub_self]
    rfl
  have at1 : Has (startD N.length (rs ++ [anyR, anyR])) (rs.length + 1) (.val .any) := by
    rw [len0]
    show (rs.map R.nv ++ _)[rs.length + 1]? = _
    rw [List.getElem?_append_right (by rw [List.length_map]; exact Nat.le_succ _), List.length_map, Nat.add_sub_cancel_left]
    rfl
  have slt : ∀ k v, (vs ++ [V.ref p, V.ref q])[k]? = some v → Slt (L2.start N (vs ++ [.ref p, .ref q])) k v := fun k v h => by
    unfold L2.start
    have c : k < ((vs ++ [V.ref p, V.ref q]).map some).length := by
      rw [List.length_map]
      exact (List.getElem?_eq_some_iff.mp h).1
    show ((vs ++ [V.ref p, V.ref q]).map some ++ List.replicate (N.length - (vs ++ [V.ref p, V.ref q]).length) none)[k]? = some (some v)
    rw [List.getElem?_append_left c, List.getElem?_map, h]
    rfl
  have sp : Slt (L2.start N (vs ++ [.ref p, .ref q])) rs.length (.ref p) := slt _ _ (by
    rw [List.getElem?_append_right (by omega), hl, Nat.sub_self]
    rfl)
  have sq : Slt (L2.start N (vs ++ [.ref p, .ref q])) (rs.length + 1) (.ref q) := slt _ _ (by
    rw [List.getElem?_append_right (by omega), hl, Nat.add_sub_cancel_left]
    rfl)
  have s1 := SR.regive (l := .lst l) s0 at0 sp p1 hp (fun j m h => absurd h (own0 j m)) (fun j m => fix0 j p m) p2 ⟨ws, rfl, p3⟩
  refine SR.regive (l := .lst m) s1 ((List.getElem?_set_ne (Nat.ne_of_lt (Nat.lt_succ_self _))).trans at1) sq q1 hq (fun j m h => ?_) (fun j m h => ?_) q2 ⟨us, rfl, q3⟩
  · by_cases c : j = rs.length
    · subst c
      exact nomatch set_self h
    · exact absurd (set_other h c) (own0 j m)
  · by_cases c : j = rs.length
    · subst c
      have e := set_self h
      injection e with e
      injection e with e
      exact pq e
    · exact fix0 j q m (set_other h c)
theorem fn_dJ {P : Program} {w : World} {mg : Str → Option Value} {base : Heap} {x qual : Str} {st : Stmt} {f : Addr} {fd : FuncData} {N ps : List Str} {k : Nat} {b : DSM} (F : Fun K x qual st f fd) (Sc : FnScope N ps (defScope st))
    (hbody : ∀ (cdv : Value) (A : Around) (outer : List Env) (s : Shared) (H : Hp) (E : XK), Room k (A.deeper (envOfC qual (defScope st) s.heap.objs.size f cdv)) → ∃ t, DSs (cxOf CX0 P w K mg base N qual (defScope st) f cdv A outer s H E).nox (defBody st) b t) :
    FnOk P w K mg base CX0 (k + 1) f fd ps (spJ K ps.length (bodyJ N.length b)) := by
  have hpl : ps.length ≤ N.length := by
    have := congrArg List.length Sc.pre
    rw [List.length_take] at this
    omega
  refine F.ok Sc (fun vs H Q E h => ?_) fun cdv A outer s H vs Q E hr h => ?_
  · obtain ⟨S, pa, vs0, p, q, rs, l, m, Qd, h0, h1, h2, h3, h4, h5⟩ := h
    exact h4
  · obtain ⟨S, pa, vs0, p, q, rs, l, m, Qd, rfl, h1, h2, h3, h4, h5, ⟨p1, p2⟩, ⟨q1, q2⟩, h6, h7⟩ := h
    obtain ⟨t, t1, t2⟩ := hbody cdv A outer s H E hr
    have hn : rs.length + 1 < N.length := by
      rw [List.length_append, h3.length] at h4
      have : ([V.ref p, V.ref q] : List V).length = 2 := rfl
      omega
    refine ⟨t, t1, t2 ⟨S, lose (lose H p) q, pa⟩ S H _ _ _ _ (SR.entryJ h1 h2 h3 hn h5 p1 p2 q1 q2) (h6 p q) ?_⟩
    have fin : ∀ {S' H' : Hp} {env : En} {σ : L2.St} {r : R} {v : V}, SR K ⟨S, lose (lose H p) q, pa⟩ S' H' env σ → RetR K ⟨S, lose (lose H p) q, pa⟩ S' H' r v → (∃ l' m', Has env rs.length (.fix p (.lst l')) ∧ Has env (rs.length + 1) (.fix q (.lst m')) ∧ Qd r l' m') → Q v H' := fun s r ⟨l', m', f, g, z⟩ => by
      obtain ⟨_, k2, _, o, k4, ws, rfl, k5⟩ := s.fix _ _ _ f
      obtain ⟨_, g2, _, o, g4, us, rfl, g5⟩ := s.fix _ _ _ g
      exact h7 _ _ _ _ l' m' (s.dret r) ⟨k2, ws, k4, k5⟩ ⟨g2, us, g4, g5⟩ z
    exact ⟨fun S' H' env σ s q => fin s (r := .val .non) .non q, fun S' H' env σ r v s q z => fin s q z, fun _ _ _ _ _ z => z.elim, fun _ _ _ _ _ z => z.elim, fun _ _ _ _ _ _ _ _ _ _ _ _ z => z.elim⟩
end
end DL
end

section
set_option Elab.async false
set_option linter.all false
set_option maxRecDepth 100000
set_option maxHeartbeats 4000000
namespace DL
open PySem PySem.Spec PyProof.Rows L2
open Evl (Ex)
/-! ### such defs called: with the own two lists, with two new ones -/
abbrev DJM := En → (En → List R → Addr → List D → Addr → List D → Prop) → Prop
def DFJ (X : Cx) (i j : Nat) (es : List Expr) (m : DJM) (t : TA) : Prop := PA X es t ∧ ∀ (B : Bs) (S H : Hp) (env : En) (σ : L2.St) (Q : En → List R → Addr → List D → Addr → List D → Prop) (Qv : List V → Hp → Prop), SR X.K B S H env σ → m env Q →
  (∀ vs p q H' S' env' rs l m, TPo X.K B S H env σ S' H' env' → LkA X.K B S' H' vs rs → Has env' i (.fix p (.lst l)) → Has env' j (.fix q (.lst m)) → vs.length + 2 = es.length → Q env' rs p l q m → Qv (vs ++ [.ref p, .ref q]) H') → t σ H Qv
def dEndJ (i j : Nat) : DJM := fun env Q => match env[i]?, env[j]? with
  | some (some (.fix p (.lst l))), some (some (.fix q (.lst m))) => Q env [] p l q m
  | _, _ => False
def dConsJ (m : DM) (n : DJM) : DJM := fun env Q => m env fun env1 r => n env1 fun env2 rs p l q m => Q env2 (r :: rs) p l q m
def dCallJ (i j : Nat) (F : FMJ) (n : DJM) : PM := fun env Q _ => n env fun env' rs p l q m => argsOk rs = true ∧ F rs l m fun r l' m' => match r with
  | .val d => Q ((env'.set i (some (.fix p (.lst l')))).set j (some (.fix q (.lst m')))) d
  | _ => False
abbrev DL2M := En → (En → List R → List D → List D → Prop) → Prop
def DLA2 (X : Cx) (es : List Expr) (m : DL2M) (t : TA) : Prop := PA X es t ∧ ∀ (B : Bs) (S H : Hp) (env : En) (σ : L2.St) (Q : En → List R → List D → List D → Prop) (Qv : List V → Hp → Prop), SR X.K B S H env σ → m env Q →
  (∀ vs p q H' S' env' rs l m, TPo X.K B S H env σ S' H' env' → LkA X.K B S' H' vs rs → Gift X.K B H S' H' env' σ p l → Gift X.K B H S' H' env' σ q m → p ≠ q → vs.length + 2 = es.length → Q env' rs l m → Qv (vs ++ [.ref p, .ref q]) H') → t σ H Qv
def dEnd2 (m n : DM) : DL2M := fun env Q => m env fun env1 r1 => n env1 fun env2 r2 => match r1, r2 with
  | .own l, .own m => Q env2 [] l m
  | _, _ => False
def dCons2 (m : DM) (n : DL2M) : DL2M := fun env Q => m env fun env1 r => n env1 fun env2 rs l m => Q env2 (r :: rs) l m
def dCall2 (F : FMJ) (n : DL2M) : DM := fun env Q => n env fun env' rs l m => argsOk rs = true ∧ F rs l m fun r _ _ => match r with
  | .val d => Q env' (.val d)
  | _ => False
/-- name op e, e a call that may change things -/
def dOpV (i : Nat) (o : M2) (n : PM) : PM := fun env Q Qx => match env[i]? with
  | some (some (.own _)) => n env (fun env' d => match env'[i]? with
    | some (some (.own l)) => o (.lst l) d fun r => match r with
      | .val x => Q env' x
      | .own x => Q env' (.lst x)
      | _ => False
    | _ => False) Qx
  | some (some (.val _)) => n env (fun env' d => match env'[i]? with
    | some (some (.val y)) => o y d fun r => match r with
      | .val x => Q env' x
      | .own x => Q env' (.lst x)
      | _ => False
    | _ => False) Qx
  | _ => False
section
variable {X : Cx} {a b : Expr} {ma mb : DM} {ta tb : TE} {k : Nat} {f : Addr} {fd : FuncData} {ps : List Str} {F : FMJ} {x : Str} {p pos : Pos} {e : Expr} {es : List Expr} {n : DJM} {n2 : DL2M} {tn : TA} {np i j : Nat}
theorem dfj_end (hv : PE X a (tVar i)) (hw : PE X b (tVar j)) (hs : starEach (a :: [b]) X.env = (false, eval a X.env) :: starEach [b] X.env := by rfl) (hs2 : starEach (b :: []) X.env = (false, eval b X.env) :: starEach [] X.env := by rfl) : DFJ X i j [a, b] (dEndJ i j) (tCons (tVar i) (tCons (tVar j) tNil)) := by
  refine ⟨pa_cons hv (pa_cons hw pa_nil hs2) hs, fun B S H env σ Q Qv s q k => ?_⟩
  unfold dEndJ at q
  split at q
  · rename_i p l q' m c1 c2
    obtain ⟨h1, _⟩ := s.fix i p _ c1
    obtain ⟨h2, _⟩ := s.fix j q' _ c2
    exact ⟨_, h1, _, h2, k [] p q' H S env [] l m (.refl s) .nil c1 c2 rfl q⟩
  · exact q.elim
theorem dfj_cons (ha : DE X a ma ta) (hb : DFJ X i j es n tn) (hs : starEach (a :: es) X.env = (false, eval a X.env) :: starEach es X.env := by rfl) : DFJ X i j (a :: es) (dConsJ ma n) (tCons ta tn) := by
  refine ⟨pa_cons ha.1 hb.1 hs, fun B S H env σ Q Qv s q k => ?_⟩
  refine ha.2 B S H env σ _ _ s q fun x H1 S1 env1 r1 e1 q1 => ?_
  refine hb.2 B S1 H1 env1 σ _ _ e1.sr q1 fun vs p q' H2 S2 env2 rs l m e2 l2 g g' len2 q2 => ?_
  refine k (x :: vs) p q' H2 S2 env2 (r1 :: rs) l m (e1.t.trans e2) (.cons (RepB.go e1 rfl e2) (fun d e => ?_) (fun e => ?_) l2) g g' (by rw [List.length_cons, List.length_cons]; omega) q2
  · subst e
    have := e1.res
    exact Rep.mono e2.go.ex this
  · subst e
    exact e1.res
theorem dp_callJ (ij : i ≠ j) (hF : FnOk X.prog X.w X.K X.mg X.base CX0 k f fd ps (spJ X.K np F)) (hr : Room k X.A) (hg : Gl X x) (hm : X.mg x = some (.ref f)) (hk : PySem.W.keepIn X.K (.ref f) = true) (hb : Binds X.K fd ps [])
    (ha : DFJ X i j (e :: es) n tn) (hlen : (e :: es).length = np) (hdb : (x == ("__debug__" : Str)) = false := by decide) (he : starEach (e :: es) X.env = (false, eval e X.env) :: starEach es X.env := by rfl) (hpl : (backTo pos (starEach es X.env)).any (·.1) = false := by rfl) :
    DP X (.Call (.Name x p) (e :: es) [] pos) (dCallJ i j F n) (tCall (spJ X.K np F) [] E0 tn) := by
  refine ⟨pe_call hF hr hg hm hk hb .nil pass0 ha.1 hdb he hpl, fun B S H env σ Q Qx Qv s q xk k => ha.2 B S H env σ _ _ s q fun vs p q' H1 S1 env1 rs l m z lk g g' len q1 => ?_⟩
  show spJ X.K np F ((vs ++ [.ref p, .ref q']) ++ []) H1 Qv E0
  rw [List.append_nil]
  obtain ⟨h1, h2, h3, o, h4, ws, rfl, h5⟩ := z.sr.fix i p _ g
  obtain ⟨g1, g2, g3, o, g4, us, rfl, g5⟩ := z.sr.fix j q' _ g'
  have hpa : B.pa ≠ some p := fun e => by
    obtain ⟨_, o, w⟩ := z.sr.pool p e
    rw [h3] at w
    cases w
  have hqa : B.pa ≠ some q' := fun e => by
    obtain ⟨_, o, w⟩ := z.sr.pool q' e
    rw [g3] at w
    cases w
  have pq : p ≠ q' := fun w => ij (z.sr.dff i j p _ _ g (by rw [w]; exact g'))
  refine ⟨S1, B.pa, vs, p, q', rs, l, m, _, rfl, z.sr.ex, fun a e => (z.sr.pool a e).1, lk.args q1.1, by rw [List.length_append]; exact len.trans hlen, pq, ⟨hpa, h2, ws, h4, h5⟩, ⟨hqa, g2, us, g4, g5⟩, q1.2, fun v H' S' r l' m' d ⟨c1, vs1, c2, c3⟩ ⟨d1, vs2, d2, d3⟩ qr => ?_⟩
  cases r with
  | val d0 => exact k v d0 H' S' _ (z.sr.handed2 (l' := .lst l') (m' := .lst m') ij g g' d c1 c2 ⟨_, rfl, c3⟩ d1 d2 ⟨_, rfl, d3⟩) d.ret qr
  | own l2 => exact qr.elim
  | pool => exact qr.elim
  | brw i l2 => exact qr.elim
theorem dla2_end (ha : DE X a ma ta) (hb : DE X b mb tb) (hs : starEach (a :: [b]) X.env = (false, eval a X.env) :: starEach [b] X.env := by rfl) (hs2 : starEach (b :: []) X.env = (false, eval b X.env) :: starEach [] X.env := by rfl) : DLA2 X [a, b] (dEnd2 ma mb) (tCons ta (tCons tb tNil)) := by
  refine ⟨pa_cons ha.1 (pa_cons hb.1 pa_nil hs2) hs, fun B S H env σ Q Qv s q k => ?_⟩
  refine ha.2 B S H env σ _ _ s q fun v H1 S1 env1 r1 e1 q1 => ?_
  refine hb.2 B S1 H1 env1 σ _ _ e1.sr q1 fun u H2 S2 env2 r2 e2 q2 => ?_
  split at q2
  · rename_i l m
    obtain ⟨p, ws, rfl, z1, z2, z3, z4, z5, z6⟩ := e1.res
    obtain ⟨q', us, rfl, y1, y2, y3, y4, y5, y6⟩ := e2.res
    have ne : p ≠ q' := fun c => by
      rw [← c, z5] at y3
      cases y3
    exact k [] p q' H2 S2 env2 [] l m (e1.t.trans e2.t) .nil ⟨e2.go.nw p _ z5 z4 z1, z2, fun w => z4 (Ow.frz e2.fz w), z3, ws, e2.go.keep p _ z5 z4, z6.mono e2.go.ex⟩ ⟨y1, y2, y4, e1.go.old q' y3, us, y5, y6⟩ ne rfl q2
  · exact q2.elim
theorem dla2_cons (ha : DE X a ma ta) (hb : DLA2 X es n2 tn) (hs : starEach (a :: es) X.env = (false, eval a X.env) :: starEach es X.env := by rfl) : DLA2 X (a :: es) (dCons2 ma n2) (tCons ta tn) := by
  refine ⟨pa_cons ha.1 hb.1 hs, fun B S H env σ Q Qv s q k => ?_⟩
  refine ha.2 B S H env σ _ _ s q fun x H1 S1 env1 r1 e1 q1 => ?_
  refine hb.2 B S1 H1 env1 σ _ _ e1.sr q1 fun vs p q' H2 S2 env2 rs l m e2 l2 g g' ne len2 q2 => ?_
  refine k (x :: vs) p q' H2 S2 env2 (r1 :: rs) l m (e1.t.trans e2) (.cons (RepB.go e1 rfl e2) (fun d e => ?_) (fun e => ?_) l2) ⟨g.s, g.b, g.o, e1.go.old p g.n, g.at_⟩ ⟨g'.s, g'.b, g'.o, e1.go.old q' g'.n, g'.at_⟩ ne (by rw [List.length_cons, List.length_cons]; omega) q2
  · subst e
    have := e1.res
    exact Rep.mono e2.go.ex this
  · subst e
    exact e1.res
theorem de_call2 (hF : FnOk X.prog X.w X.K X.mg X.base CX0 k f fd ps (spJ X.K np F)) (hr : Room k X.A) (hg : Gl X x) (hm : X.mg x = some (.ref f)) (hk : PySem.W.keepIn X.K (.ref f) = true) (hb : Binds X.K fd ps [])
    (ha : DLA2 X (e :: es) n2 tn) (hlen : (e :: es).length = np) (hdb : (x == ("__debug__" : Str)) = false := by decide) (he : starEach (e :: es) X.env = (false, eval e X.env) :: starEach es X.env := by rfl) (hpl : (backTo pos (starEach es X.env)).any (·.1) = false := by rfl) :
    DE X (.Call (.Name x p) (e :: es) [] pos) (dCall2 F n2) (tCall (spJ X.K np F) [] E0 tn) := by
  refine ⟨pe_call hF hr hg hm hk hb .nil pass0 ha.1 hdb he hpl, fun B S H env σ Q Qv s q k => ha.2 B S H env σ _ _ s q fun vs p q' H1 S1 env1 rs l m z lk g g' ne len q1 => ?_⟩
  show spJ X.K np F ((vs ++ [.ref p, .ref q']) ++ []) H1 Qv E0
  rw [List.append_nil]
  refine ⟨S1, B.pa, vs, p, q', rs, l, m, _, rfl, z.sr.ex, fun a e => (z.sr.pool a e).1, lk.args q1.1, by rw [List.length_append]; exact len.trans hlen, ne, ⟨fun e => g.o (.inl e), g.s, g.at_⟩, ⟨fun e => g'.o (.inl e), g'.s, g'.at_⟩, q1.2, fun v H' S' r l' m' d _ _ qr => ?_⟩
  have s' := (z.sr.forget g.s g.b g.o).given g'.b g'.o d
  have go : Go (Ow B env σ) S H S' H' := by
    refine ⟨z.go.ex.trans d.ex, fun a o h nz => ?_, fun a o h nz e => ?_, fun a h => ?_⟩
    · have n1 : a ≠ p := fun c => by rw [c, g.n] at h; cases h
      have n2 : a ≠ q' := fun c => by rw [c, g'.n] at h; cases h
      exact d.keep a o ((lose_ne n2).trans ((lose_ne n1).trans (z.go.keep a o h nz))) fun e => nz (.inl e)
    · have n1 : a ≠ p := fun c => by rw [c, g.n] at h; cases h
      have n2 : a ≠ q' := fun c => by rw [c, g'.n] at h; cases h
      exact d.nw a o ((lose_ne n2).trans ((lose_ne n1).trans (z.go.keep a o h nz))) (z.go.nw a o h nz e)
    · by_cases n1 : a = p
      · subst n1
        exact g.n
      · by_cases n2 : a = q'
        · subst n2
          exact g'.n
        · exact z.go.old a ((lose_ne n1).symm.trans ((lose_ne n2).symm.trans (d.old a h)))
  cases r with
  | val d0 => exact k v H' S' env1 (.val d0) ⟨s', go, z.fz, d.ret⟩ qr
  | own l2 => exact qr.elim
  | pool => exact qr.elim
  | brw i l2 => exact qr.elim
/-- what a rule by values has given, kept -/
theorem SR.nwr {K : PySem.W.Frag} {B : Bs} {S H S' H' : Hp} {env : En} {σ : L2.St} {r : R} {v : V} (s : SR K B S H env σ) (n : NwR K S H S' H' r v) : ∃ S'' d, SR K B S'' H' env σ ∧ Rep K S'' v d ∧ ((∃ x, r = .val x ∧ d = x) ∨ ∃ l, r = .own l ∧ d = .lst l) := by
  cases r with
  | val x => exact ⟨S', x, s.nw n.1, n.2, .inl ⟨x, rfl, rfl⟩⟩
  | own l =>
    obtain ⟨n1, p, vs, rfl, h1, h2, h3, h4⟩ := n
    have e1 : Ex S' (upd S' p (.lst vs)) := Ex.new h2
    have nO : ¬ Ow B env σ p := s.now h1
    exact ⟨_, .lst l, (s.nw n1).add h2 (s.hp0 h1) nO h3, .lst upd_same (h4.mono e1), .inr ⟨l, rfl, rfl⟩⟩
  | brw i l => exact n.elim
  | pool => exact n.elim
theorem dp_opV {op : Operator} {r : R2} {o : M2} {m : PM} (ho : OpR X (binaryOp op) r) (hd : OpD X.K r o) (hv : PE X a (tVar i)) (hb : DP X b m tb) : DP X (.BinOp a op b pos) (dOpV i o m) (tOp r (tVar i) tb) := by
  refine ⟨pe_op ho hv hb.1, fun B S H env σ Q Qx Qv s q xk k => ?_⟩
  have fin : ∀ {S2 H2 : Hp} {env2 : En} {x y : V} {dx dy : D}, SR X.K B S2 H2 env2 σ → RepB X.K S2 H2 x dx → Rep X.K S2 y dy → (o dx dy fun r => match r with
      | .val x => Q env2 x
      | .own x => Q env2 (.lst x)
      | _ => False) → r x y H2 Qv := fun {S2 H2 env2 x y dx dy} s2 r1 r2 q2 => by
    refine hd S2 H2 x y dx dy _ Qv s2.ex r1 (.inl r2) q2 fun v H3 S3 z n q3 => ?_
    obtain ⟨S4, d, s4, r4, hz⟩ := s2.nwr n
    rcases hz with ⟨x, rfl, rfl⟩ | ⟨l, rfl, rfl⟩
    · exact k v _ H3 S4 env2 s4 r4 q3
    · exact k v _ H3 S4 env2 s4 r4 q3
  unfold dOpV at q
  split at q
  · rename_i l0 c0
    obtain ⟨p, vs, hp, _⟩ := s.own i _ c0
    refine ⟨_, hp, hb.2 B S H env σ _ Qx _ s q xk fun u d H2 S2 env2 s2 r2 q2 => ?_⟩
    split at q2
    · rename_i l c
      obtain ⟨p', ws, y1, y2, y3, y4, y5⟩ := s2.own i l c
      cases Slt.ref hp y1
      exact fin s2 (.inr ⟨p, ws, l, rfl, rfl, y4, y5⟩) r2 q2
    · exact q2.elim
  · rename_i x0 c0
    obtain ⟨v, hp, _⟩ := s.val i _ c0
    refine ⟨_, hp, hb.2 B S H env σ _ Qx _ s q xk fun u d H2 S2 env2 s2 r2 q2 => ?_⟩
    split at q2
    · rename_i y c
      obtain ⟨w, y1, y2⟩ := s2.val i y c
      cases Slt.inj hp y1
      exact fin s2 (.inl y2) r2 q2
    · exact q2.elim
  · exact q.elim
end
end DL
end

section
set_option Elab.async false
set_option linter.all false
set_option maxRecDepth 100000
set_option maxHeartbeats 4000000
/-! isinstance of an own error that the suite holds, its field set. -/
namespace EX
open PySem PySem.W PySem.Spec PySem.Calls PyProof.Rows
section
variable {prog : Program} {w : World} {A : Around} {E : Value → Shared → Prop} {s : Shared} {K : Frag} {x D : Addr} {ox : Obj} {od : Option Obj}
theorem descr_any {C : Addr} {nm : Str} {at_ gt : Value} (h1 : (clsIn K C).isSome = true) (h2 : findIn K (.ref C) nm = some (some at_)) (h3 : specialIn K at_ "__get__" = some (some gt)) (h4 : takesIn K at_ = some true) : findObj K C od nm = some (.bind gt at_) := by
  obtain ⟨c, h1⟩ := Option.isSome_iff_exists.mp h1
  unfold findObj
  rw [h1, Option.bind_some, h2, Option.bind_some]
  simp [h3, h4]
theorem cls_read {Q : Option Value → Shared → Prop} (T : L2.ExcC K D) (X : K.In s.heap) (I : InstAt s.heap x ox D od) (h : Q (some (.ref D)) { s with toks := s.toks + 1 }) : wpAny (model prog w) A (getAttr? (.ref x) "__class__") Q E s := by
  have hf : findObj K D od "__class__" = some (.bind (.builtin "getset_descriptor.__get__") (.builtin "object.__class__")) := descr_any (by obtain ⟨c, q, _⟩ := any_some T.hd; rw [q]; rfl) T.ha T.hn T.ht
  obtain ⟨hp, g, d, t, os⟩ := s
  have la := I.type (M := model prog w)
  have lb := looks_findIn (M := model prog w) X T.hg
  have lc := looks_findIn (M := model prog w) X T.hk
  have ld := looks_find (M := model prog w) X I hf
  have sb : Looks (model prog w) hp (isInstance (.ref x) (.type "BaseException")) true := la.andThen (looks_subIn X T.hs)
  have e1 : (Value.builtin "BaseException.__getattribute__" == Value.builtin "object.__getattribute__") = false := by decide +kernel
  have e2 : (onTheHeap (Value.ref D) && Value.builtin "BaseException.__getattribute__" == Value.builtin "object.__getattribute__") = false := by rw [e1]; rfl
  unfold getAttr? getAttrBy? getAttrBy; refine wpAny_bind (wpAny_mkText (wpAny_bind (wpAny_attempt (wpAny_holding (wpAny_bind (la.at (wpAny_bind (lb.at ?_))))))))
  show wpAny _ _ (if (onTheHeap (Value.ref D) && Value.builtin "BaseException.__getattribute__" == Value.builtin "object.__getattribute__") = true then _ else _) _ _ _
  rw [e2, if_neg Bool.false_ne_true]; unfold getAttrByItsOwn hookBefore
  refine wpAny_bind ?_
  rw [if_pos (show onTheHeap (Value.ref D) = true from rfl)]; refine lc.at ?_
  refine wpAny_bind (wpAny_attempt (wpAny_holding ?_)); unfold callGetattribute
  rw [show (false && onTheHeap (Value.builtin "BaseException.__getattribute__")) = false from rfl, if_neg Bool.false_ne_true]
  unfold boundAndCalled
  rw [PySem.F.excAttr_ValueError.ga.bind (.ref x)]; refine wpAny_bind (wpAny_pure ?_)
  show wpAny _ _ (call (.builtin "BaseException.__getattribute__") [.ref x, .str "__class__" t]) _ _ _
  refine wpAny_call (codeAny_call_builtin PySem.F.excAttr_ValueError.ga.plain PySem.F.entry_bexc_ga ?_)
  refine @check_slot (model prog w) _ _ ⟨hp, g, d, t + 1, os⟩ "BaseException.__getattribute__" "BaseException" "__getattribute__" (.ref x) [.str "__class__" t] [] _ (by decide +kernel) (by decide +kernel) sb (PySem.F.args_bexc_ga (.ref x) (.str "__class__" t)) ?_
  unfold Builtin.«object.__getattribute__»
  refine wpAny_bind (wpAny_of_eq (a := ((Value.ref x : Value), [Value.str "__class__" t])) (by first | rfl | (simp only [slotArgs]; rfl)) ?_)
  refine wpAny_bind (wpAny_pure (wpAny_bind (la.at (wpAny_bind (ld.at ?_)))))
  show wpAny _ _ (holding [Value.builtin "object.__class__"] (call (.builtin "getset_descriptor.__get__") [.builtin "object.__class__", .ref x, .ref D]) >>= ret) _ _ _
  refine wpAny_bind (wpAny_holding (wpAny_call (class_get (s := ⟨hp, g, d, t + 1, os⟩) (ox := ox) (od := od) X I T.hm ?_)))
  refine wpAny_pure ?_
  show wpAny _ _ (handedOut (.ref D)) _ _ _
  rw [handedOut_of (v := .ref D) rfl]
  first
    | exact wpAny_pure (wpAny_pure h)
    | exact wpAny_pure h
    | exact wpAny_pure (wpAny_bind (wpAny_pure (wpAny_pure h)))
theorem kit_err (T : L2.ExcC K D) : KitX K (.ref x) (.ref D) (fun h => InstAt h x ox D od) where
  ty := fun _ _ _ I => I.type
  it := fun _ _ X _ => by
    obtain ⟨c, hc, _⟩ := any_some T.hd
    unfold clsIn at hc
    split at hc
    · rename_i c' d' cd' sl' ho
      intro A' Q' E' s' k q
      unfold isType loadHead
      exact wpAny_bind (wpAny_loadPart (k _ _ (X _ _ ho)) (wpAny_pure q))
    · cases hc
  ne := fun h tp dd its n sl X htp => by
    obtain ⟨c, hc, _⟩ := any_some T.hd
    refine Bool.eq_false_iff.mpr fun q => ?_
    obtain rfl : D = tp := Value.ref.inj (beq_iff_eq.mp q)
    unfold clsIn at hc
    split at hc
    · rename_i c' d' cd' sl' ho
      cases (X _ _ ho).symm.trans htp
    · cases hc
  ca := fun X I k => cls_read T X I k
end
end EX
namespace L2
open PySem PySem.Spec PyProof.Rows
/-- isinstance(e, c), isinstance(e, (c, ..)), e the own error that the suite holds -/
def rIsErr (K : PySem.W.Frag) (D a : Addr) : List V → Hp → VK → Prop := fun xs H Q => ∃ (c : V) (cv : Value) (b : Bool), xs = [.ref a, c] ∧ ClsV c cv ∧ PySem.W.kitOne K (.ref D) cv = some b ∧ Q (.bl b) H
def rIsErrT (K : PySem.W.Frag) (D a : Addr) : List V → Hp → VK → Prop := fun xs H Q => ∃ (tp : Addr) (cs : List V) (us : List Value) (b : Bool), xs = [.ref a, .ref tp] ∧ H tp = some (.tup cs) ∧ Paired ClsV cs us ∧ PySem.W.kitAny K (.ref D) us = some b ∧ Q (.bl b) H
section
variable {X : Cx} {a D dd : Addr} {oe : Obj} {pn : List (Addr × Obj)}
theorem inst_err {pins : List (Addr × Obj)} {σ : L2.St} {H : Hp} {s : Shared} {fs : List (Str × V)} (hz : Zc (.ref D) (some dd) oe) (hf : ∃ vs, oe.data = .fields vs) (I : Inv (X.suite a ((a, oe) :: pn)) pins σ H s) (hd : H dd = some (.xd fs)) : ∃ od, PySem.W.InstAt s.heap a oe D od := by
  obtain ⟨hget, _⟩ := I.pin (a, oe) (List.mem_append.mpr (.inl List.mem_cons_self))
  obtain ⟨vs, hv⟩ := hf
  have ox : ObjOk X.prog X.w H s.heap dd (.xd fs) := I.hok dd _ hd
  obtain ⟨mA, hns, hr⟩ := ox
  obtain ⟨od, ho, hl⟩ := lookIn_ns hns
  exact ⟨some od, hget, hz.1, by unfold PySem.W.notCls; rw [hv] <;> rfl, by rw [hz.2]; exact ho⟩
theorem call_isErr (C : ExcC X.K D) (hz : Zc (.ref D) (some dd) oe) (hf : ∃ vs, oe.data = .fields vs) : CallR (X.suite a ((a, oe) :: pn)) (.builtin "isinstance") (fun xs H Q => (∃ fs, H dd = some (.xd fs)) ∧ rIsErr X.K D a xs H Q) := by
  intro pins s σ H xs us Q I r h
  obtain ⟨⟨fs, hd⟩, c, cv, b, rfl, hcv, e, q⟩ := h
  cases r with
  | cons rx rr =>
    cases rr with
    | cons rt rr =>
      cases rr
      cases rx
      have ec := hcv.eq rt
      subst ec
      obtain ⟨od, J⟩ := inst_err hz hf I hd
      exact PySem.W.kia_one (EX.kit_err C) I.kIn J e (fun z => nomatch z) fun tk => ⟨.bl b, H, I.kept (t' := tk) fun _ _ z => z, rfl, q⟩
theorem call_isErrT (C : ExcC X.K D) (hz : Zc (.ref D) (some dd) oe) (hf : ∃ vs, oe.data = .fields vs) : CallR (X.suite a ((a, oe) :: pn)) (.builtin "isinstance") (fun xs H Q => (∃ fs, H dd = some (.xd fs)) ∧ rIsErrT X.K D a xs H Q) := by
  intro pins s σ H xs us Q I r h
  obtain ⟨⟨fs, hd⟩, tp, cs, ws, b, rfl, ht, hcv, e, q⟩ := h
  cases r with
  | cons rx rr =>
    cases rr with
    | cons rt rr =>
      cases rr
      cases rx
      cases rt
      obtain ⟨od, J⟩ := inst_err hz hf I hd
      have ot : ObjOk X.prog X.w H s.heap tp (.tup cs) := I.hok tp _ ht
      obtain ⟨_, its, rv, u, g1, g2, n, g3⟩ := ot
      have e3 := ClsV.all hcv rv
      subst e3
      obtain ⟨uc, ud, dt, sl⟩ := u
      simp only at g2 g3
      subst g2 g3
      exact PySem.W.kia_tup (EX.kit_err C) I.kIn J g1 e (fun z => nomatch z) fun tk => ⟨.bl b, H, I.tok tk, rfl, q⟩
end
end L2
end

section
set_option Elab.async false
set_option linter.all false
set_option maxRecDepth 100000
set_option maxHeartbeats 4000000
namespace L2H
theorem RoomH.units {k : Nat} {A : PySem.Around} (r : RoomH k A) : A.units + 64 < PySem.cLine := by have := r.un; omega
theorem RoomH.units1 {k : Nat} {A : PySem.Around} (r : RoomH k A) : A.units + 65 < PySem.cLine := by have := r.un; omega
end L2H
namespace DL
open PySem PySem.Spec PyProof.Rows L2
open Evl (Ex)
/-! ### in an except suite -/
section
variable {P : Program} {w : World} {K : PySem.W.Frag} {mg : Str → Option Value} {base : Heap} {x qual : Str} {st : Stmt} {f : Addr} {fd : FuncData} {N ps : List Str} {k : Nat} {m : DSM}
theorem fn_dH (F : Fun K x qual st f fd) (Sc : FnScope N ps (defScope st))
    (hbody : ∀ (cdv : Value) (A : Around) (outer : List Env) (s : Shared) (H : Hp) (E : XK) (p : Addr × Obj), L2H.Hot1 A p → L2H.RoomH k (A.deeper (envOfC qual (defScope st) s.heap.objs.size f cdv)) → ∃ t, DSs (L2H.cxH CX0 P w K mg base N qual (defScope st) f cdv A outer s H E p) (defBody st) m t) :
    L2H.FnH P w K mg base CX0 (k + 1) f fd ps (spF K ps.length (bodyF N.length m)) := by
  obtain ⟨oc, od, kV, doc, pm, an, cdv, ct, osl, rfl, lk, hcd⟩ := F.ex
  refine L2H.fn_ofH lk hcd Sc (fun vs H Q E h => ?_) fun A outer s H vs Q E p hot hr h => ?_
  · obtain ⟨S, pa, rs, Qd, h1, h2, h3, h4, h5⟩ := h
    exact h4
  · obtain ⟨S, pa, rs, Qd, h1, h2, h3, h4, h5, h6⟩ := h
    obtain ⟨t, t1, t2⟩ := hbody cdv A outer s H E p hot hr
    refine ⟨t, t1, t2 ⟨S, H, pa⟩ S H _ _ _ _ (SR.entry h1 h2 h3) h5 ?_⟩
    exact ⟨fun S' H' env σ s q => h6 _ _ _ (.val .non) (s.dret .non) q, fun S' H' env σ r v s q z => h6 _ _ _ _ (s.dret q) z, fun _ _ _ _ _ z => z.elim, fun _ _ _ _ _ z => z.elim, fun _ _ _ _ _ _ _ _ _ _ _ _ z => z.elim⟩
theorem _root_.L2H.FnH.imp {CX : CXT} {sp sp' : Sp} (h : L2H.FnH P w K mg base CX k f fd ps sp') (i : ∀ vs H Q E, sp vs H Q E → sp' vs H Q E) : L2H.FnH P w K mg base CX k f fd ps sp :=
  ⟨fun vs H Q E z => h.len vs H Q E (i _ _ _ _ z), fun A outer s H args us vs Q E p hr hot hp he hb hv z => h.run A outer s H args us vs Q E p hr hot hp he hb hv (i _ _ _ _ z)⟩
end
section
variable {X : Cx} {k : Nat} {f : Addr} {fd : FuncData} {ps : List Str} {F : FM} {x : Str} {p pos : Pos} {e : Expr} {es : List Expr} {n : DAM} {tn : TA} {np : Nat}
theorem de_callH {K : PySem.W.Frag} (hF : L2H.FnH X.prog X.w X.K X.mg X.base CX0 k f fd ps (spF K np F)) (hr : L2H.RoomH k X.A) (hc : L2H.HotC X) (hg : Gl X x) (hm : X.mg x = some (.ref f)) (hk : PySem.W.keepIn X.K (.ref f) = true) (hb : Binds X.K fd ps [])
    (ha : DA X (e :: es) n tn) (hlen : (e :: es).length = np) (hK : K = X.K := by rfl) (hdb : (x == ("__debug__" : Str)) = false := by decide) (he : starEach (e :: es) X.env = (false, eval e X.env) :: starEach es X.env := by rfl) (hpl : (backTo pos (starEach es X.env)).any (·.1) = false := by rfl) :
    DE X (.Call (.Name x p) (e :: es) [] pos) (dCall F n) (tCallS (spF K np F) (fun _ => E0) tn) := by
  subst hK
  exact ⟨L2H.pe_callH hF hr hc hg hm hk hb (fun _ _ _ _ _ _ _ h => h.elim) ha.1 hdb he hpl, fun B S H env σ Q Qv s q k => ha.2 B S H env σ _ _ s q fun vs H1 S1 env1 rs z l len q1 => spF_call z.sr l q1.1 (len.trans hlen) q1.2 fun v H' S' env' r a b => k v H' S' env' r (z.e a) b⟩
end
theorem dt_truK {X : Cx} {a : Expr} {ma : DM} {ta : TE} (K : PySem.W.Frag) (ha : DE X a ma ta) (hK : K = X.K := by rfl) (he : ∀ whole, isTrue a X.env whole = (do let v ← whole; standAt a.pos; holding [v] (truthy v)) := by intro _; rfl) : DT X a (dTru ma) (tTruth K ta) := by
  subst hK
  exact dt_tru ha he
/-- e.a, e the error that the suite holds -/
def dErrF (e0 : Addr) (cls : Value) (d : Option Addr) (C : Addr) (a : Str) (j : Nat) : DM := fun env Q => match env[j]? with
  | some (some (.val (.err e1 dd C' a' v))) => (e1 = e0 ∧ cls = .ref C ∧ d = some dd ∧ a' = a) ∧ Q env (.val v)
  | _ => False
/-- isinstance(e, ..), its answer b -/
def dIsErr (e0 : Addr) (cls : Value) (d : Option Addr) (C : Addr) (b : Bool) (j : Nat) : DM := fun env Q => match env[j]? with
  | some (some (.val (.err e1 dd C' a' v))) => (e1 = e0 ∧ cls = .ref C ∧ d = some dd) ∧ Q env (.val (.bl b))
  | _ => False
def rErr1 (K : PySem.W.Frag) (cls : Value) (d : Option Addr) (a : Addr) : List V → Hp → VK → Prop := fun xs H Q => ∃ D dd fs, cls = .ref D ∧ d = some dd ∧ H dd = some (.xd fs) ∧ ExcC K D ∧ rIsErr K D a xs H Q
def rErrT (K : PySem.W.Frag) (cls : Value) (d : Option Addr) (a : Addr) : List V → Hp → VK → Prop := fun xs H Q => ∃ D dd fs, cls = .ref D ∧ d = some dd ∧ H dd = some (.xd fs) ∧ ExcC K D ∧ rIsErrT K D a xs H Q
section
variable {X : Cx} {e0 C : Addr} {oe : Obj} {cls : Value} {d : Option Addr} {pn : List (Addr × Obj)} {e c : Expr} {es : List Expr} {pos p p2 : Pos} {a txt : Str} {j : Nat} {fI : Addr}
theorem call_err1 (hz : L2N.Zn cls d oe) (hf : ∃ vs, oe.data = .fields vs) : CallR (X.suite e0 ((e0, oe) :: pn)) (.builtin "isinstance") (rErr1 X.K cls d e0) := fun pins s σ H xs us Q I r ⟨D, dd, fs, h1, h2, h3, h4, h5⟩ => by
  subst h1 h2
  exact call_isErr h4 hz.zc hf pins s σ H xs us Q I r ⟨⟨fs, h3⟩, h5⟩
theorem call_errT (hz : L2N.Zn cls d oe) (hf : ∃ vs, oe.data = .fields vs) : CallR (X.suite e0 ((e0, oe) :: pn)) (.builtin "isinstance") (rErrT X.K cls d e0) := fun pins s σ H xs us Q I r ⟨D, dd, fs, h1, h2, h3, h4, h5⟩ => by
  subst h1 h2
  exact call_isErrT h4 hz.zc hf pins s σ H xs us Q I r ⟨⟨fs, h3⟩, h5⟩
/-- what is known in the suite -/
structure SuFacts (X : Cx) (e0 : Addr) (cls : Value) (d : Option Addr) : Prop where
  call1 : CallR X (.builtin "isinstance") (rErr1 X.K cls d e0)
  callT : CallR X (.builtin "isinstance") (rErrT X.K cls d e0)
  fld : ∀ {C fI : Addr} {a txt : Str} {e : Expr} {te : TE} {pos : Pos}, EX.ErrTxt X.prog X.K C fI a txt → PE X e te → attributeBase e a X.env (eval e X.env) = eval e X.env → PE X (.Attribute e a pos) (tErrFld C a e0 cls d te)
  hot : L2H.HotC X
theorem suFacts (hz : L2N.Zn cls d oe) (hf : ∃ vs, oe.data = .fields vs) : SuFacts (X.suite e0 ((e0, oe) :: pn)) e0 cls d where
  call1 := call_err1 hz hf
  callT := call_errT hz hf
  fld := fun T he hb => pe_errFld T hz.zc hf he hb
  hot := by
    obtain ⟨vs, hv⟩ := hf
    exact ⟨(e0, oe), ⟨rfl, vs, hv, hz.2.2 vs hv⟩, List.mem_cons_self⟩
theorem de_errFld (T : EX.ErrTxt X.prog X.K C fI a txt) (sf : SuFacts X e0 cls d) (hv : PE X e (tVar j)) (hb : attributeBase e a X.env (eval e X.env) = eval e X.env := by rfl) :
    DE X (.Attribute e a pos) (dErrF e0 cls d C a j) (tErrFld C a e0 cls d (tVar j)) := by
  refine ⟨sf.fld T hv hb, fun B S H env σ Q Qv s q k => ?_⟩
  unfold dErrF at q
  split at q
  · rename_i e1 dd C' a' v c
    obtain ⟨⟨rfl, hcl, hd, rfl⟩, q⟩ := q
    obtain ⟨u, h1, h2⟩ := s.val j _ c
    cases h2 with
    | err h3 h4 => exact ⟨_, h1, rfl, hcl, dd, _, hd, s.ex _ _ h3, k _ H S env (.val v) ⟨s, .refl, .refl _, h4⟩ q⟩
  · exact q.elim
theorem de_isErr {K : PySem.W.Frag} {v : V} {cv : Value} {b : Bool} (T : ExcC K C) (hk : PySem.W.kitOne K (.ref C) cv = some b) (sf : SuFacts X e0 cls d) (hg : Gl X "isinstance") (hm : X.mg "isinstance" = none) (hv : PE X e (tVar j)) (hc : PE X c (tC v)) (cl : ClsV v cv)
    (hK : K = X.K := by rfl) (he : starEach (e :: [c]) X.env = (false, eval e X.env) :: starEach [c] X.env := by rfl) (he2 : starEach (c :: []) X.env = (false, eval c X.env) :: starEach [] X.env := by rfl) (hpl : (backTo pos (starEach [c] X.env)).any (·.1) = false := by rfl) :
    DE X (.Call (.Name "isinstance" p) (e :: [c]) [] pos) (dIsErr e0 cls d C b j) (tCB (rErr1 K cls d e0) (tCons (tVar j) (tCons (tC v) tNil))) := by
  subst hK
  refine ⟨pe_callB sf.call1 hg hm (by decide +kernel) (pa_cons hv (pa_cons hc pa_nil he2) he) (by decide) (by decide) he hpl, fun B S H env σ Q Qv s q k => ?_⟩
  unfold dIsErr at q
  split at q
  · rename_i e1 dd C' a' v' c
    obtain ⟨⟨rfl, hcl, hd⟩, q⟩ := q
    obtain ⟨u, h1, h2⟩ := s.val j _ c
    cases h2 with
    | err h3 h4 => exact ⟨_, h1, C, dd, _, hcl, hd, s.ex _ _ h3, T, v, cv, b, rfl, cl, hk, k _ H S env (.val (.bl b)) ⟨s, .refl, .refl _, Rep.bl b⟩ q⟩
  · exact q.elim
def tCs : List V → TA
  | [] => tNil
  | v :: vs => tCons (tC v) (tCs vs)
theorem tCs_run : ∀ (vs : List V) (σ : L2.St) (H : Hp) (Q : List V → Hp → Prop), Q vs H → tCs vs σ H Q
  | [], σ, H, Q, h => h
  | v :: vs, σ, H, Q, h => tCs_run vs σ H (fun ws H' => Q (v :: ws) H') h
theorem de_isErrT {K : PySem.W.Frag} {vs : List V} {us : List Value} {b : Bool} {x1} {pt : Pos} (T : ExcC K C) (hk : PySem.W.kitAny K (.ref C) us = some b) (sf : SuFacts X e0 cls d) (hg : Gl X "isinstance") (hm : X.mg "isinstance" = none) (hv : PE X e (tVar j)) (hl : vs.length ≤ 100)
    (hc : PA X es (tCs vs)) (cl : Paired ClsV vs us) (hK : K = X.K := by rfl) (he : starEach (e :: [.Tuple es x1 pt]) X.env = (false, eval e X.env) :: starEach [.Tuple es x1 pt] X.env := by rfl) (he2 : starEach (.Tuple es x1 pt :: []) X.env = (false, eval (.Tuple es x1 pt) X.env) :: starEach [] X.env := by rfl) (hpl : (backTo pos (starEach [.Tuple es x1 pt] X.env)).any (·.1) = false := by rfl) :
    DE X (.Call (.Name "isinstance" p) (e :: [.Tuple es x1 pt]) [] pos) (dIsErr e0 cls d C b j) (tCB (rErrT K cls d e0) (tCons (tVar j) (tCons (tTup (tCs vs)) tNil))) := by
  subst hK
  refine ⟨pe_callB sf.callT hg hm (by decide +kernel) (pa_cons hv (pa_cons (pe_tup hc) pa_nil he2) he) (by decide) (by decide) he hpl, fun B S H env σ Q Qv s q k => ?_⟩
  unfold dIsErr at q
  split at q
  · rename_i e1 dd C' a' v' c
    obtain ⟨⟨rfl, hcl, hd⟩, q⟩ := q
    obtain ⟨u, h1, h2⟩ := s.val j _ c
    cases h2 with
    | err h3 h4 =>
      refine ⟨_, h1, tCs_run vs σ H _ ⟨by rw [sizeLine_eq]; omega, fun tp htp => ?_⟩⟩
      have n := Nw.hid s.ex (o := .tup vs) htp
      exact ⟨C, dd, _, hcl, hd, n.sh _ _ h3, T, tp, vs, us, b, rfl, upd_same, cl, hk, k _ _ S env (.val (.bl b)) ⟨s.nw n, n.go, .refl _, Rep.bl b⟩ q⟩
  · exact q.elim
theorem roomM {k : Nat} {A : Around} {v : Option Value} (hr : Room k A) : L2H.RoomH k (A.mark v) := ⟨hr.dp, hr.un⟩
end
end DL
end

section
set_option Elab.async false
set_option linter.all false
set_option maxRecDepth 100000
set_option maxHeartbeats 4000000
namespace DL
open PySem PySem.Spec PyProof.Rows L2
open Evl (Ex)
/-! ### try: name = f(..) / except X as e: suite -/
def suEn (j : Nat) (E : DEn) : DEn := { nx := fun env => E.nx (env.set j none), rt := E.rt, bk := fun env => E.bk (env.set j none), ct := fun env => E.ct (env.set j none) }
/-- what is caught -/
def Caught (K : PySem.W.Frag) (c : Value) (j : Nat) (su : Addr → Value → Option Addr → DSM) (E : DEn) (env : En) (x : Xd) : Prop :=
  PySem.W.exmOne K (.ref x.C) c = some true ∧ ∀ e0 dd, su e0 (.ref x.C) (some dd) (suEn j E) (env.set j (some (.val (.err e0 dd x.C x.a x.v))))
def dTryE (K : PySem.W.Frag) (c : Value) (i j : Nat) (F : FME) (n : DAM) (su : Addr → Value → Option Addr → DSM) : DSM := fun E env => n env fun env1 rs => argsOk rs = true ∧ F rs (fun r => match r with
  | .val d => E.nx (env1.set i (some (.val d)))
  | _ => False) (Caught K c j su E env1)
/-- the same of C(..) -/
def dTryM (K : PySem.W.Frag) (c : Value) (C : Addr) (i j : Nat) (F : FMM) (n : DAM) (su : Addr → Value → Option Addr → DSM) : DSM := fun E env => n env fun env1 rs => MadeF C F rs (fun l' => match l' with
  | .ins C' _ ns l => C' = C ∧ E.nx (env1.set i (some (.val (.ins C ns l))))
  | _ => False) (Caught K c j su E env1)
section
variable {X : Cx} {k : Nat} {f C : Addr} {fd : FuncData} {ps : List Str} {FE : FME} {FM' : FMM} {x y nm fx : Str} {p np pos pos' cpos apos py : Pos} {e : Expr} {es : List Expr} {n : DAM} {tn : TA} {npar i j : Nat} {c : Value} {b0 : Stmt} {suite : List Stmt} {su : Addr → Value → Option Addr → DSM} {ts : Addr → Value → Option Addr → TS}
/-- the catch, by the data -/
theorem caught_ok (hsu : ∀ (a : Addr) (oe : Obj) (cls : Value) (d : Option Addr) (pn : List (Addr × Obj)), SuFacts (X.suite a ((a, oe) :: pn)) a cls d → DSs (X.suite a ((a, oe) :: pn)) (b0 :: suite) (su a cls d) (ts a cls d))
    {B : Bs} {S' H' : Hp} {env : En} {σ : L2.St} {E : DEn} {D : Ends} {z : Xd} {d : Addr} {v : V} (s : SR X.K B S' H' env σ) (ek : EndOk X B E D) (h0 : B.H0 d = none) (h1 : S' d = none) (hd : H' d = some (.xd [(z.a, v)])) (hr : Rep X.K S' v z.v) (q : Caught X.K c j su E env z) :
    wAs X.K c j ts (fun _ _ _ _ => False) D (.ref z.C) (some d) σ H' := by
  refine ⟨true, q.1, fun _ a ha => ?_, fun w => nomatch w⟩
  have nO : ¬ Ow B env σ d := fun w => by
    rcases w with w | ⟨i, l, w1, w2⟩ | ⟨i, l, w1⟩
    · obtain ⟨_, o, z⟩ := s.pool d w
      rw [h0] at z
      cases z
    · obtain ⟨p, vs, k1, k2, k3, k4, _⟩ := s.own i l w1
      cases Slt.ref w2 k1
      rw [hd] at k4
      cases k4
    · obtain ⟨_, _, _, o, k4, k5⟩ := s.fix i d l w1
      rw [hd] at k4
      cases k4
      cases l with
      | lst l =>
        obtain ⟨vs, e, _⟩ := k5
        cases e
      | ins C dx ns l =>
        obtain ⟨fs, e, _⟩ := k5
        cases e
  have e1 : Ex S' (upd S' d (.xd [(z.a, v)])) := Ex.new h1
  have s2 := s.add h1 h0 nO hd
  have s3 := s2.storeD (i := j) (v := .ref a) (d := .err a d z.C z.a z.v) (.err upd_same (hr.mono e1))
  refine (hsu a { cls := .ref z.C, dict := some d, data := .fields #[.none, .none, .none] } (.ref z.C) (some d) [] (suFacts ⟨rfl, rfl, fun vs hv => by cases hv; rfl⟩ ⟨_, rfl⟩)).2 B _ H' _ _ (suEn j E) _ s3 (q.2 a d) ?_
  exact ⟨fun S H env σ s q => ek.nx S H _ _ s.drop q, fun S H env σ r v s q w => ek.rt S H env σ r v s q w, fun S H env σ s q => ek.bk S H _ _ s.drop q, fun S H env σ s q => ek.ct S H _ _ s.drop q, fun _ _ _ _ _ _ _ _ _ _ _ _ w => w.elim⟩
theorem ds_tryE (hs : X.stack = X.env :: X.outer) (hfr : X.env.frame = some X.env.locals) (hN : X.N.Nodup) (hj : X.N[j]? = some nm) (hln : X.env.kindOf nm = some .local) (hc : Names X x c) (hF : FnOk X.prog X.w X.K X.mg X.base (L2N.CX X.prog X.w) k f fd ps (spE X.K npar FE)) (hr : Room k X.A) (hg : Gl X fx) (hm : X.mg fx = some (.ref f)) (hk : PySem.W.keepIn X.K (.ref f) = true) (hb : Binds X.K fd ps [])
    (ha : ∀ pn xe, DA (X.tr pn xe) (e :: es) n tn) (hlen : (e :: es).length = npar) (hi : X.N[i]? = some y) (hy : Loc X.env.scope y)
    (hsu : ∀ (a : Addr) (oe : Obj) (cls : Value) (d : Option Addr) (pn : List (Addr × Obj)), SuFacts (X.suite a ((a, oe) :: pn)) a cls d → DSs (X.suite a ((a, oe) :: pn)) (b0 :: suite) (su a cls d) (ts a cls d))
    (hdb : (fx == ("__debug__" : Str)) = false := by decide) (he : starEach (e :: es) X.env = (false, eval e X.env) :: starEach es X.env := by rfl) (hpl : (backTo cpos (starEach es X.env)).any (·.1) = false := by rfl)
    (hsw : swapsWith (.Call (.Name fx p) (e :: es) [] cpos) (some (.Name y py)) apos.line X.env = pure false := by rfl) (hf : X.fn y = true ∨ X.env.scope.names.lookup y = some .local := by first | exact .inl rfl | exact .inr rfl | assumption) :
    DS X (.Try [.Assign [.Name y py] (.Call (.Name fx p) (e :: es) [] cpos) apos] [.ExceptHandler (some (.Name x np)) (some nm) (b0 :: suite) pos'] [] [] pos) (dTryE X.K c i j FE n su)
      (fun D σ H => tAsg (tCallS (spE X.K npar FE) (WE (wAs X.K c j ts (fun _ _ _ _ => False) D)) tn) (gName i) D σ H) := by
  refine ⟨L2N.ps_try_as (i := j) (tb := fun W => tAsg (tCallS (spE X.K npar FE) (WE W) tn) (gName i)) (Wout := fun _ _ _ _ => False) hs hfr hN hj hln hc (fun u s' ⟨_, _, _, _, _, _, _, _, _, _, _, _, _, _, _, _, w⟩ => w.elim)
    (fun W pn xe tk _ => pss_one (ps_set (X := X.tr pn xe) hN hi hy (pe_callS (X := X.tr pn xe) hF hr hg hm hk hb (fun σ => L2N.passAt tk σ) (ha pn xe).1 hdb he hpl) hsw hf)) (fun a oe cls d pn hz hv => (hsu a oe cls d pn (suFacts hz hv)).1), fun B S H env σ E D s q ek => ?_⟩
  refine (ha [] X.xe).2 B S H env σ _ _ s q fun vs H1 S1 env1 rs z l len q1 => ?_
  have zs : SR X.K B S1 H1 env1 σ := z.sr
  refine ⟨S1, B.pa, rs, _, _, zs.ex, fun a e => (zs.pool a e).1, l.args q1.1, len.trans hlen, q1.2, fun v H' S' r d w => ?_, fun z2 d v H' S' dr h0 h1 hd r w => ?_⟩
  · cases r with
    | val d0 => exact ek.nx S' H' _ _ ((zs.ret d).storeD d.ret) w
    | own l => exact w.elim
    | brw i l => exact w.elim
    | pool => exact w.elim
  · exact caught_ok hsu (zs.ret dr) ek (zs.hp0 h0) h1 hd r w
theorem ds_tryM (hs : X.stack = X.env :: X.outer) (hfr : X.env.frame = some X.env.locals) (hN : X.N.Nodup) (hj : X.N[j]? = some nm) (hln : X.env.kindOf nm = some .local) (hc : Names X x c) (M : Mk X.K C f) (hF : FnOk X.prog X.w X.K X.mg X.base (L2N.CX X.prog X.w) k f fd ps (spM X.K npar FM')) (hr : Room (k + 1) X.A) (hg : Gl X fx) (hm : X.mg fx = some (.ref C)) (hb : Binds X.K fd ps [])
    (ha : ∀ pn xe, DA (X.tr pn xe) (e :: es) n tn) (hlen : (e :: es).length + 1 = npar) (hi : X.N[i]? = some y) (hy : Loc X.env.scope y)
    (hsu : ∀ (a : Addr) (oe : Obj) (cls : Value) (d : Option Addr) (pn : List (Addr × Obj)), SuFacts (X.suite a ((a, oe) :: pn)) a cls d → DSs (X.suite a ((a, oe) :: pn)) (b0 :: suite) (su a cls d) (ts a cls d))
    (hdb : (fx == ("__debug__" : Str)) = false := by decide) (he : starEach (e :: es) X.env = (false, eval e X.env) :: starEach es X.env := by rfl) (hpl : (backTo cpos (starEach es X.env)).any (·.1) = false := by rfl)
    (hsw : swapsWith (.Call (.Name fx p) (e :: es) [] cpos) (some (.Name y py)) apos.line X.env = pure false := by rfl) (hf : X.fn y = true ∨ X.env.scope.names.lookup y = some .local := by first | exact .inl rfl | exact .inr rfl | assumption) :
    DS X (.Try [.Assign [.Name y py] (.Call (.Name fx p) (e :: es) [] cpos) apos] [.ExceptHandler (some (.Name x np)) (some nm) (b0 :: suite) pos'] [] [] pos) (dTryM X.K c C i j FM' n su)
      (fun D σ H => tAsg (tMakeX C (spM X.K npar FM') (WE (wAs X.K c j ts (fun _ _ _ _ => False) D)) tn) (gName i) D σ H) := by
  refine ⟨L2N.ps_try_as (i := j) (tb := fun W => tAsg (tMakeX C (spM X.K npar FM') (WE W) tn) (gName i)) (Wout := fun _ _ _ _ => False) hs hfr hN hj hln hc (fun u s' ⟨_, _, _, _, _, _, _, _, _, _, _, _, _, _, _, _, w⟩ => w.elim)
    (fun W pn xe tk _ => pss_one (ps_set (X := X.tr pn xe) hN hi hy (pe_makeX (X := X.tr pn xe) M hF hr hg hm hb (fun σ => L2N.passAt tk σ) (ha pn xe).1 hdb he hpl) hsw hf)) (fun a oe cls d pn hz hv => (hsu a oe cls d pn (suFacts hz hv)).1), fun B S H env σ E D s q ek => ?_⟩
  refine (ha [] X.xe).2 B S H env σ _ _ s q fun vs H1 S1 env1 rs z l len q1 => ?_
  have zs : SR X.K B S1 H1 env1 σ := z.sr
  refine made_of (np := npar) (Qv := fun v H' => D.nx (σ.set i (some v)) H') zs l (by omega) q1 (fun z2 d v H' S' s' h0 h1 hd r w => caught_ok hsu s' ek h0 h1 hd r w) fun x0 H' S' l' o s' go hx c1 c0 c4 c2 c3 w => ?_
  split at w
  · rename_i C' dx ns l
    obtain ⟨rfl, w⟩ := w
    obtain ⟨S2, s2, g2, r2⟩ := frz_new s' go hx c1 c0 c4 c2 c3
    exact ek.nx S2 H' _ _ (s2.storeD r2) w
  · exact w.elim
end
end DL
end

section
set_option Elab.async false
set_option linter.all false
set_option maxRecDepth 100000
set_option maxHeartbeats 4000000
namespace DL
open PySem PySem.Spec PyProof.Rows L2
open Evl (Ex)
/-! ### for c in a text -/
def charsD (x : Str) : List D := x.cps.toList.map fun c => .str ⟨#[c]⟩
def dOverS (m : DM) : DIM := fun env Q => m env fun env' r => match r with
  | .val (.str x) => Q env' (charsD x)
  | _ => False
section
variable {X : Cx} {tg a : Expr} {ma : DM} {ta : TE}
theorem ItD.str {K : PySem.W.Frag} {S : Hp} (x : Str) : ItD K (Its x) S (charsD x) := by
  have hl : (charsD x).length = x.cps.size := by
    unfold charsD
    rw [List.length_map, Array.length_toList]
  refine ⟨fun i h S' H' _ _ => (by show i < x.cps.size; rw [← hl]; exact h), fun i d hd S' H' y H'' e1 e2 q => ?_, fun S' H' _ _ => (by show x.cps.size ≤ (charsD x).length; rw [hl]; exact Nat.le_refl _)⟩
  obtain ⟨rfl, c, hc, rfl⟩ := q
  have hd2 : (x.cps.toList.map fun c => D.str ⟨#[c]⟩)[i]? = some d := hd
  rw [List.getElem?_map, Array.getElem?_toList, hc] at hd2
  cases hd2
  exact ⟨S', .refl e2, .str _⟩
theorem di_overS (ha : DE X a ma ta) : DI X tg a (dOverS ma) (iStr ta) := by
  obtain ⟨h1, h2⟩ := ha
  refine ⟨pi_str h1, fun B S H env σ Q R s q k => h2 B S H env σ _ _ s q fun v H' S' env' r z q' => ?_⟩
  split at q'
  · rename_i x
    have zr : Rep X.K S' v (.str x) := z.res
    cases zr
    exact ⟨x, rfl, k _ H' S' env' _ z.t (.str x) q'⟩
  · exact q'.elim
/-! ### str of a number or None -/
def mStrN : MA := fun ds Q => match ds with
  | [.int i] => i.natAbs.log2 < 1920 ∧ Q (.val (.str (toString i)))
  | [.non] => Q (.val (.str "None"))
  | _ => False
def rStrN : List V → Hp → VK → Prop := fun xs H Q => (∃ i : Int, xs = [.int i] ∧ i.natAbs.log2 < 1920 ∧ Q (.str (toString i)) H) ∨ (xs = [.non] ∧ Q (.str "None") H)
theorem call_non_str : CallR X (.type "str") (fun xs H Q => xs = [.non] ∧ Q (.str "None") H) := by
  intro pins s σ H xs us Q I r h
  obtain ⟨e, q⟩ := h
  subst e
  obtain ⟨u, hu, t⟩ := vals1 r
  subst hu
  cases t
  exact PySem.P.str_of_none ⟨.str _, H, I.tok _, ⟨_, rfl⟩, q⟩
theorem call_strN : CallR X (.type "str") rStrN := CallR.or call_str_int call_non_str
theorem cd_strN {K : PySem.W.Frag} : CallD K rStrN mStrN := by
  intro S H vs ds Q Qv e r m k
  unfold mStrN at m
  split at m
  · rename_i i
    obtain ⟨v, rfl, h⟩ := r.one
    exact .inl ⟨i, by rw [h.int], m.1, k _ _ _ _ (nwr_val e (.str _)) m.2⟩
  · obtain ⟨v, rfl, h⟩ := r.one
    exact .inr ⟨by rw [h.non], k _ _ _ _ (nwr_val e (.str _)) m⟩
  · exact m.elim
end
end DL
end

section
set_option Elab.async false
set_option linter.all false
set_option maxRecDepth 100000
set_option maxHeartbeats 4000000
namespace L2
open PySem PySem.Spec PyProof.Rows
/-! a comprehension whose block may let an error out -/
section
variable {M : Model} {A : Around} {E : Value → Shared → Prop} {s : Shared} {B : Heap} {fe : Env} {out : List Env} {L a : Addr} {Z : Obj → Prop} {fl : Value}
/-- a frame notes an error that has been noted before, whichever frame's flight it is on -/
theorem note_traced {Q : Unit → Shared → Prop} (hZ : PXN.Steady1 Z) (fr : A.frames = some (fe :: out)) (ff : fe.frame = some L) (st : B.StaysIn s.heap) (na : B.get? a = none) (hl : s.heap.FunFrames B (fe :: out)) (tr : HandSPX.TracedZ s.heap B a Z fl)
    (k : ∀ g, HandSPX.HeldZ B (fe :: out) a Z L g → s.heap.UpToSlots g → Q () { s with heap := g }) : wpAny M A (noteFrame (.ref a) fe) Q E s := by
  by_cases c : fl = rawInt L
  · subst c
    exact HandSPX.againZ ff tr (k s.heap ⟨st, na, hl, tr⟩ (Heap.UpToSlots.refl _))
  · obtain ⟨oa, us, T, ot, ws, g1, gz, g2, g3, g4, g5, g6, g7, g8⟩ := tr
    unfold noteFrame
    simp only [ff]
    refine wpAny_bind (wpAny_field g1 g2 g3 ?_)
    rw [if_pos (show (Value.ref T != Value.none) = true by simp)]
    refine wpAny_bind (wpAny_field g6 g7 g8 ?_)
    rw [if_neg (fun z => c (by simpa using z))]
    refine wpAny_bind (wpAny_setField g6 g7 (Array.getElem?_eq_some_iff.mp g8).1 ?_)
    have oth : ∀ b, b ≠ T → (s.heap.update T (Obj.mapFields (·.setIfInBounds 3 Value.none))).get? b = s.heap.get? b := fun b hb => Heap.get?_update_other _ _ (fun z => hb z.symm)
    have ntT : ∀ b o, s.heap.get? b = some o → (∀ vs, o.data ≠ .fields vs) → b ≠ T := fun b o e nf z => by
      subst z
      rw [g6] at e
      cases e
      exact nf ws g7
    refine PXN.wpAny_entryZ hZ fr (hl.of_keeps fun b o e nf => ⟨o, (oth b (ntT b o e nf)).trans e, rfl⟩) ff ((oth a (fun z => g5 z.symm)).trans g1)
      (fun b o e => (oth b fun z => by subst z; rw [g4] at e; cases e).trans (st b o e)) na g2 (Array.getElem?_eq_some_iff.mp g3).1 gz fun g hg => ?_
    obtain ⟨y1, y2, y3, y4⟩ := hg
    exact k g ⟨y1, na, y2, y3⟩ fun b o e nf => y4 b o ((oth b (ntT b o e nf)).trans e) nf
theorem note_sky {L' : Addr} {Q : Unit → Shared → Prop} (hZ : PXN.Steady1 Z) (fr : A.frames = some (fe :: out)) (ff : fe.frame = some L) (x : Sky B (fe :: out) a Z L' s.heap)
    (k : ∀ g, HandSPX.HeldZ B (fe :: out) a Z L g → s.heap.UpToSlots g → Q () { s with heap := g }) : wpAny M A (noteFrame (.ref a) fe) Q E s := by
  rcases x with ⟨z1, z2, z3, oe, vs, z4, z5, z6, z7⟩ | ⟨z1, z2, z3, z4⟩ | ⟨z1, z2, z3, z4⟩
  · exact PXN.look_newZ hZ fr z3 ff z4 z1 z2 z6 z7 z5 k
  · exact note_traced hZ fr ff z1 z2 z3 z4 k
  · exact note_traced hZ fr ff z1 z2 z3 z4 k
end
end L2
end

section
set_option Elab.async false
set_option linter.all false
set_option maxRecDepth 100000
set_option maxHeartbeats 4000000
namespace L2
open PySem PySem.Spec PyProof.Rows
section
variable {M : Model} {A : Around} {E : Value → Shared → Prop} {s : Shared} {env : Env}
/-- behind a block: its list stands there, or an error goes on, by the block's own environment -/
def lcEnd (M : Model) (A : Around) (E : Value → Shared → Prop) (use : Option (Value → Sem Unit)) (Q : Value → Shared → Prop) (acc : Value) (ce : Env) : Result → Shared → Prop
  | .ok f, t => compPost M A E use Q acc ce.locals (.ok f) t
  | .error x, t => ∃ m, t.heap.Ns ce.locals m ∧ ∀ g, Heap.SameBut ce.locals t.heap g → wpAny M A (passOn "comprehension.variables-let-go" x ce : Sem Value) (fun _ _ => False) E { t with heap := g }
theorem compr_ends {e : Expr} {sc : Scope} {pos : Pos} {mk fst : Sem Value} {c0 : Comprehension} {cs : List Comprehension} {cl : List (Str × Addr)} {use : Option (Value → Sem Unit)} {Q : Value → Shared → Prop}
    (h1 : clausesOf e = c0 :: cs) (h2 : ∀ x, foldedSetIterable c0.iter env x = pure x) (h3 : closureFor sc env = pure cl) (h4 : sc.kind = .function) (h5 : ∀ y ∈ sc.names, y.2 = .local → sc.names.lookup y.1 = some .local)
    (h : wpAny M A fst (fun x s₁ => wpAny M A (pyIter x) (fun it s₂ => wpAny M A mk (fun acc s₃ =>
      wpAny M A (newFunctionEnv sc env.globals cl [] env.qual none .none (some env)) (fun ce s₄ =>
        codeAny M A (.compStart e 0 it acc { ce with scope := relabel sc env }) (lcEnd M A E use Q acc { ce with scope := relabel sc env }) s₄) E s₃) E s₂) E s₁) E s) :
    wpAny M A (comprehension e sc env pos mk false fst use) Q E s := by
  unfold comprehension
  rw [h3, h1]
  refine wpAny_bind (wpAny_mono h (fun x t₁ k₁ => ?_) fun _ _ z => z)
  refine wpAny_bind (wpAny_standAt (wpAny_bind (wpAny_of_eq (h2 x) (wpAny_bind (wpAny_holding ?_)))))
  refine wpAny_mono k₁ (fun it t₂ k₂ => ?_) fun _ _ z => z
  refine wpAny_standIf (wpAny_bind (wpAny_mono k₂ (fun acc t₃ k₃ => ?_) fun _ _ z => z))
  refine wpAny_bind (wpAny_pure (wpAny_bind (wpAny_mono k₃ (fun ce t₄ k₄ => ?_) fun _ _ z => z)))
  dsimp only
  let vars := (sc.names.filter fun y => (y.2 == .local || y.2 == .cell) && y.1 != (".0" : Str)).reverse
  have v1 : ∀ y ∈ vars, y.2 = .local → Env.kindOf { ce with scope := relabel sc env } y.1 = some .local := fun y hy e =>
    lookup_relabel_local (h5 y (List.mem_filter.mp (List.mem_reverse.mp hy)).1 e)
  have v2 : ∀ y ∈ vars.drop 1 ++ vars.take 1, y.2 = .local → Env.kindOf { ce with scope := relabel sc env } y.1 = some .local := fun y hy e => by
    rcases List.mem_append.mp hy with z | z
    · exact v1 y (List.mem_of_mem_drop z) e
    · exact v1 y (List.mem_of_mem_take z) e
  refine wpAny_holding (wpAny_bind (wpAny_attempt (wpAny_holding (wpAny_run (codeAny_mono k₄ fun r t hr => ?_)))))
  cases r with
  | error x =>
    obtain ⟨m, n1, n2⟩ := hr
    exact wpAny_bind (wpAny_holding (wpAny_comp_letGo (cenv := { ce with scope := relabel sc env }) h4 _ t m v1 n1 fun g m' _ sb => wpAny_mono (n2 g sb) (fun _ _ z => z.elim) fun _ _ y => y))
  | ok f =>
    have hr : compPost M A E use Q acc ce.locals (.ok f) t := hr
    cases use with
    | none =>
      obtain ⟨m, n1, n2⟩ := hr
      exact wpAny_bind (wpAny_holding (wpAny_comp_letGo (cenv := { ce with scope := relabel sc env }) h4 _ t m v1 n1 fun g m' _ sb => wpAny_pure (n2 g sb)))
    | some u =>
      refine wpAny_bind (wpAny_rule (wpAny_bind (wpAny_holding (wpAny_mono hr (fun _ t2 n => ?_) fun _ _ z => z))))
      obtain ⟨m, n1, n2⟩ := n
      exact wpAny_bind (wpAny_comp_letGo (cenv := { ce with scope := relabel sc env }) h4 _ t2 m v2 n1 fun g m' _ sb => wpAny_pure (n2 g sb))
end
/-! the block's context, its errors let out: told by the def's slots -/
abbrev Cx.blkX (X : Cx) (W : WX) (σ : St) (s : Shared) (H : Hp) (scope : Scope) (cenv : Env) (fp : List Addr) : Cx :=
  { X.blk s H scope cenv fp with xe := fun u s' => L2N.XE (X.blk s H scope cenv fp) (fun c d _ H' => W c d σ H') u s' }
section
variable {X : Cx} {W : WX} {σ σ' : St} {s s' : Shared} {H H' : Hp} {scope : Scope} {cenv : Env} {fp : List Addr} {pins : List (Addr × Obj)}
theorem Inv.toX (I : Inv (X.blk s H scope cenv fp) pins σ' H' s') : Inv (X.blkX W σ s H scope cenv fp) pins σ' H' s' :=
  ⟨⟨I.ok.mod, I.ok.kind, I.ok.glob, I.ok.blt, I.ok.above, I.ok.inj, I.ok.has, I.ok.cab, I.ok.hd, I.ok.frames, I.ok.stk, I.ok.exf, I.ok.bs, I.ok.bsz, I.ok.noex, I.ok.exfs, I.ok.funs, I.ok.frf⟩, I.os, I.bare, I.base, I.loc, I.cell, I.free, I.freeC, I.pin, I.hok, I.len⟩
theorem Inv.ofX (I : Inv (X.blkX W σ s H scope cenv fp) pins σ' H' s') : Inv (X.blk s H scope cenv fp) pins σ' H' s' :=
  ⟨⟨I.ok.mod, I.ok.kind, I.ok.glob, I.ok.blt, I.ok.above, I.ok.inj, I.ok.has, I.ok.cab, I.ok.hd, I.ok.frames, I.ok.stk, I.ok.exf, I.ok.bs, I.ok.bsz, I.ok.noex, I.ok.exfs, I.ok.funs, I.ok.frf⟩, I.os, I.bare, I.base, I.loc, I.cell, I.free, I.freeC, I.pin, I.hok, I.len⟩
theorem takes_blkX : L2N.Takes (X.blkX W σ s H scope cenv fp) (fun c d _ H' => W c d σ H') := fun u s' ⟨a, B, sI, pins, τ, H1, cls, d, e, I, r⟩ => ⟨a, B, sI, pins, τ, H1, cls, d, e, I.ofX, r⟩
end
end L2
namespace L2
open PySem PySem.Spec PyProof.Rows
theorem frames_at {h g base B : Heap} : ∀ {l : List Env}, h.FunFrames base l → (∀ L ∈ frs l, ∀ o, h.get? L = some o → g.get? L = some o) → (∀ L ∈ frs l, B.get? L = none) → g.FunFrames B l
  | [], _, _, _ => trivial
  | e :: l, h1, h2, h3 => by
    obtain ⟨k1, ⟨L, o, k2, _, k3, k4⟩, k5⟩ := h1
    have inl : ∀ {b}, b ∈ frs l → b ∈ frs (e :: l) := fun {b} hb => by
      obtain ⟨e', q1, q2⟩ := List.mem_filterMap.mp hb
      exact List.mem_filterMap.mpr ⟨e', List.mem_cons_of_mem _ q1, q2⟩
    have inh : L ∈ frs (e :: l) := List.mem_filterMap.mpr ⟨e, List.mem_cons_self, k2⟩
    exact ⟨k1, ⟨L, o, k2, h3 L inh, h2 L inh o k3, k4⟩, frames_at k5 (fun b hb => h2 b (inl hb)) fun b hb => h3 b (inl hb)⟩
section
variable {X : Cx} {W : WX} {σ : St} {s3 t : Shared} {H3 : Hp} {scope : Scope} {ce : Env} {fp : List Addr} {pins : List (Addr × Obj)} {use : Option (Value → Sem Unit)} {Qf : Value → Shared → Prop} {acc u : Value}
/-- an error goes out of the block -/
theorem xe_out (hs : X.stack = X.env :: X.outer) (hf : X.env.frame = some X.env.locals) (tk : L2N.Takes X W) (I3 : Inv X pins σ H3 s3) (fps : ∀ b ∈ fp, FpOk X pins H3 b) (cl : ce.locals = s3.heap.objs.size) (cf : ce.frame = X.env.frame)
    (x : L2N.XE (X.blk s3 H3 scope ce fp) (fun c d _ H' => W c d σ H') u t) :
    notedBy (model X.prog X.w) X.A ce (fun e s'' => lcEnd (model X.prog X.w) X.A X.xe use Qf acc ce (.error e) s'') u t := by
  obtain ⟨a, B, sI, pp, τ, H', cls, d, rfl, I, nb, up, sky, na, os, ag, w⟩ := x
  have hfr : X.A.frames = some (X.env :: X.outer) := by rw [I3.ok.frames, hs]
  have nb : ∀ b o, sI.heap.get? b = some o → b ∉ frs X.stack → B.get? b = some o := nb
  have sky : Sky B (X.env :: X.outer) a (L2N.Zn cls d) ce.locals t.heap := by rw [← hs]; exact sky
  have os : t.os = sI.os := os
  obtain ⟨C, hC⟩ : ∃ C, C = ce.locals := ⟨_, rfl⟩
  have fC : H' C = none := by rw [hC]; exact I.free
  have fpC : FpOk X pins H' C := I3.fpOk (by rw [hC, cl]; exact Nat.le_refl _) fC
  obtain ⟨p0, p1, p2, p3, p4, p5⟩ := fpC
  have nst : C ∉ frs X.stack := fun z => by
    rcases List.mem_cons.mp (I3.stkSub C z) with q | q
    · exact p1 q
    · exact p2 q
  obtain ⟨m, nsm, _⟩ := I.loc
  have nsm : sI.heap.Ns C m := by rw [hC]; exact nsm
  obtain ⟨oC, es, ep, c1, c2, c3⟩ := id nsm
  have bC := nb C oC c1 nst
  have ne : noteFrame (.ref a) ce = noteFrame (.ref a) X.env := by
    unfold noteFrame PySem.frameOf
    rw [cf]
  show wpAny _ _ (noteFrame (.ref a) ce) _ _ _
  rw [ne]
  refine note_sky L2N.Zn.steady hfr hf sky fun g1 held up1 => ?_
  obtain ⟨y1, y2, y3, oa, us, T, ot, ws, t1, t2, t3, t4, t5, t6, t7, t8, t9⟩ := held
  have g1C : g1.get? C = some oC := y1 C oC bC
  have naC : a ≠ C := fun z => by
    rw [z, g1C] at t1
    cases t1
    rw [c2] at t3
    cases t3
  have nTC : T ≠ C := fun z => by
    rw [z, g1C] at t7
    cases t7
    rw [c2] at t8
    cases t8
  refine ⟨m, by rw [← hC]; exact ⟨oC, es, ep, g1C, c2, c3⟩, fun g sb => ?_⟩
  rw [← hC] at sb
  have sb : ∀ b, b ≠ C → g.get? b = g1.get? b := fun b hb => sb.2 b hb
  -- without the block's variables
  obtain ⟨G, G1, G2⟩ := restrict sI.heap fun b => decide (b ≠ C)
  obtain ⟨B', B1, B2⟩ := restrict B fun b => decide (b ≠ C)
  have Gin : ∀ b o, G.get? b = some o → b ≠ C ∧ sI.heap.get? b = some o := fun b o e => by
    by_cases z : b = C
    · rw [G2 b (by simp [z])] at e
      cases e
    · rw [G1 b (by simp [z])] at e
      exact ⟨z, e⟩
  have Bin : ∀ b o, B'.get? b = some o → b ≠ C ∧ B.get? b = some o := fun b o e => by
    by_cases z : b = C
    · rw [B2 b (by simp [z])] at e
      cases e
    · rw [B1 b (by simp [z])] at e
      exact ⟨z, e⟩
  have Bnone : ∀ b, B.get? b = none → B'.get? b = none := fun b e => by
    cases q : B'.get? b with
    | none => rfl
    | some o =>
      have z := (Bin b o q).2
      rw [e] at z
      cases z
  have held' : HandSPX.HeldZ B' (X.env :: X.outer) a (L2N.Zn cls d) X.env.locals g := by
    refine ⟨fun b o e => ?_, Bnone a y2, frames_at y3 (fun b hb o e => ?_) (fun b hb => Bnone b (y3.mem hb).1), oa, us, T, ot, ws, (sb a naC).trans t1, t2, t3, t4, Bnone T t5, t6, (sb T nTC).trans t7, t8, t9⟩
    · obtain ⟨z1, z2⟩ := Bin b o e
      exact (sb b z1).trans (y1 b o z2)
    · exact (sb b fun z => nst (by rw [hs, ← z]; exact hb)).trans e
  unfold PySem.passOn
  refine wpAny_bind (wpAny_field ((sb a naC).trans t1) t3 t4 ?_)
  rw [if_neg (by simp)]
  rw [cf, hf]
  refine wpAny_bind (HandSPX.setFlight_onZ (s := { t with heap := g }) held' fun g2 held2 up2 => wpAny_throw ?_)
  have IX : Inv X pins σ H' sI := I3.call' (ch := fp) I.os I.base I.hok I.bare fun b hb => ⟨(fps b hb).2.2.2.1, (fps b hb).2.1, (fps b hb).2.2.2.2.1, (fps b hb).2.2.2.2.2⟩
  have IG : Inv X pins σ H' { sI with heap := G, toks := sI.toks } := IX.turned (it := C) (fun b o hb e => by rw [G1 b (by simp [hb])]; exact e) p0 p1 p3 p4 p5
  refine tk _ _ ⟨a, B', _, pins, σ, H', cls, d, rfl, IG, fun b o e hb => ?_, fun b o e nf => ?_, ?_, na, os, ag, w⟩
  · obtain ⟨z1, z2⟩ := Gin b o e
    rw [B1 b (by simp [z1])]
    exact nb b o z2 hb
  · obtain ⟨z1, z2⟩ := Gin b o e
    obtain ⟨sl1, e1⟩ := up b o z2 nf
    obtain ⟨sl2, e2⟩ := up1 b _ e1 nf
    obtain ⟨sl3, e3⟩ := up2 b _ ((sb b z1).trans e2) nf
    exact ⟨sl3, e3⟩
  · rw [hs]
    exact .inr (.inr held2)
end
end L2
end

section
set_option Elab.async false
set_option linter.all false
set_option maxRecDepth 100000
set_option maxHeartbeats 4000000
namespace L2
open PySem PySem.Spec PyProof.Rows
/-- where a block runs -/
structure BC where
  s : Shared
  H : Hp
  C : Addr
  cl : List (Str × Addr)
  fp : List Addr
abbrev Cx.atB (X : Cx) (W : WX) (scope : Scope) (σ : St) (c : BC) : Cx := X.blkX W σ c.s c.H scope (compEnvC scope c.cl c.C X.env) c.fp
/-- [elt for target in iter], elt may raise; its reading is told for each place where the block may run -/
def tLcX (wi : TI) (g : TG) (te : St → BC → TE) (vs : List Nat) : TE := fun σ H Q => wi σ H fun J H1 => ∀ D, H1 D = none → ∃ Wv : Nat → Nat → Hp → Prop, (∃ m, Wv 0 m (upd H1 D (.lst []))) ∧ ∀ i m H, Wv i m H →
  (J.stop i H ∧ Q (.ref D) H) ∨ (J.go i H ∧ ∃ Nx : Hp → Prop, (∀ H', Nx H' → ∃ m', m' < m ∧ Wv (i + 1) m' H') ∧ ∀ x H', J.yld i H x H' → ∀ c : BC, g x (wipe σ vs) H' fun σ2 H2 => wipe σ2 vs = wipe σ vs ∧
    te σ c σ2 H2 fun y H4 => ∃ acc, H4 D = some (.lst acc) ∧ acc.length < sizeLine ∧ Nx (upd H4 D (.lst (acc ++ [y]))))
section
variable {X : Cx} {W : WX} {pins : List (Addr × Obj)} {s : Shared} {σ : St} {H : Hp} {Q : VK} {elt tg iter : Expr} {scope : Scope} {own : List (Str × Nat)} {pos pos' : Pos} {wi : TI} {g : TG} {te : St → BC → TE} {use : Option (Value → Sem Unit)} {Qf : Value → Shared → Prop}
theorem lcX_core (hs : X.stack = X.env :: X.outer) (hf : X.env.frame = some X.env.locals) (tk : L2N.Takes X W) (hc : X.calm = true) (hN : X.N.Nodup) (I : Inv X pins σ H s) (hi : PI X tg iter wi) (ok : BlkOk X.N X.env.scope scope own)
    (hg : ∀ τ c, PG (X.atB W scope τ c) tg g) (he : ∀ τ c, PE (X.atB W scope τ c) elt (te τ c)) (hsi : ∀ x, foldedSetIterable iter X.env x = pure x) (h : tLcX wi g te (own.map (·.2)) σ H Q)
    (fin : ∀ D C t m H', Inv X pins σ H' t → Q (.ref D) H' → t.heap.Ns C m → FpOk X pins H' C → compPost (model X.prog X.w) X.A X.xe use Qf (.ref D) C (.ok .next) t) :
    wpAny (model X.prog X.w) X.A (comprehension (.ListComp elt [⟨tg, iter, [], 0⟩] scope pos) scope X.env pos' (newList []) false (eval iter X.env) use) Qf X.xe s := by
  have fr : ∀ y ∈ scope.names, y.2 = .free → ∃ c, X.env.cells.lookup y.1 = some c := fun y hy e => (ok.free y hy e).elim (fun k => I.ok.has _ (.inl k)) fun k => I.ok.has _ (.inr k)
  refine compr_ends (use := use) rfl hsi (closure_ok fr) ok.kind (fun y hy e => (ok.uniq y hy).trans (by rw [e])) ?_
  refine thn (hi.run pins s σ H _ I h) fun xv t1 hx => thn hx fun itv t2 ht2 => ?_
  obtain ⟨it, fp, tn, J, H2, rfl, I2, T, st2, fp2, q⟩ := ht2
  refine wpAny_newObj_type (newEnv_comp ?_) (Nat.zero_le _)
  obtain ⟨D, eD⟩ : ∃ D, D = t2.heap.objs.size := ⟨_, rfl⟩
  obtain ⟨Wv, ⟨m0, w0⟩, step⟩ := q D (I2.hok.fresh (Nat.le_of_eq eD.symm))
  rw [← eD]
  -- the list
  obtain ⟨t3, e3⟩ : ∃ t3 : Shared, t3 = { t2 with heap := t2.heap.push { cls := .type "list", data := .seq ([] : List Value).toArray } } := ⟨_, rfl⟩
  have p3 : ∀ b o, t2.heap.get? b = some o → t3.heap.get? b = some o := fun b o e => by
    rw [e3]
    exact Heap.get?_push_of_some _ e
  have I3 : Inv X pins σ (upd H2 D (.lst [])) t3 := by
    rw [e3]
    refine I2.laid (t' := t2.toks) (fun b o e => Heap.get?_push_of_some _ e) (Nat.le_of_eq eD.symm) ⟨Nat.zero_le _, [], 0, .nil, ?_⟩
    rw [eD]
    exact Heap.get?_push_size _ rfl
  have fpl : ∀ b ∈ fp, b < t2.heap.objs.size := fun b hb => let ⟨_, e, _⟩ := T.obj _ _ st2 b hb; Heap.lt_size e
  have lt3 : ∀ b ∈ fp, b < t3.heap.objs.size := fun b hb => let ⟨o, e, _⟩ := T.obj _ _ st2 b hb; Heap.lt_size (p3 b o e)
  have fp3 : ∀ b ∈ fp, FpOk X pins (upd H2 D (.lst [])) b := fun b hb => ⟨(upd_ne (fun z => Nat.lt_irrefl _ (eD ▸ z ▸ fpl b hb))).trans (fp2 b hb).1, (fp2 b hb).2⟩
  have st3 : tn 0 t3.heap := T.keep _ _ _ st2 fun b _ o e => p3 b o e
  have I4 := block_start I3 ok hN fun b hb => ⟨fp3 b hb, lt3 b hb⟩
  rw [← e3]
  show codeAny _ _ (.compStart (.ListComp elt [⟨tg, iter, [], 0⟩] scope pos) 0 (.ref it) (.ref D) (compEnvC scope (cellsFrom (t3.heap.objs.size + 1) scope.names (cloFrom X.env.cells scope.names [])) t3.heap.objs.size X.env)) (lcEnd (model X.prog X.w) X.A X.xe use Qf (.ref D) (compEnvC scope (cellsFrom (t3.heap.objs.size + 1) scope.names (cloFrom X.env.cells scope.names [])) t3.heap.objs.size X.env)) { t3 with heap := pushCells (t3.heap.push { cls := .type "dict", data := .dict #[] }) scope.names }
  obtain ⟨H3, eH3⟩ : ∃ H3, H3 = upd H2 D (.lst []) := ⟨_, rfl⟩
  rw [← eH3] at I3 fp3 I4 w0
  obtain ⟨bc, eb⟩ : ∃ bc : BC, bc = ⟨t3, H3, t3.heap.objs.size, cellsFrom (t3.heap.objs.size + 1) scope.names (cloFrom X.env.cells scope.names []), fp⟩ := ⟨_, rfl⟩
  have pg := hg σ bc
  have pe := he σ bc
  have I4 : Inv (X.atB W scope σ bc) [] (wipe σ (own.map (·.2))) H3 { t3 with heap := pushCells (t3.heap.push { cls := .type "dict", data := .dict #[] }) scope.names } := by
    rw [eb]
    exact I4.toX
  have out : ∀ u t, (X.atB W scope σ bc).xe u t → notedBy (model X.prog X.w) X.A (compEnvC scope bc.cl bc.C X.env) (fun e s'' => lcEnd (model X.prog X.w) X.A X.xe use Qf (.ref D) (compEnvC scope bc.cl bc.C X.env) (.error e) s'') u t := fun u t x => by
    subst eb
    exact xe_out hs hf tk I3 fp3 rfl rfl x
  have back : ∀ {σ' : St} {H' : Hp} {t : Shared}, Inv (X.atB W scope σ bc) [] σ' H' t → Inv X pins σ H' t ∧ (∃ m, t.heap.Ns t3.heap.objs.size m) ∧ H' t3.heap.objs.size = none := fun {σ' H' t} J => by
    subst eb
    have J' := J.ofX
    exact ⟨I3.call' (ch := fp) J'.os J'.base J'.hok J'.bare fun b hb => ⟨(fp3 b hb).2.2.2.1, (fp3 b hb).2.1, (fp3 b hb).2.2.2.2.1, (fp3 b hb).2.2.2.2.2⟩, let ⟨m, z, _⟩ := J'.loc; ⟨m, z⟩, J'.free⟩
  have exb : (X.atB W scope σ bc).ex = fp := by rw [eb]
  have ecl : (compEnvC scope (cellsFrom (t3.heap.objs.size + 1) scope.names (cloFrom X.env.cells scope.names [])) t3.heap.objs.size X.env) = compEnvC scope bc.cl bc.C X.env := by rw [eb]
  rw [ecl]
  have cL : bc.C = t3.heap.objs.size := by rw [eb]
  obtain ⟨t4, e4⟩ : ∃ t4 : Shared, t4 = { t3 with heap := pushCells (t3.heap.push { cls := .type "dict", data := .dict #[] }) scope.names } := ⟨_, rfl⟩
  rw [← e4] at I4 ⊢
  have st4 : tn 0 t4.heap := T.keep _ _ _ st3 fun b _ o e => by
    rw [e4]
    exact pushCells_keeps _ _ _ _ (Heap.get?_push_of_some _ e)
  have stat : ∀ {σ' : St} {H' : Hp} {t : Shared}, Inv (X.atB W scope σ bc) [] σ' H' t → (∀ b ∈ fp, H' b = none) → ∀ b ∈ fp, FpOk (X.atB W scope σ bc) [] H' b := fun {σ' H' t} J hn b hb =>
    ⟨hn b hb, (J.ok.exf b (by rw [exb]; exact hb)).1, J.ok.exfs b (by rw [exb]; exact hb), .inl (by rw [exb]; exact hb), fun x c e => (J.ok.exf b (by rw [exb]; exact hb)).2 x c e, fun p hp => nomatch (show p ∈ ([] : List (Addr × Obj)) from hp)⟩
  have loop : codeAny (model X.prog X.w) X.A (.compLoop (.ListComp elt [⟨tg, iter, [], 0⟩] scope pos) 0 (.ref it) (.ref D) (compEnvC scope bc.cl bc.C X.env)) (lcEnd (model X.prog X.w) X.A X.xe use Qf (.ref D) (compEnvC scope bc.cl bc.C X.env)) t4 := by
    refine compLoop_any (fun n t => ∃ i H', Inv (X.atB W scope σ bc) [] (wipe σ (own.map (·.2))) H' t ∧ tn i t.heap ∧ (∀ b ∈ fp, H' b = none) ∧ Wv i n H') ?_ m0 ⟨0, H3, I4, st4, fun b hb => (fp3 b hb).1, w0⟩
    rintro n t5 ⟨i, H5, I5, st5, n5, w5⟩
    rcases step i n H5 w5 with ⟨stop, qq⟩ | ⟨go, Nx, hNx, turn⟩
    · refine thnF (T.done (X.atB W scope σ bc) rfl rfl rfl hc i [] t5 _ H5 (fun _ _ => False) I5 (stat I5 n5) st5 stop) fun r t6 ⟨hr, I6⟩ => ?_
      subst hr
      obtain ⟨I7, ⟨m, hn⟩, nC⟩ := back I6
      show compPost (model X.prog X.w) X.A X.xe use Qf (.ref D) bc.C (.ok .next) t6
      rw [cL]
      exact fin D _ t6 m H5 I7 qq hn (I3.fpOk (Nat.le_refl _) nC)
    · refine thnF (T.item (X.atB W scope σ bc) rfl rfl rfl hc i [] t5 _ H5 (fun _ _ => False) I5 (stat I5 n5) st5 go) fun r t6 ⟨u, hr, h6⟩ => ?_
      subst hr
      refine thnF h6 fun _ t7 ⟨x, H7, I7, r7, y7, st7, n7⟩ => ?_
      have I7' := I7.pinned (stat I7 n7) (T.obj _ _ st7)
      refine wpAny_mono (pg.run _ t7 _ H7 x u _ I7' r7 (turn x H7 y7 bc)) (fun _ t8 ⟨σ8, H8, I8, hw8, q8⟩ => ?_) out
      refine wpAny_tests_nil ?_
      rw [if_pos rfl]
      refine wpAny_mono (pe.run _ t8 σ8 H8 _ I8 q8) (fun z t9 ⟨yv, H9, I9, r9, acc, hD9, hz9, nx⟩ => ?_) out
      refine app_ok (X := X.atB W scope σ bc) I9 hD9 hz9 r9 fun t10 I10 => ?_
      obtain ⟨m', hm, w'⟩ := hNx _ nx
      have pin' : ∀ b ∈ fp, ∀ o, t7.heap.get? b = some o → t10.heap.get? b = some o ∧ upd H9 D (.lst (acc ++ [yv])) b = none := fun b hb o e =>
        let z := I10.pin (b, o) (List.mem_append_right _ (List.mem_append_right _ (mem_pinsAt hb e)))
        ⟨z.1, z.2.1⟩
      refine ⟨m', hm, i + 1, _, (I10.unpinned (pins := [])).weak (by rw [← hw8, wipe_length]) (fun j v e => ?_), T.keep _ _ _ st7 fun b hb o e => (pin' b hb o e).1, fun b hb => ?_, w'⟩
      · rw [← hw8] at e
        exact (wipe_some e).1
      · obtain ⟨o, e, _⟩ := T.obj _ _ st7 b hb
        exact (pin' b hb o e).2
  exact codeAny_compStart_list loop (T.self X.A 0 _ _ _ st4 loop)
theorem pe_lcX (hs : X.stack = X.env :: X.outer) (hf : X.env.frame = some X.env.locals) (tk : L2N.Takes X W) (hc : X.calm = true) (hN : X.N.Nodup) (hi : PI X tg iter wi) (ok : BlkOk X.N X.env.scope scope own)
    (hg : ∀ τ c, PG (X.atB W scope τ c) tg g) (he : ∀ τ c, PE (X.atB W scope τ c) elt (te τ c)) (hsi : ∀ x, foldedSetIterable iter X.env x = pure x := by intro _; rfl) :
    PE X (.ListComp elt [⟨tg, iter, [], 0⟩] scope pos) (tLcX wi g te (own.map (·.2))) := by
  refine ⟨fun pins s σ H Q I h => ?_⟩
  rw [eval_ListComp]
  refine lcX_core hs hf tk hc hN I hi ok hg he hsi h fun D C t m H' J q hn f => ⟨m, hn, fun g sb => ?_⟩
  obtain ⟨f0, f1, f2, f3, f4, f5⟩ := f
  exact ⟨V.ref D, H', J.turned (t' := t.toks) (fun b o hb e => (sb.2 b hb).trans e) f0 f1 f3 f4 f5, rfl, q⟩
theorem ps_setLcX {i : Nat} {y : Str} {py spos : Pos} (hs : X.stack = X.env :: X.outer) (hf : X.env.frame = some X.env.locals) (tk : L2N.Takes X W) (hc : X.calm = true) (hN : X.N.Nodup) (hy : X.N[i]? = some y) (hyl : X.env.scope.names.lookup y = some .local)
    (hsw : swapsWith (.ListComp elt [⟨tg, iter, [], 0⟩] scope pos) (some (.Name y py)) spos.line X.env = pure true) (hi : PI X tg iter wi) (ok : BlkOk X.N X.env.scope scope own)
    (hg : ∀ τ c, PG (X.atB W scope τ c) tg g) (he : ∀ τ c, PE (X.atB W scope τ c) elt (te τ c)) (hsi : ∀ x, foldedSetIterable iter X.env x = pure x := by intro _; rfl) :
    PS X (.Assign [.Name y py] (.ListComp elt [⟨tg, iter, [], 0⟩] scope pos) spos) (tAsg (tLcX wi g te (own.map (·.2))) (gName i)) := by
  refine ⟨fun pins s σ H D I h => ?_⟩
  rw [exec_Assign_Name_used _ _ _ _ hsw]
  have h : tLcX wi g te (own.map (·.2)) σ H (fun x H1 => gName i x σ H1 D.nx) := h
  refine wpAny_bind (wpAny_standAt (wpAny_bind ?_))
  show wpAny _ X.A (do let _ ← comprehension (.ListComp elt [⟨tg, iter, [], 0⟩] scope pos) scope X.env (firstIterPos [⟨tg, iter, [], 0⟩] pos) (newList []) false (eval iter X.env) (some (assign (.Name y py) X.env))) _ _ s
  refine wpAny_bind (thn (lcX_core (Qf := fun _ t => SP X pins D .next t) hs hf tk hc hN I hi ok hg he hsi h fun L C t m H' J q hn f => ?_) fun _ t hq => wpAny_pure (wpAny_pure hq))
  obtain ⟨f0, f1, f2, f3, f4, f5⟩ := f
  show wpAny _ _ (assign (.Name y py) X.env (.ref L)) _ _ _
  refine wpAny_assign_Name (store_ok2 (v := V.ref L) J hN hy (.inl hyl) rfl (fun t2 J2 ⟨a, sb, ha⟩ => ?_) (.inr hyl))
  have neC : C ≠ a := ha.elim (fun z => by rw [z]; exact f1) fun z e => f4 y a z e.symm
  exact ⟨m, hn.sameBut sb neC, fun g2 sb2 => ⟨_, H', J2.turned (t' := t2.toks) (fun b o hb e => (sb2.2 b hb).trans e) f0 f1 f3 f4 f5, q⟩⟩
end
end L2
end

section
set_option Elab.async false
set_option linter.all false
set_option maxRecDepth 100000
set_option maxHeartbeats 4000000
namespace DL
open PySem PySem.Spec PyProof.Rows L2
open Evl (Ex)
/-! ### a comprehension whose element changes a thing, and may raise -/
def dLcPL (vs : List Nat) (g : DGM) (m : PM) (Q : En → List D → Prop) (Qx : Xd → Prop) : List D → En → List D → Prop
  | [], env, acc => Q env acc
  | d :: r, env, acc => g d env fun env2 => m env2 (fun env3 x => acc.length < sizeLine ∧ dLcPL vs g m Q Qx r (wipeD env3 vs) (acc ++ [x])) Qx
def dLcP (mi : DIM) (vs : List Nat) (g : DGM) (m : PM) : PM := fun env Q Qx => mi env fun env1 ds => plainAt env1 vs = true ∧ dLcPL vs g m (fun env2 acc => Q (backD env1 env2 vs) (.lst acc)) Qx ds (wipeD env1 vs) []
section
variable {K : PySem.W.Frag} {B : Bs} {S H : Hp} {env : En} {σ : L2.St} {p : Addr} {o : HO}
/-- an object that is nobody's is part of what stands still -/
def Bs.with (B : Bs) (S : Hp) (p : Addr) (o : HO) : Bs := ⟨S, fun a => if a = p then some o else B.H0 a, B.pa⟩
theorem with_ne {a : Addr} (h : a ≠ p) : (B.with S p o).H0 a = B.H0 a := if_neg h
theorem with_eq : (B.with S p o).H0 p = some o := if_pos rfl
theorem with_none {a : Addr} (h : (B.with S p o).H0 a = none) : a ≠ p ∧ B.H0 a = none := by
  have c : a ≠ p := fun z => by
    rw [z, with_eq] at h
    cases h
  exact ⟨c, (with_ne c).symm.trans h⟩
theorem SR.with (s : SR K B S H env σ) (h1 : H p = some o) (h2 : B.H0 p = none) (h3 : ¬ Ow B env σ p) : SR K (B.with S p o) S H env σ := by
  have ne : ∀ a, B.pa = some a → a ≠ p := fun a e z => h3 (.inl (z ▸ e))
  refine ⟨Ex.refl _, fun _ _ _ e => e, fun a u e c => ?_, fun a e => ?_, s.len, s.ex, s.val, fun i l e => ?_, s.dis, s.pl, fun a e => ?_, fun i q l e => ?_, s.dfx, s.dff, fun a e => ?_⟩
  · by_cases z : a = p
    · rw [z, with_eq] at e
      cases e
      exact z ▸ h1
    · exact s.keep0 a u ((with_ne z).symm.trans e) c
  · have z : a ≠ p := fun z => by
      rw [z, h1] at e
      cases e
    exact (with_ne z).trans (s.old0 a e)
  · obtain ⟨q, vs, q1, q2, q3, q4⟩ := s.own i l e
    exact ⟨q, vs, q1, q2, (with_ne fun z : q = p => h3 (.inr (.inl ⟨i, l, e, by rw [← z]; exact q1⟩))).trans q3, q4⟩
  · obtain ⟨q, u, w⟩ := s.pool a e
    exact ⟨q, u, (with_ne (ne a e)).trans w⟩
  · obtain ⟨k1, k2, k3, k4⟩ := s.fix i q l e
    exact ⟨k1, k2, (with_ne fun z : q = p => h3 (.inr (.inr ⟨i, l, by rw [← z]; exact e⟩))).trans k3, k4⟩
  · rw [with_ne (ne a e)]
    exact s.pin a e
/-- .. and forgotten again -/
theorem SR.unwith {S' H' : Hp} {env' : En} {σ' : L2.St} (s : SR K B S H env σ) (h2 : B.H0 p = none) (s' : SR K (B.with S p o) S' H' env' σ') : SR K B S' H' env' σ' := by
  have np : ∀ a u, B.H0 a = some u → a ≠ p := fun a u e z => by
    rw [z, h2] at e
    cases e
  refine ⟨s.ex0.trans s'.ex0, fun a u e z => s'.nw0 a u ((with_ne (np a u e)).trans e) (s.nw0 a u e z), fun a u e c => s'.keep0 a u ((with_ne (np a u e)).trans e) c, fun a e => (with_none (s'.old0 a e)).2, s'.len, s'.ex, s'.val, fun i l e => ?_, s'.dis, s'.pl, fun a e => ?_, fun i q l e => ?_, s'.dfx, s'.dff, fun a e => ?_⟩
  · obtain ⟨q, vs, q1, q2, q3, q4⟩ := s'.own i l e
    exact ⟨q, vs, q1, q2, (with_none q3).2, q4⟩
  · obtain ⟨q, u, w⟩ := s.pool a e
    exact ⟨(s'.pool a e).1, u, w⟩
  · obtain ⟨k1, k2, k3, k4⟩ := s'.fix i q l e
    exact ⟨k1, k2, (with_none k3).2, k4⟩
  · obtain ⟨q, u, w⟩ := s.pool a e
    rw [← with_ne (B := B) (S := S) (o := o) (np a u w)]
    exact s'.pin a e
theorem SR.outw {S' H' : Hp} {env' : En} {σ' : L2.St} (s' : SR K (B.with S p o) S' H' env' σ') (hp : B.pa ≠ some p) (hS : S p = none) : H' p = some o ∧ S' p = none ∧ ¬ Ow B env' σ' p := by
  refine ⟨s'.keep0 p o with_eq hp, s'.nw0 p o with_eq hS, ?_⟩
  rintro (z | ⟨i, l, z1, z2⟩ | ⟨i, l, z1⟩)
  · exact hp z
  · obtain ⟨q, vs, q1, q2, q3, q4⟩ := s'.own i l z1
    cases Slt.ref q1 z2
    exact (with_none q3).1 rfl
  · exact (with_none (s'.fix i p l z1).2.2.1).1 rfl
end
section
variable {X : Cx} {elt tg iter : Expr} {scope : Scope} {pos : Pos} {mi : DIM} {wi : TI} {g : DGM} {tg1 : TG} {m : PM} {te : L2.St → BC → TE}
/-- the state within a block -/
structure LcP (K : PySem.W.Frag) (B : Bs) (S1 : Hp) (n : Nat) (σ : L2.St) (vs : List Nat) (D : Addr) (S H : Hp) (env : En) (acc : List DL.D) : Prop where
  sr : SR K ⟨S1, B.H0, B.pa⟩ S H env (wipe σ vs)
  len : env.length = n
  dn : S D = none
  no : ¬ Ow ⟨S1, B.H0, B.pa⟩ env (wipe σ vs) D
  dh : ∃ ws, H D = some (.lst ws) ∧ Reps K S ws acc
theorem lcP_core (own : List (Str × Nat)) (hi : DI X tg iter mi wi)
    (g2 : ∀ (B : Bs) (S H : Hp) (env : En) (σ : L2.St) (v : V) (d : D) (Q : En → Prop) (Qv : L2.St → Hp → Prop), SR X.K B S H env σ → Rep X.K S v d → g d env Q → (∀ env' σ', SR X.K B S H env' σ' → Q env' → Qv σ' H) → tg1 v σ H Qv)
    (e2 : ∀ τ c, (fun (Y : Cx) => ∀ (B : Bs) (S H : Hp) (env : En) (σ : L2.St) (Q : En → D → Prop) (Qx : Xd → Prop) (Qv : VK), SR X.K B S H env σ → m env Q Qx → XcOk Y B σ Qx →
      (∀ v d H' S' env', SR X.K B S' H' env' σ → Rep X.K S' v d → Q env' d → Qv v H') → te τ c σ H Qv) (X.atB (wk X) scope τ c)) (i1 : TgIn tg1 (own.map (·.2))) (i2 : GIn g (own.map (·.2)))
    (B : Bs) (S H : Hp) (env : En) (σ : L2.St) (Q : En → D → Prop) (Qx : Xd → Prop) (Qv : VK) (s : SR X.K B S H env σ) (q : dLcP mi (own.map (·.2)) g m env Q Qx) (xk : XcOk X B σ Qx)
    (k : ∀ v d H' S' env', SR X.K B S' H' env' σ → Rep X.K S' v d → Q env' d → Qv v H') : tLcX wi tg1 te (own.map (·.2)) σ H Qv := by
  generalize own.map (·.2) = vs at *
  refine hi.2 B S H env σ _ _ s q fun J H1 S1 env1 ds z it q1 => ?_
  obtain ⟨pl, q1⟩ := q1
  have s1 := z.sr
  intro D hD
  have hD0 := s1.hp0 hD
  have hDn := s1.now hD
  have hDs := s1.sp0 hD
  have hpa : B.pa ≠ some D := fun e => hDn (.inl e)
  have ow1 : ∀ a, Ow ⟨S1, B.H0, B.pa⟩ (wipeD env1 vs) (wipe σ vs) a → Ow B env1 σ a := fun a h => Ow.wipe (B := B) h
  refine ⟨fun i m' H' => m' = ds.length - i ∧ i ≤ ds.length ∧ ∃ S' env' acc, LcP X.K B S1 env1.length σ vs D S' H' env' acc ∧ dLcPL vs g m (fun env2 acc => Q (backD env1 env2 vs) (.lst acc)) Qx (ds.drop i) env' acc,
    ⟨_, rfl, Nat.zero_le _, S1, wipeD env1 vs, [], ⟨(s1.base.stray hDs hD0 hDn).wipe vs, wipeD_length vs, hDs, fun w => hDn (ow1 D w), [], upd_same, .nil⟩, q1⟩, ?_⟩
  rintro i m' H' ⟨rfl, hi', S', env', acc, I, l⟩
  have ex1 : Ex S1 S' := I.sr.ex0
  have more : ∀ {S2 H2 : Hp} {env2 : En} , SR X.K ⟨S1, B.H0, B.pa⟩ S2 H2 env2 (wipe σ vs) → SR X.K B S2 H2 env2 σ := fun {S2 H2 env2} w => (s1.unbase w).more (wipe_length σ vs).symm fun i v h => (wipe_some h).1
  by_cases c : i < ds.length
  · refine .inr ⟨it.go i c S' H' ex1 I.sr.ex, fun H2 => ∃ S2 env2 acc2, LcP X.K B S1 env1.length σ vs D S2 H2 env2 acc2 ∧ dLcPL vs g m (fun env2 acc => Q (backD env1 env2 vs) (.lst acc)) Qx (ds.drop (i + 1)) env2 acc2, fun H2 ⟨S2, env2, acc2, a1, a2⟩ => ⟨_, by omega, rfl, c, S2, env2, acc2, a1, a2⟩, fun x H2 y bc => ?_⟩
    have hd : ds[i]? = some ds[i] := List.getElem?_eq_getElem c
    obtain ⟨S2, n2, r2⟩ := it.yld i _ hd S' H' x H2 ex1 I.sr.ex y
    rw [List.drop_eq_getElem_cons c] at l
    have ws := I.dh
    refine i1 _ _ _ (fun σ3 H3 => ∃ env3, H3 = H2 ∧ SR X.K ⟨S1, B.H0, B.pa⟩ S2 H2 env3 σ3 ∧ GFact vs env' env3 ∧ m env3 (fun env4 x => acc.length < sizeLine ∧ dLcPL vs g m (fun env2 acc => Q (backD env1 env2 vs) (.lst acc)) Qx (ds.drop (i + 1)) (wipeD env4 vs) (acc ++ [x])) Qx) _ ?_ (g2 ⟨S1, B.H0, B.pa⟩ S2 H2 env' (wipe σ vs) x ds[i] _ _ (I.sr.nw n2) r2 (i2 ds[i] env' _ (fun env3 => GFact vs env' env3 ∧ m env3 (fun env4 x => acc.length < sizeLine ∧ dLcPL vs g m (fun env2 acc => Q (backD env1 env2 vs) (.lst acc)) Qx (ds.drop (i + 1)) (wipeD env4 vs) (acc ++ [x])) Qx) (fun env3 f q3 => ⟨f, q3⟩) l) fun env3 σ3 s3 q3 => ⟨env3, rfl, s3, q3.1, q3.2⟩)
    rintro σ3 H3 w3 ⟨env3, rfl, s3, f3, q3⟩
    have w3 : wipe σ3 vs = wipe σ vs := w3.trans (by
      refine List.ext_getElem? fun j => ?_
      have key : ∀ us : List Nat, (∀ i ∈ us, i ∈ vs) → wipe (wipe σ vs) us = wipe σ vs := by
        intro us
        induction us with
        | nil => intro _; rfl
        | cons u us ih =>
          intro h
          show (wipe (wipe σ vs) us).set u none = wipe σ vs
          rw [ih fun i hi => h i (List.mem_cons_of_mem _ hi)]
          refine List.ext_getElem? fun j => ?_
          by_cases cj : j = u
          · subst cj
            by_cases cl : j < (wipe σ vs).length
            · rw [List.getElem?_set_self cl, List.getElem?_eq_getElem cl]
              cases q : (wipe σ vs)[j] with
              | none => rfl
              | some v =>
                have q' : (wipe σ vs)[j]? = some (some v) := by rw [List.getElem?_eq_getElem cl, q]
                exact absurd (h j List.mem_cons_self) (wipe_some q').2
            · rw [List.getElem?_eq_none (by rw [List.length_set]; omega), List.getElem?_eq_none (by omega)]
          · rw [List.getElem?_set_ne (Ne.symm cj)]
      rw [key vs fun i h => h])
    refine ⟨w3, ?_⟩
    obtain ⟨ws, w1, w2⟩ := ws
    have w1' : H3 D = some (.lst ws) := n2.keep _ _ w1
    have w0' : S2 D = none := n2.nw _ _ w1 I.dn
    have no3 : ¬ Ow ⟨S1, B.H0, B.pa⟩ env3 σ3 D := by
      rintro (w | ⟨j, l', h1, h2⟩ | ⟨j, l', h1⟩)
      · exact hpa w
      · have h1' := f3.own j l' h1
        obtain ⟨p, _, k1, _⟩ := I.sr.own j l' h1'
        have hj := (wipe_some k1).2
        refine I.no (.inr (.inl ⟨j, l', h1', ?_⟩))
        show (wipe σ vs)[j]? = _
        rw [← w3, wipe_out hj]
        exact h2
      · exact I.no (.inr (.inr ⟨j, l', f3.fix j D l' h1⟩))
    have sw := s3.with (p := D) (o := .lst ws) w1' hD0 no3
    refine e2 σ bc _ S2 H3 env3 σ3 _ Qx _ sw q3 (fun S4 H4 env4 d4 x4 v4 s4 h40 h4s h4 r4 q4 => ?_) fun v d H5 S5 env5 s5 r5 q5 => ?_
    · -- an error
      have s4' := s3.unwith (p := D) hD0 s4
      have s4w := s4'.wipe vs
      rw [w3] at s4w
      exact wk_of takes_blkX (xk S4 H4 _ d4 x4 v4 (more s4w) (with_none h40).2 h4s h4 r4 q4)
    · obtain ⟨t1, t2, t3⟩ := s5.outw hpa w0'
      have s5' := s3.unwith (p := D) hD0 s5
      refine ⟨ws, t1, by rw [w2.length]; exact q5.1, S5, wipeD env5 vs, acc ++ [d], ⟨?_, ?_, t2, fun w => t3 (Ow.wipe (B := ⟨S1, B.H0, B.pa⟩) (σ := σ3) (by rw [w3]; exact w)), _, upd_same, (w2.mono (n2.ex.trans s5.ex0)).append (.cons r5 .nil)⟩, q5.2⟩
      · have := (s5'.stray (p := D) (o := .lst (ws ++ [v])) t2 hD0 t3).wipe vs
        rw [w3] at this
        exact this
      · rw [wipeD_length, s5'.len, ← s3.len, f3.len]
        exact I.len
  · have e : i = ds.length := by omega
    subst e
    rw [List.drop_length] at l
    refine .inl ⟨it.stop S' H' ex1 I.sr.ex, ?_⟩
    obtain ⟨ws, w1, w2⟩ := I.dh
    have sb := SR.back s1 (more I.sr) ex1 I.len vs pl
    have no' : ¬ Ow B (backD env1 env' vs) σ D := by
      rintro (w | ⟨j, l', h1, h2⟩ | ⟨j, l', h1⟩)
      · exact hpa w
      · obtain ⟨p, us, k1, k2, k3, k4, _⟩ := sb.own j l' h1
        cases Slt.ref k1 h2
        have h1' : Has env' j (.own l') ∧ j ∉ vs := by
          by_cases cj : j ∈ vs
          · have z := backD_in (env := env1) (env' := env') I.len cj
            rcases plainAt_mem pl cj with ⟨d, y⟩ | y
            · exact nomatch (z.trans y).symm.trans h1
            · exact nomatch (z.trans y).symm.trans h1
          · exact ⟨(backD_out cj).symm.trans h1, cj⟩
        refine I.no (.inr (.inl ⟨j, l', h1'.1, ?_⟩))
        show (wipe σ vs)[j]? = _
        rw [wipe_out h1'.2]
        exact h2
      · have h1' : Has env' j (.fix D l') := by
          by_cases cj : j ∈ vs
          · have z := backD_in (env := env1) (env' := env') I.len cj
            rcases plainAt_mem pl cj with ⟨d, y⟩ | y
            · exact nomatch (z.trans y).symm.trans h1
            · exact nomatch (z.trans y).symm.trans h1
          · exact (backD_out cj).symm.trans h1
        exact I.no (.inr (.inr ⟨j, l', h1'⟩))
    exact k _ _ H' _ _ (sb.add I.dn hD0 no' w1) (.lst upd_same (w2.mono (Ex.new I.dn))) l
theorem dp_lc (own : List (Str × Nat)) (hs : X.stack = X.env :: X.outer) (hf : X.env.frame = some X.env.locals) (hc : X.calm = true) (hN : X.N.Nodup) (hi : DI X tg iter mi wi) (ok : BlkOk X.N X.env.scope scope own)
    (hg : ∀ τ c, DG (X.atB (wk X) scope τ c) tg g tg1) (he : ∀ τ c, DP (X.atB (wk X) scope τ c) elt m (te τ c)) (i1 : TgIn tg1 (own.map (·.2))) (i2 : GIn g (own.map (·.2))) (hsi : ∀ x, foldedSetIterable iter X.env x = pure x := by intro _; rfl) :
    DP X (.ListComp elt [⟨tg, iter, [], 0⟩] scope pos) (dLcP mi (own.map (·.2)) g m) (tLcX wi tg1 te (own.map (·.2))) :=
  ⟨pe_lcX hs hf takes_wk hc hN hi.1 ok (fun τ c => (hg τ c).1) (fun τ c => (he τ c).1) hsi, fun B S H env σ Q Qx Qv s q xk k => lcP_core own hi (hg [] ⟨X.s_0, X.H_0, 0, [], []⟩).2 (fun τ c => (he τ c).2) i1 i2 B S H env σ Q Qx Qv s q xk k⟩
end
end DL
end

section
set_option Elab.async false
set_option linter.all false
set_option maxRecDepth 100000
set_option maxHeartbeats 4000000
namespace DL
open PySem PySem.Spec PyProof.Rows L2
open Evl (Ex)
/-! ### a block's state at any slots -/
theorem wipe_idem {σ : L2.St} {vs : List Nat} : ∀ us : List Nat, (∀ i ∈ us, i ∈ vs) → wipe (wipe σ vs) us = wipe σ vs
  | [], _ => rfl
  | u :: us, h => by
    show (wipe (wipe σ vs) us).set u none = wipe σ vs
    rw [wipe_idem us fun i hi => h i (List.mem_cons_of_mem _ hi)]
    refine List.ext_getElem? fun j => ?_
    by_cases cj : j = u
    · subst cj
      by_cases cl : j < (wipe σ vs).length
      · rw [List.getElem?_set_self cl, List.getElem?_eq_getElem cl]
        cases q : (wipe σ vs)[j] with
        | none => rfl
        | some v =>
          have q' : (wipe σ vs)[j]? = some (some v) := by rw [List.getElem?_eq_getElem cl, q]
          exact absurd (h j List.mem_cons_self) (wipe_some q').2
      · rw [List.getElem?_eq_none (by rw [List.length_set]; omega), List.getElem?_eq_none (by omega)]
    · rw [List.getElem?_set_ne (Ne.symm cj)]
theorem wipe_comm1 {i : Nat} : ∀ (vs : List Nat) (τ : L2.St), wipe (τ.set i none) vs = (wipe τ vs).set i none
  | [], _ => rfl
  | v :: vs, τ => by
    show (wipe (τ.set i none) vs).set v none = ((wipe τ vs).set v none).set i none
    rw [wipe_comm1 vs τ]
    by_cases c : i = v
    · subst c
      rfl
    · exact List.set_comm _ _ c
/-- a block's own names wiped, then all of them -/
theorem wipe_sub {τ : L2.St} {vs : List Nat} : ∀ us : List Nat, (∀ i ∈ us, i ∈ vs) → wipe (wipe τ us) vs = wipe τ vs
  | [], _ => rfl
  | u :: us, h => by
    show wipe ((wipe τ us).set u none) vs = wipe τ vs
    rw [wipe_comm1, wipe_sub us fun i hi => h i (List.mem_cons_of_mem _ hi)]
    exact wipe_idem [u] fun i hi => by
      rw [List.mem_singleton.mp hi]
      exact h u List.mem_cons_self
structure LcJ (K : PySem.W.Frag) (B : Bs) (S1 H1 : Hp) (env1 : En) (σ : L2.St) (vs : List Nat) (D : Addr) (τ : L2.St) (S H : Hp) (env : En) (acc : List DL.D) : Prop where
  sr : SR K ⟨S1, B.H0, B.pa⟩ S H env τ
  wt : wipe τ vs = wipe σ vs
  go : Go (Ow B env1 σ) S1 H1 S H
  fz : Fz vs env1 env
  ow : ∀ a, Ow ⟨S1, B.H0, B.pa⟩ env τ a → Ow B env1 σ a
  wp : ∀ i l, Has env i (.own l) → i ∉ vs
  dn : S D = none
  dh : ∃ ws, H D = some (.lst ws) ∧ Reps K S ws acc
section
variable {K : PySem.W.Frag} {B : Bs} {S1 H1 S H S' H' : Hp} {env1 env env' : En} {σ τ τ' : L2.St} {vs : List Nat} {D : Addr} {acc : List DL.D}
theorem LcJ.nw (J : LcJ K B S1 H1 env1 σ vs D τ S H env acc) (n : Nw S H S' H') : LcJ K B S1 H1 env1 σ vs D τ S' H' env acc where
  sr := J.sr.nw n
  wt := J.wt
  go := J.go.trans (A' := fun _ => False) n.go fun _ _ _ _ h => h
  fz := J.fz
  ow := J.ow
  wp := J.wp
  dn := let ⟨ws, w1, _⟩ := J.dh; n.nw _ _ w1 J.dn
  dh := let ⟨ws, w1, w2⟩ := J.dh; ⟨ws, n.keep _ _ w1, w2.mono n.ex⟩
theorem LcJ.nO (J : LcJ K B S1 H1 env1 σ vs D τ S H env acc) (h : ¬ Ow B env1 σ D) : ¬ Ow ⟨S1, B.H0, B.pa⟩ env τ D := fun z => h (J.ow D z)
theorem LcJ.tp (J : LcJ K B S1 H1 env1 σ vs D τ S H env acc) (h : ¬ Ow B env1 σ D) (z : TPo K ⟨S1, B.H0, B.pa⟩ S H env τ S' H' env') : LcJ K B S1 H1 env1 σ vs D τ S' H' env' acc where
  sr := z.sr
  wt := J.wt
  go := J.go.trans z.go fun x o _ n w => n (J.ow x w)
  fz := J.fz.trans z.fz
  ow := fun a w => J.ow a (Ow.frz z.fz w)
  wp := fun i l h => by
    rcases z.fz.2 i with e | ⟨l', e1, e2⟩
    · exact J.wp i l (e.symm.trans h)
    · exact nomatch Has.inj h e2
  dn := let ⟨ws, w1, _⟩ := J.dh; z.go.nw _ _ w1 (J.nO h) J.dn
  dh := let ⟨ws, w1, w2⟩ := J.dh; ⟨ws, z.go.keep _ _ w1 (J.nO h), w2.mono z.go.ex⟩
theorem LcJ.tg (J : LcJ K B S1 H1 env1 σ vs D τ S H env acc) (f : GFact vs env env') (s : SR K ⟨S1, B.H0, B.pa⟩ S H env' τ') (w : wipe τ' vs = wipe τ vs) : LcJ K B S1 H1 env1 σ vs D τ' S H env' acc where
  sr := s
  wt := w.trans J.wt
  go := J.go
  fz := ⟨f.len.trans J.fz.1, fun i hi => by
    rcases J.fz.2 i hi with e | ⟨l, e1, e2⟩
    · exact .inl ((f.out i hi).trans e)
    · exact .inr ⟨l, e1, (f.out i hi).trans e2⟩⟩
  ow := fun a h => by
    rcases h with h | ⟨j, l, h1, h2⟩ | ⟨j, l, h1⟩
    · exact .inl h
    · have h1' := f.own j l h1
      refine J.ow a (.inr (.inl ⟨j, l, h1', ?_⟩))
      have hj := J.wp j l h1'
      have e : (wipe τ' vs)[j]? = (wipe τ vs)[j]? := by rw [w]
      rw [wipe_out hj, wipe_out hj] at e
      exact e.symm.trans h2
    · exact J.ow a (.inr (.inr ⟨j, l, f.fix j a l h1⟩))
  wp := fun i l h => J.wp i l (f.own i l h)
  dn := J.dn
  dh := J.dh
theorem LcJ.wipe (J : LcJ K B S1 H1 env1 σ vs D τ S H env acc) (us : List Nat) (hu : ∀ i ∈ us, i ∈ vs) : LcJ K B S1 H1 env1 σ vs D (L2.wipe τ us) S H (wipeD env us) acc where
  sr := J.sr.wipe us
  wt := (wipe_sub us hu).trans J.wt
  go := J.go
  fz := ⟨(wipeD_length us).trans J.fz.1, fun i hi => by
    have hi' : i ∉ us := fun z => hi (hu i z)
    rcases J.fz.2 i hi with e | ⟨l, e1, e2⟩
    · exact .inl ((wipeD_out hi').trans e)
    · exact .inr ⟨l, e1, (wipeD_out hi').trans e2⟩⟩
  ow := fun a h => J.ow a (Ow.wipe (B := ⟨S1, B.H0, B.pa⟩) h)
  wp := fun i l h => J.wp i l (wipeD_has h).1
  dn := J.dn
  dh := J.dh
theorem LcJ.app {d : DL.D} {v : V} {r : List V} (J : LcJ K B S1 H1 env1 σ vs D τ S H env acc) (h : ¬ Ow B env1 σ D) (hD0 : B.H0 D = none) (hD1 : H1 D = none) (hr : H D = some (.lst r)) (rr : Reps K S r acc) (rv : Rep K S v d) : LcJ K B S1 H1 env1 σ vs D τ S (upd H D (.lst (r ++ [v]))) env (acc ++ [d]) where
  sr := J.sr.stray J.dn hD0 (J.nO h)
  wt := J.wt
  go := J.go.stray hD1
  fz := J.fz
  ow := J.ow
  wp := J.wp
  dn := J.dn
  dh := ⟨_, upd_same, rr.append (.cons rv .nil)⟩
end
/-! ### a comprehension of two clauses, without tests -/
def dLc2I (vs1 : List Nat) (g1 : DGM) (m : DM) (nx : En → List D → Prop) : List D → En → List D → Prop
  | [], env, acc => nx env acc
  | d :: r, env, acc => g1 d (wipeD env vs1) fun env2 => dKeep m env2 fun env3 q => match q with
    | .val x => acc.length < sizeLine ∧ dLc2I vs1 g1 m nx r (wipeD env3 vs1) (acc ++ [x])
    | _ => False
def dLc2L (vs vs1 : List Nat) (g : DGM) (mi1 : DIM) (g1 : DGM) (m : DM) (Q : En → List D → Prop) : List D → En → List D → Prop
  | [], env, acc => Q env acc
  | d :: r, env, acc => g d env fun env2 => mi1 env2 fun env3 ds1 => dLc2I vs1 g1 m (fun env4 acc4 => dLc2L vs vs1 g mi1 g1 m Q r (wipeD env4 vs) acc4) ds1 env3 acc
def dLc2 (mi : DIM) (vs vs1 : List Nat) (g : DGM) (mi1 : DIM) (g1 : DGM) (m : DM) : DM := fun env Q => mi env fun env1 ds => plainAt env1 vs = true ∧ dLc2L vs vs1 g mi1 g1 m (fun env2 acc => Q (backD env1 env2 vs) (.own acc)) ds (wipeD env1 vs) []
section
variable {X : Cx}
theorem de_lc2 {elt tg iter tgb iterb : Expr} {scope : Scope} (own : List (Str × Nat)) (vs1 : List Nat) {pos : Pos} {mi mi1 : DIM} {wi : TI} {wi1 : Shared → Hp → Addr → List (Str × Addr) → List Addr → TI} {g g1 : DGM} {t0 t1 : Shared → Hp → Addr → List (Str × Addr) → List Addr → TG} {m : DM} {te : Shared → Hp → Addr → List (Str × Addr) → List Addr → TE} (hc : X.calm = true) (hN : X.N.Nodup) (hi : DI X tg iter mi wi) (ok : BlkOk X.N X.env.scope scope own) (hv : ∀ i ∈ vs1, i ∈ own.map (·.2))
    (hg : ∀ (s : Shared) (H : Hp) (C : Addr) (cl : List (Str × Addr)) (fp : List Addr), DG (X.blk s H scope (compEnvC scope cl C X.env) fp) tg g (t0 s H C cl fp))
    (hi1 : ∀ (s : Shared) (H : Hp) (C : Addr) (cl : List (Str × Addr)) (fp : List Addr), DI (X.blk s H scope (compEnvC scope cl C X.env) fp) tgb iterb mi1 (wi1 s H C cl fp))
    (hg1 : ∀ (s : Shared) (H : Hp) (C : Addr) (cl : List (Str × Addr)) (fp : List Addr), DG (X.blk s H scope (compEnvC scope cl C X.env) fp) tgb g1 (t1 s H C cl fp))
    (he : ∀ (s : Shared) (H : Hp) (C : Addr) (cl : List (Str × Addr)) (fp : List Addr), DE (X.blk s H scope (compEnvC scope cl C X.env) fp) elt m (te s H C cl fp))
    (i1 : TgIn (t0 X.s_0 X.H_0 0 [] []) (own.map (·.2))) (i2 : GIn g (own.map (·.2))) (j1 : TgIn (t1 X.s_0 X.H_0 0 [] []) vs1) (j2 : GIn g1 vs1)
    (e1 : ∀ s H C cl fp, t0 s H C cl fp = t0 X.s_0 X.H_0 0 [] [] := by intros; rfl) (e2 : ∀ s H C cl fp, wi1 s H C cl fp = wi1 X.s_0 X.H_0 0 [] [] := by intros; rfl) (e3 : ∀ s H C cl fp, t1 s H C cl fp = t1 X.s_0 X.H_0 0 [] [] := by intros; rfl) (e4 : ∀ s H C cl fp, te s H C cl fp = te X.s_0 X.H_0 0 [] [] := by intros; rfl) (hs : ∀ x, foldedSetIterable iter X.env x = pure x := by intro _; rfl) (hs1 : ∀ env x, foldedSetIterable iterb env x = pure x := by intro _ _; rfl) :
    DE X (.ListComp elt [⟨tg, iter, [], 0⟩, ⟨tgb, iterb, [], 0⟩] scope pos) (dLc2 mi (own.map (·.2)) vs1 g mi1 g1 m) (tLc2 wi (t0 X.s_0 X.H_0 0 [] []) tYes (wi1 X.s_0 X.H_0 0 [] []) (t1 X.s_0 X.H_0 0 [] []) tYes (te X.s_0 X.H_0 0 [] []) (own.map (·.2)) vs1) := by
  have hg : ∀ (s : Shared) (H : Hp) (C : Addr) (cl : List (Str × Addr)) (fp : List Addr), DG (X.blk s H scope (compEnvC scope cl C X.env) fp) tg g (t0 X.s_0 X.H_0 0 [] []) := fun s H C cl fp => e1 s H C cl fp ▸ hg s H C cl fp
  have hi1 : ∀ (s : Shared) (H : Hp) (C : Addr) (cl : List (Str × Addr)) (fp : List Addr), DI (X.blk s H scope (compEnvC scope cl C X.env) fp) tgb iterb mi1 (wi1 X.s_0 X.H_0 0 [] []) := fun s H C cl fp => e2 s H C cl fp ▸ hi1 s H C cl fp
  have hg1 : ∀ (s : Shared) (H : Hp) (C : Addr) (cl : List (Str × Addr)) (fp : List Addr), DG (X.blk s H scope (compEnvC scope cl C X.env) fp) tgb g1 (t1 X.s_0 X.H_0 0 [] []) := fun s H C cl fp => e3 s H C cl fp ▸ hg1 s H C cl fp
  have he : ∀ (s : Shared) (H : Hp) (C : Addr) (cl : List (Str × Addr)) (fp : List Addr), DE (X.blk s H scope (compEnvC scope cl C X.env) fp) elt m (te X.s_0 X.H_0 0 [] []) := fun s H C cl fp => e4 s H C cl fp ▸ he s H C cl fp
  clear e1 e2 e3 e4
  generalize t0 X.s_0 X.H_0 0 [] [] = t0 at *
  generalize wi1 X.s_0 X.H_0 0 [] [] = wi1 at *
  generalize t1 X.s_0 X.H_0 0 [] [] = t1 at *
  generalize te X.s_0 X.H_0 0 [] [] = te at *
  refine ⟨pe_lc2 hc hN hi.1 ok hv (fun s H C cl fp => (hg s H C cl fp).1) (fun _ _ _ _ _ => pts_nil) (fun s H C cl fp => (hi1 s H C cl fp).1) (fun s H C cl fp => (hg1 s H C cl fp).1) (fun _ _ _ _ _ => pts_nil) (fun s H C cl fp => (he s H C cl fp).1) hs hs1, ?_⟩
  have g2 := (hg X.s_0 X.H_0 0 [] []).2
  have k2 := (hg1 X.s_0 X.H_0 0 [] []).2
  have n2 := (hi1 X.s_0 X.H_0 0 [] []).2
  have e2 := (de_keep (he X.s_0 X.H_0 0 [] [])).2
  clear hg hi1 hg1 he
  generalize own.map (·.2) = vs at *
  intro B S H env σ Q Qv s q k
  refine hi.2 B S H env σ _ _ s q fun J H1 S1 env1 ds z it q1 => ?_
  obtain ⟨pl, q1⟩ := q1
  have s1 := z.sr
  intro D hD
  have hD0 := s1.hp0 hD
  have hDn := s1.now hD
  have hDs := s1.sp0 hD
  refine ⟨fun i m' H' => m' = ds.length - i ∧ i ≤ ds.length ∧ ∃ S' env' acc, LcJ X.K B S1 H1 env1 σ vs D (wipe σ vs) S' H' env' acc ∧ (∀ i n, Has env' i n → i ∉ vs) ∧ dLc2L vs vs1 g mi1 g1 m (fun env2 acc => Q (backD env1 env2 vs) (.own acc)) (ds.drop i) env' acc,
    ⟨_, rfl, Nat.zero_le _, S1, wipeD env1 vs, [], ⟨(s1.base.stray hDs hD0 hDn).wipe vs, wipe_idem vs fun _ h => h, Go.stray .refl hD, ⟨wipeD_length vs, fun i hi => .inl (wipeD_out hi)⟩, fun a h => Ow.wipe (B := B) h, fun i l h => (wipeD_has h).2, hDs, [], upd_same, .nil⟩, fun i n h => (wipeD_has h).2, q1⟩, ?_⟩
  rintro i m' H' ⟨rfl, hil, S', env', acc, I, wp, l⟩
  have ex1 : Ex S1 S' := I.sr.ex0
  by_cases c : i < ds.length
  · refine .inr ⟨it.go i c S' H' ex1 I.sr.ex, fun H2 => ∃ S2 env2 acc2, LcJ X.K B S1 H1 env1 σ vs D (wipe σ vs) S2 H2 env2 acc2 ∧ (∀ i n, Has env2 i n → i ∉ vs) ∧ dLc2L vs vs1 g mi1 g1 m (fun env2 acc => Q (backD env1 env2 vs) (.own acc)) (ds.drop (i + 1)) env2 acc2, fun H2 ⟨S2, env2, acc2, a1, a2, a3⟩ => ⟨_, by omega, rfl, c, S2, env2, acc2, a1, a2, a3⟩, fun x H2 y => ?_⟩
    have hd : ds[i]? = some ds[i] := List.getElem?_eq_getElem c
    obtain ⟨S2, nw2, r2⟩ := it.yld i _ hd S' H' x H2 ex1 I.sr.ex y
    rw [List.drop_eq_getElem_cons c] at l
    have I2 := I.nw nw2
    refine i1 _ _ _ (fun σ3 H3 => H3 = H2 ∧ ∃ env3, SR X.K ⟨S1, B.H0, B.pa⟩ S2 H2 env3 σ3 ∧ GFact vs env' env3 ∧ mi1 env3 fun env4 ds1 => dLc2I vs1 g1 m (fun env4 acc4 => dLc2L vs vs1 g mi1 g1 m (fun env2 acc => Q (backD env1 env2 vs) (.own acc)) (ds.drop (i + 1)) (wipeD env4 vs) acc4) ds1 env4 acc) _ ?_
      (g2 ⟨S1, B.H0, B.pa⟩ S2 H2 env' (wipe σ vs) x ds[i] _ _ I2.sr r2 (i2 ds[i] env' _ (fun env3 => GFact vs env' env3 ∧ mi1 env3 fun env4 ds1 => dLc2I vs1 g1 m (fun env4 acc4 => dLc2L vs vs1 g mi1 g1 m (fun env2 acc => Q (backD env1 env2 vs) (.own acc)) (ds.drop (i + 1)) (wipeD env4 vs) acc4) ds1 env4 acc) (fun _ f q => ⟨f, q⟩) l) fun env3 σ3 s3 q3 => ⟨rfl, env3, s3, q3.1, q3.2⟩)
    rintro σ3 H3 w3 ⟨rfl, env3, s3, f3, q3⟩
    have w3' : wipe σ3 vs = wipe σ vs := w3.trans (wipe_idem vs fun _ h => h)
    have I3 := I2.tg f3 s3 w3
    refine ⟨w3', ?_⟩
    simp only [tYes, if_true]
    refine n2 ⟨S1, B.H0, B.pa⟩ S2 H3 env3 σ3 _ _ I3.sr q3 fun J1 H4 S4 env4 ds1 z4 it1 q4 => ?_
    have I4 := I3.tp hDn z4
    refine ⟨fun j m1 H5 => m1 = ds1.length - j ∧ j ≤ ds1.length ∧ ∃ S5 env5 acc5, LcJ X.K B S1 H1 env1 σ vs D σ3 S5 H5 env5 acc5 ∧ Ex S4 S5 ∧ dLc2I vs1 g1 m (fun env4 acc4 => dLc2L vs vs1 g mi1 g1 m (fun env2 acc => Q (backD env1 env2 vs) (.own acc)) (ds.drop (i + 1)) (wipeD env4 vs) acc4) (ds1.drop j) env5 acc5, ⟨_, rfl, Nat.zero_le _, S4, env4, acc, I4, Ex.refl _, q4⟩, ?_⟩
    rintro j m1 H5 ⟨rfl, hj, S5, env5, acc5, I5, x5, l5⟩
    by_cases c1 : j < ds1.length
    · refine .inr ⟨it1.go j c1 S5 H5 x5 I5.sr.ex, fun H6 => ∃ S6 env6 acc6, LcJ X.K B S1 H1 env1 σ vs D σ3 S6 H6 env6 acc6 ∧ Ex S4 S6 ∧ dLc2I vs1 g1 m (fun env4 acc4 => dLc2L vs vs1 g mi1 g1 m (fun env2 acc => Q (backD env1 env2 vs) (.own acc)) (ds.drop (i + 1)) (wipeD env4 vs) acc4) (ds1.drop (j + 1)) env6 acc6, fun H6 ⟨S6, env6, acc6, a1, a2, a3⟩ => ⟨_, by omega, rfl, c1, S6, env6, acc6, a1, a2, a3⟩, fun x1 H6 y1 => ?_⟩
      have hd1 : ds1[j]? = some ds1[j] := List.getElem?_eq_getElem c1
      obtain ⟨S6, nw6, r6⟩ := it1.yld j _ hd1 S5 H5 x1 H6 x5 I5.sr.ex y1
      rw [List.drop_eq_getElem_cons c1] at l5
      have I6 := (I5.nw nw6).wipe vs1 hv
      refine j1 _ _ _ (fun σ7 H7 => H7 = H6 ∧ ∃ env7, SR X.K ⟨S1, B.H0, B.pa⟩ S6 H6 env7 σ7 ∧ GFact vs1 (wipeD env5 vs1) env7 ∧ dKeep m env7 fun env8 q => match q with
          | .val x => acc5.length < sizeLine ∧ dLc2I vs1 g1 m (fun env4 acc4 => dLc2L vs vs1 g mi1 g1 m (fun env2 acc => Q (backD env1 env2 vs) (.own acc)) (ds.drop (i + 1)) (wipeD env4 vs) acc4) (ds1.drop (j + 1)) (wipeD env8 vs1) (acc5 ++ [x])
          | _ => False) _ ?_
        (k2 ⟨S1, B.H0, B.pa⟩ S6 H6 (wipeD env5 vs1) (wipe σ3 vs1) x1 ds1[j] _ _ I6.sr r6 (j2 ds1[j] (wipeD env5 vs1) _ (fun env7 => GFact vs1 (wipeD env5 vs1) env7 ∧ dKeep m env7 fun env8 q => match q with
          | .val x => acc5.length < sizeLine ∧ dLc2I vs1 g1 m (fun env4 acc4 => dLc2L vs vs1 g mi1 g1 m (fun env2 acc => Q (backD env1 env2 vs) (.own acc)) (ds.drop (i + 1)) (wipeD env4 vs) acc4) (ds1.drop (j + 1)) (wipeD env8 vs1) (acc5 ++ [x])
          | _ => False) (fun _ f q => ⟨f, q⟩) l5) fun env7 σ7 s7 q7 => ⟨rfl, env7, s7, q7.1, q7.2⟩)
      rintro σ7 H7 w7 ⟨rfl, env7, s7, f7, q7⟩
      have w7' : wipe σ7 vs1 = wipe σ3 vs1 := w7.trans (wipe_idem vs1 fun _ h => h)
      have w7v : wipe σ7 vs = wipe (wipe σ3 vs1) vs := by rw [← wipe_sub (τ := σ7) vs1 hv, w7']
      have I7 := I6.tg (env' := env7) (τ' := σ7) ⟨f7.len, fun i hi => f7.out i fun z => hi (hv i z), f7.own, f7.fix⟩ s7 w7v
      refine ⟨w7', ?_⟩
      refine e2 ⟨S1, B.H0, B.pa⟩ S6 H7 env7 σ7 _ _ I7.sr q7 fun v H8 S8 env8 r z8 q8 => ?_
      split at q8
      · rename_i d8
        have I8 := I7.tp hDn z8.t
        obtain ⟨rw8, a1, a2⟩ := I8.dh
        refine ⟨rw8, a1, by rw [a2.length]; exact q8.1, S8, wipeD env8 vs1, acc5 ++ [d8], ?_, x5.trans (nw6.ex.trans z8.go.ex), q8.2⟩
        have I9 := I8.app hDn hD0 hD a1 a2 (z8.res : Rep X.K S8 v d8)
        have I10 := I9.wipe vs1 hv
        have sl : σ3.length = (wipe σ7 vs1).length := by rw [w7', wipe_length]
        have mr : ∀ i v, Slt (wipe σ7 vs1) i v → Slt σ3 i v := fun i v h => by
          rw [w7'] at h
          exact (wipe_some h).1
        refine ⟨I10.sr.more sl mr, w3', I10.go, I10.fz, fun a h => ?_, I10.wp, I10.dn, I10.dh⟩
        rcases h with h | ⟨i, l, h1, h2⟩ | ⟨i, l, h1⟩
        · exact .inl h
        · refine I10.ow a (.inr (.inl ⟨i, l, h1, ?_⟩))
          show (wipe σ7 vs1)[i]? = _
          rw [w7', wipe_out (wipeD_has h1).2]
          exact h2
        · exact I10.ow a (.inr (.inr ⟨i, l, h1⟩))
      · exact q8.elim
    · have e : j = ds1.length := by omega
      subst e
      rw [List.drop_length] at l5
      have l5 : dLc2L vs vs1 g mi1 g1 m (fun env2 acc => Q (backD env1 env2 vs) (.own acc)) (ds.drop (i + 1)) (wipeD env5 vs) acc5 := l5
      refine .inl ⟨it1.stop S5 H5 x5 I5.sr.ex, S5, wipeD env5 vs, acc5, ?_, fun i n h => (wipeD_has h).2, l5⟩
      have I6 := I5.wipe vs fun _ h => h
      rw [w3'] at I6
      exact I6
  · have e : i = ds.length := by omega
    subst e
    rw [List.drop_length] at l
    refine .inl ⟨it.stop S' H' ex1 I.sr.ex, ?_⟩
    obtain ⟨ws, w1, w2⟩ := I.dh
    have sf := (s1.unbase I.sr).more (σ' := σ) (wipe_length σ vs).symm (fun i v h => (wipe_some h).1)
    exact k _ H' S' _ (.own acc) ⟨SR.back s1 sf ex1 I.fz.1 vs pl, z.go.trans I.go fun x o _ n w => n (Ow.frz z.fz w), z.fz.trans I.fz.back, D, ws, rfl, I.dn, hD0, z.go.old D hD, fun w => hDn (Ow.frz I.fz.back w), w1, w2⟩ l
end
end DL
end

section
set_option Elab.async false
set_option linter.all false
set_option maxRecDepth 100000
set_option maxHeartbeats 4000000
namespace DL
open PySem PySem.Spec PyProof.Rows L2
open Evl (Ex)
/-! ### isinstance(e, (T1, T2, ..)), built-in classes -/
def isBs (x : D) : List BT → Option Bool
  | [] => match tyD x with
    | some _ => some false
    | none => none
  | T :: r => match isB T x, isBs x r with
    | some a, some b => some (a || b)
    | _, _ => none
def tyVs (Ts : List BT) : List V := Ts.map fun T => .ty T.name
def tyUs (Ts : List BT) : List Value := Ts.map fun T => .type T.name
theorem clsVs : ∀ Ts : List BT, Paired ClsV (tyVs Ts) (tyUs Ts)
  | [] => .nil
  | _ :: r => .cons (.ty _) (clsVs r)
theorem isBs_kit {K : PySem.W.Frag} {x : D} : ∀ {Ts : List BT} {b : Bool}, isBs x Ts = some b → ∃ t, tyD x = some t ∧ PySem.W.kitAny K (.type t) (tyUs Ts) = some b
  | [], b, h => by
    unfold isBs at h
    split at h
    · rename_i t e
      cases h
      exact ⟨t, e, kitAny_nil⟩
    · cases h
  | T :: r, b, h => by
    have h : (match isB T x, isBs x r with
      | some a, some b => some (a || b)
      | _, _ => none) = some b := h
    split at h
    · rename_i a c e1 e2
      cases h
      obtain ⟨t, h1, h2⟩ := isB_kit e1
      obtain ⟨t', h3, h4⟩ := isBs_kit (K := K) e2
      rw [h1] at h3
      cases h3
      refine ⟨t, h1, kitAny_cons (kit_ty h2) (fun z => ?_) fun z => ?_⟩
      · rw [z, Bool.false_or]
        exact h4
      · rw [z, Bool.true_or]
    · cases h
def dIsis (Ts : List BT) (m : DM) : DM := fun env Q => m env fun env' r => ∃ b, isBs r.data Ts = some b ∧ Q env' (.val (.bl b))
section
variable {X : Cx} {a e : Expr} {es : List Expr} {ma : DM} {ta te : TE} {pos p pt : Pos} {x1 : Nat} {n : DAM} {tn : TA}
theorem de_isis {Ts : List BT} {k0 : Nat} (hg : Gl X "isinstance") (hm : X.mg "isinstance" = none) (ha : DE X a ma ta) (hl : Ts.length ≤ 100) (hc : PA X es (tCs (tyVs Ts)))
    (he : starEach (a :: [.Tuple es k0 pt]) X.env = (false, eval a X.env) :: starEach [.Tuple es k0 pt] X.env := by rfl) (he2 : starEach (.Tuple es k0 pt :: []) X.env = (false, eval (.Tuple es k0 pt) X.env) :: starEach [] X.env := by rfl) (hpl : (backTo pos (starEach [.Tuple es k0 pt] X.env)).any (·.1) = false := by rfl) :
    DE X (.Call (.Name "isinstance" p) (a :: [.Tuple es k0 pt]) [] pos) (dIsis Ts ma) (tCB (rIsiT X.K) (tCons ta (tCons (tTup (tCs (tyVs Ts))) tNil))) := by
  refine ⟨pe_callB call_isiT hg hm (by decide +kernel) (pa_cons ha.1 (pa_cons (pe_tup hc) pa_nil he2) he) (by decide) (by decide) he hpl, fun B S H env σ Q Qv s q k => ?_⟩
  refine ha.2 B S H env σ _ _ s q fun x H1 S1 env1 r1 z1 q1 => ?_
  obtain ⟨b, h1, h3⟩ := q1
  obtain ⟨t, h1, h2⟩ := isBs_kit (K := X.K) h1
  refine tCs_run (tyVs Ts) σ H1 _ ⟨by unfold tyVs; rw [List.length_map, sizeLine_eq]; omega, fun tp htp => ?_⟩
  have nn := Nw.hid z1.sr.ex (o := .tup (tyVs Ts)) htp
  refine ⟨x, tp, tyVs Ts, _, tyUs Ts, b, rfl, upd_same, clsVs Ts, (z1.look1.nw nn).ty nn.sh h1, h2, ?_⟩
  have w := z1.t.nw nn
  exact k _ _ S1 env1 (.val (.bl b)) ⟨w.sr, w.go, w.fz, Rep.bl b⟩ h3
/-! ### displays with a star -/
def DAS (X : Cx) (es : List Expr) (m : DAM) (t : TA) : Prop := PA X es t ∧ ∀ (B : Bs) (S H : Hp) (env : En) (σ : L2.St) (Q : En → List R → Prop) (Qv : List V → Hp → Prop), SR X.K B S H env σ → m env Q →
  (∀ vs H' S' env' rs, TPo X.K B S H env σ S' H' env' → LkA X.K B S' H' vs rs → Q env' rs → Qv vs H') → t σ H Qv
theorem das_of {m : DAM} {t : TA} (h : DA X es m t) : DAS X es m t := ⟨h.1, fun B S H env σ Q Qv s q k => h.2 B S H env σ Q Qv s q fun vs H' S' env' rs z l _ q' => k vs H' S' env' rs z l q'⟩
theorem das_cons {m : DAM} {t : TA} (ha : DE X a ma ta) (hb : DAS X es m t) (hs : starEach (a :: es) X.env = (false, eval a X.env) :: starEach es X.env := by rfl) : DAS X (a :: es) (dCons ma m) (tCons ta t) := by
  refine ⟨pa_cons ha.1 hb.1 hs, fun B S H env σ Q Qv s q k => ?_⟩
  refine ha.2 B S H env σ _ _ s q fun x H1 S1 env1 r1 z1 q1 => ?_
  refine hb.2 B S1 H1 env1 σ _ _ z1.sr q1 fun vs H2 S2 env2 rs z2 l2 q2 => ?_
  refine k _ H2 S2 env2 _ (z1.t.trans z2) (.cons (RepB.go z1 rfl z2) (fun d e => ?_) (fun e => ?_) l2) q2
  · subst e
    exact Rep.mono z2.go.ex z1.res
  · subst e
    exact z1.res
def dStar (m : DM) (n : DAM) : DAM := fun env Q => dKeep m env fun env1 r => match r with
  | .val (.lst l) => n env1 fun env2 rs => Q env2 (l.map R.val ++ rs)
  | .val (.tup l) => n env1 fun env2 rs => Q env2 (l.map R.val ++ rs)
  | _ => False
theorem LkA.more {K : PySem.W.Frag} {B : Bs} {S H : Hp} {ws : List V} {rs : List R} (t : LkA K B S H ws rs) : ∀ {vs : List V} {ds : List DL.D}, Reps K S vs ds → LkA K B S H (vs ++ ws) (ds.map R.val ++ rs)
  | _, _, .nil => t
  | _, _, .cons h r => .cons (.inl h) (fun d e => by cases e; exact h) (fun e => by cases e) (LkA.more t r)
theorem das_star {m : DAM} {t : TA} {sp : Pos} (ha : DE X a ma ta) (hb : DAS X es m t) (hs : starEach (.Starred a sp :: es) X.env = (true, eval a X.env) :: starEach es X.env := by rfl) : DAS X (.Starred a sp :: es) (dStar ma m) (StX.tStar X.K ta t) := by
  have hk := de_keep ha
  refine ⟨StX.pa_star hk.1 hb.1 hs, fun B S H env σ Q Qv s q k => ?_⟩
  refine hk.2 B S H env σ _ _ s q fun x H1 S1 env1 r1 z1 q1 => ?_
  have zr := z1.res
  split at q1
  · rename_i l
    have zr : Rep X.K S1 x (.lst l) := zr
    cases zr with
    | lst h rr =>
      refine ⟨_, _, rfl, .inr (SqL.of (z1.sr.ex _ _ h)), hb.2 B S1 H1 env1 σ _ _ z1.sr q1 fun vs H2 S2 env2 rs z2 l2 q2 => ?_⟩
      exact k _ H2 S2 env2 _ (z1.t.trans z2) (l2.more (rr.mono z2.go.ex)) q2
  · rename_i l
    have zr : Rep X.K S1 x (.tup l) := zr
    cases zr with
    | tup h rr =>
      refine ⟨_, _, rfl, .inl (Evl.ex_t z1.sr.ex h), hb.2 B S1 H1 env1 σ _ _ z1.sr q1 fun vs H2 S2 env2 rs z2 l2 q2 => ?_⟩
      exact k _ H2 S2 env2 _ (z1.t.trans z2) (l2.more (rr.mono z2.go.ex)) q2
  · exact q1.elim
theorem de_tupS {m : DAM} {t : TA} (h : DAS X es m t) : DE X (.Tuple es x1 pos) (dTup m) (tTup t) := by
  refine ⟨pe_tup h.1, fun B S H env σ Q Qv s q k => h.2 B S H env σ _ _ s q fun vs H1 S1 env1 rs z1 l1 q1 => ?_⟩
  obtain ⟨ds, h1, h2, h3⟩ := q1
  have r := l1.vals h1
  refine ⟨by rw [r.length]; exact h2, fun p hp => ?_⟩
  have nn := Nw.add z1.sr.ex (o := .tup vs) hp
  exact k _ _ _ env1 (.val (.tup ds)) (EPo.fin z1 (q := .val (.tup ds)) ⟨nn, .tup (SqT.of upd_same) (r.mono nn.ex)⟩) h3
theorem de_lstS {m : DAM} {t : TA} (h : DAS X es m t) : DE X (.List es pos) (dLst m) (tLst t) := by
  refine ⟨pe_lst h.1, fun B S H env σ Q Qv s q k => h.2 B S H env σ _ _ s q fun vs H1 S1 env1 rs z1 l1 q1 => ?_⟩
  obtain ⟨ds, h1, h2, h3⟩ := q1
  have r := l1.vals h1
  refine ⟨by rw [r.length]; exact h2, fun p hp => ?_⟩
  have nn := Nw.hid z1.sr.ex (o := .lst vs) hp
  exact k _ _ _ env1 (.own ds) (EPo.fin z1 (q := .own ds) ⟨nn, p, vs, rfl, hp, z1.sr.sp0 hp, upd_same, r⟩) h3
/-! ### f-strings -/
def dFmt (m : DM) : DM := fun env Q => m env fun env' r => match r.data with
  | .str y => y.length ≤ sizeLine ∧ Q env' (.val (.str y))
  | .int i => i.natAbs.log2 < 1920 ∧ Q env' (.val (.str (toString i)))
  | _ => False
theorem de_fmt (ha : DE X a ma ta) : DE X (.FormattedValue a (-1) none pos) (dFmt ma) (tFmt ta) := by
  refine ⟨pe_fmt ha.1, fun B S H env σ Q Qv s q k => ha.2 B S H env σ _ _ s q fun x H1 S1 env1 r1 z1 q1 => ?_⟩
  have lk := z1.look1
  split at q1
  · rename_i y e
    rw [e] at lk
    exact .inl ⟨y, lk.str, q1.1, k _ H1 S1 env1 (.val (.str y)) ⟨z1.sr, z1.go, z1.fz, Rep.str y⟩ q1.2⟩
  · rename_i i e
    rw [e] at lk
    exact .inr ⟨i, lk.int, q1.1, k _ H1 S1 env1 (.val (.str (toString i))) ⟨z1.sr, z1.go, z1.fz, Rep.str _⟩ q1.2⟩
  · exact q1.elim
inductive DJ (X : Cx) : List Expr → List DM → List TE → Prop where
  | nil : DJ X [] [] []
  | cons {e : Expr} {m : DM} {t : TE} {es : List Expr} {ms : List DM} {ts : List TE} (h : DE X e m t) (r : DJ X es ms ts) : DJ X (e :: es) (m :: ms) (t :: ts)
theorem DJ.pj {es : List Expr} {ms : List DM} {ts : List TE} (h : DJ X es ms ts) : PJ X es ts := by
  induction h with
  | nil => exact .nil
  | cons h r ih => exact .cons h.1 ih
def dJs : List DM → Str → En → (En → Str → Prop) → Prop
  | [], acc, env, Q => Q env acc
  | m :: ms, acc, env, Q => m env fun env' r => match r.data with
    | .str y => (acc ++ y).length ≤ sizeLine ∧ dJs ms (acc ++ y) env' Q
    | _ => False
def dJoined (ms : List DM) : DM := fun env Q => dJs ms Str.empty env fun env' x => Q env' (.val (.str x))
theorem dj_run {es : List Expr} {ms : List DM} {ts : List TE} (h : DJ X es ms ts) : ∀ (acc : Str) (B : Bs) (S H : Hp) (env : En) (σ : L2.St) (Q : En → Str → Prop) (Qv : Str → Hp → Prop), SR X.K B S H env σ → dJs ms acc env Q →
    (∀ x H' S' env', TPo X.K B S H env σ S' H' env' → Q env' x → Qv x H') → tJs ts acc σ H Qv := by
  induction h with
  | nil =>
    intro acc B S H env σ Q Qv s q k
    exact k acc H S env (.refl s) q
  | @cons e m t es ms ts he r ih =>
    intro acc B S H env σ Q Qv s q k
    refine he.2 B S H env σ _ _ s q fun x H1 S1 env1 r1 z1 q1 => ?_
    have lk := z1.look1
    split at q1
    · rename_i y e
      rw [e] at lk
      exact ⟨y, lk.str, q1.1, ih (acc ++ y) B S1 H1 env1 σ Q _ z1.sr q1.2 fun x H' S' env' z q' => k x H' S' env' (z1.t.trans z) q'⟩
    · exact q1.elim
theorem de_joined {v1 v2 : Expr} {rest : List Expr} {ms : List DM} {ts : List TE} (h : DJ X (v1 :: v2 :: rest) ms ts) : DE X (.JoinedStr (v1 :: v2 :: rest) pos) (dJoined ms) (fun σ H Q => tJs ts Str.empty σ H fun out H1 => Q (.str out) H1) :=
  ⟨pe_joined h.pj, fun B S H env σ Q Qv s q k => dj_run h Str.empty B S H env σ _ _ s q fun x H' S' env' z q' => k _ H' S' env' (.val (.str x)) ⟨z.sr, z.go, z.fz, Rep.str x⟩ q'⟩
/-! ### one sign in a text -/
def mInS : M2 := fun x y Q => match x, y with
  | .str c, .str z => ∃ n : Nat, c = ⟨#[n]⟩ ∧ Q (.val (.bl (decide (n ∈ z.cps.toList))))
  | _, _ => False
def rInS : R2 := fun x y H Q => ∃ (c : Nat) (z : Str), x = .str ⟨#[c]⟩ ∧ y = .str z ∧ Q (.bl (decide (c ∈ z.cps.toList))) H
theorem op_inS : OpR X (compareOp .In) rInS := op_in_sign
theorem opd_inS {K : PySem.W.Frag} : OpD K rInS mInS := by
  intro S H x y dx dy Q Qv e hx hy m k
  unfold mInS at m
  split at m
  · rename_i c z
    obtain ⟨n, rfl, q⟩ := m
    exact ⟨n, z, hx.str, hy.str, k _ _ _ _ (nwr_val e (.bl _)) q⟩
  · exact m.elim
/-! ### name = [..] whose element may raise -/
theorem ds_setLcP {elt tg iter : Expr} {scope : Scope} {mi : DIM} {wi : TI} {g : DGM} {tg1 : TG} {m : PM} {te : L2.St → BC → TE} {i : Nat} {y : Str} {py spos : Pos} (own : List (Str × Nat)) (hs : X.stack = X.env :: X.outer) (hf : X.env.frame = some X.env.locals) (hc : X.calm = true) (hN : X.N.Nodup) (hy : X.N[i]? = some y) (hyl : X.env.scope.names.lookup y = some .local)
    (hsw : swapsWith (.ListComp elt [⟨tg, iter, [], 0⟩] scope pos) (some (.Name y py)) spos.line X.env = pure true) (hi : DI X tg iter mi wi) (ok : BlkOk X.N X.env.scope scope own)
    (hg : ∀ τ c, DG (X.atB (wk X) scope τ c) tg g tg1) (he : ∀ τ c, DP (X.atB (wk X) scope τ c) elt m (te τ c)) (i1 : TgIn tg1 (own.map (·.2))) (i2 : GIn g (own.map (·.2))) (hsi : ∀ x, foldedSetIterable iter X.env x = pure x := by intro _; rfl) :
    DS X (.Assign [.Name y py] (.ListComp elt [⟨tg, iter, [], 0⟩] scope pos) spos) (dSetP i (dLcP mi (own.map (·.2)) g m)) (tAsg (tLcX wi tg1 te (own.map (·.2))) (gName i)) :=
  ⟨ps_setLcX hs hf takes_wk hc hN hy hyl hsw hi.1 ok (fun τ c => (hg τ c).1) (fun τ c => (he τ c).1) hsi, fun B S H env σ E D s q ek => lcP_core own hi (hg [] ⟨X.s_0, X.H_0, 0, [], []⟩).2 (fun τ c => (he τ c).2) i1 i2 B S H env σ _ _ _ s q (ek.xc σ) fun v d H' S' env' s' r q' => ek.nx S' H' _ _ (s'.storeD r) q'⟩
end
/-! ### try: name = g(f(..)) / except X as e: suite; f may raise -/
def dTryG (K : PySem.W.Frag) (c : Value) (i j : Nat) (G : FM) (F : FME) (n : DAM) (su : Addr → Value → Option Addr → DSM) : DSM := fun E env => n env fun env1 rs => argsOk rs = true ∧ F rs (fun r => match r with
  | .val d => G [.val d] fun r2 => match r2 with
    | .val d2 => E.nx (env1.set i (some (.val d2)))
    | .own l => E.nx (env1.set i (some (.own l)))
    | _ => False
  | _ => False) (Caught K c j su E env1)
section
variable {X : Cx} {k k2 : Nat} {f g C : Addr} {fd gd : FuncData} {ps pg : List Str} {FE : FME} {FG : FM} {x y nm fx gx : Str} {p p2 np pos pos' cpos cpos2 apos py : Pos} {e : Expr} {es : List Expr} {n : DAM} {tn : TA} {npar i j : Nat} {c : Value} {b0 : Stmt} {suite : List Stmt} {su : Addr → Value → Option Addr → DSM} {ts : Addr → Value → Option Addr → TS}
theorem ds_tryG {tn : List (Addr × Obj) → (Value → Shared → Prop) → TA} (hs : X.stack = X.env :: X.outer) (hfr : X.env.frame = some X.env.locals) (hN : X.N.Nodup) (hj : X.N[j]? = some nm) (hln : X.env.kindOf nm = some .local) (hc : Names X x c) (hF : FnOk X.prog X.w X.K X.mg X.base (L2N.CX X.prog X.w) k f fd ps (spE X.K npar FE)) (hr : Room k X.A) (hg : Gl X fx) (hm : X.mg fx = some (.ref f)) (hk : PySem.W.keepIn X.K (.ref f) = true) (hb : Binds X.K fd ps [])
    (hG : FnOk X.prog X.w X.K X.mg X.base CX0 k2 g gd pg (spF X.K 1 FG)) (hr2 : Room k2 X.A) (hg2 : Gl X gx) (hm2 : X.mg gx = some (.ref g)) (hk2 : PySem.W.keepIn X.K (.ref g) = true) (hb2 : Binds X.K gd pg [])
    (ha : ∀ pn xe, DA (X.tr pn xe) (e :: es) n (tn pn xe)) (hlen : (e :: es).length = npar) (hi : X.N[i]? = some y) (hy : Loc X.env.scope y)
    (hsu : ∀ (a : Addr) (oe : Obj) (cls : Value) (d : Option Addr) (pn : List (Addr × Obj)), SuFacts (X.suite a ((a, oe) :: pn)) a cls d → DSs (X.suite a ((a, oe) :: pn)) (b0 :: suite) (su a cls d) (ts a cls d))
    (et : ∀ pn xe, tn pn xe = tn [] X.xe := by intros; rfl) (hdb : (fx == ("__debug__" : Str)) = false := by decide) (he : starEach (e :: es) X.env = (false, eval e X.env) :: starEach es X.env := by rfl) (hpl : (backTo cpos (starEach es X.env)).any (·.1) = false := by rfl)
    (hdb2 : (gx == ("__debug__" : Str)) = false := by decide) (he2 : starEach ((.Call (.Name fx p) (e :: es) [] cpos) :: []) X.env = (false, eval (.Call (.Name fx p) (e :: es) [] cpos) X.env) :: starEach [] X.env := by rfl) (hpl2 : (backTo cpos2 (starEach [] X.env)).any (·.1) = false := by rfl)
    (hsw : swapsWith (.Call (.Name gx p2) [.Call (.Name fx p) (e :: es) [] cpos] [] cpos2) (some (.Name y py)) apos.line X.env = pure false := by rfl) (hf : X.fn y = true ∨ X.env.scope.names.lookup y = some .local := by first | exact .inl rfl | exact .inr rfl | assumption) :
    DS X (.Try [.Assign [.Name y py] (.Call (.Name gx p2) [.Call (.Name fx p) (e :: es) [] cpos] [] cpos2) apos] [.ExceptHandler (some (.Name x np)) (some nm) (b0 :: suite) pos'] [] [] pos) (dTryG X.K c i j FG FE n su)
      (fun D σ H => tAsg (tCall (spF X.K 1 FG) [] E0 (tCons (tCallS (spE X.K npar FE) (WE (wAs X.K c j ts (fun _ _ _ _ => False) D)) (tn [] X.xe)) tNil)) (gName i) D σ H) := by
  have ha' : ∀ pn xe, DA (X.tr pn xe) (e :: es) n (tn [] X.xe) := fun pn xe => et pn xe ▸ ha pn xe
  refine ⟨L2N.ps_try_as (i := j) (tb := fun W => tAsg (tCall (spF X.K 1 FG) [] E0 (tCons (tCallS (spE X.K npar FE) (WE W) (tn [] X.xe)) tNil)) (gName i)) (Wout := fun _ _ _ _ => False) hs hfr hN hj hln hc (fun u s' ⟨_, _, _, _, _, _, _, _, _, _, _, _, _, _, _, _, w⟩ => w.elim)
    (fun W pn xe tk _ => pss_one (ps_set (X := X.tr pn xe) hN hi hy (pe_call (X := X.tr pn xe) hG hr2 hg2 hm2 hk2 hb2 .nil pass0 (pa_cons (pe_callS (X := X.tr pn xe) hF hr hg hm hk hb (fun σ => L2N.passAt tk σ) (ha' pn xe).1 hdb he hpl) pa_nil he2) hdb2 he2 hpl2) hsw hf)) (fun a oe cls d pn hz hv => (hsu a oe cls d pn (suFacts hz hv)).1), fun B S H env σ E D s q ek => ?_⟩
  refine (ha' [] X.xe).2 B S H env σ _ _ s q fun vs H1 S1 env1 rs z l len q1 => ?_
  have zs : SR X.K B S1 H1 env1 σ := z.sr
  refine ⟨S1, B.pa, rs, _, _, zs.ex, fun a e => (zs.pool a e).1, l.args q1.1, len.trans hlen, q1.2, fun v H' S' r d w => ?_, fun z2 d v H' S' dr h0 h1 hd r w => ?_⟩
  · cases r with
    | val d0 =>
      have zd := zs.ret d
      show spF X.K 1 FG ([v] ++ []) H' _ E0
      rw [List.append_nil]
      refine ⟨S', B.pa, [.val d0], _, zd.ex, fun a e => (zd.pool a e).1, .val d.ret .nil, rfl, w, fun v2 H2 S2 r2 d2 w2 => ?_⟩
      have z2 := zd.ret d2
      cases r2 with
      | val d3 => exact ek.nx S2 H2 _ _ (z2.storeD d2.ret) w2
      | own l2 =>
        obtain ⟨p, us, rfl, y1, y2, y3, y4⟩ := d2.ret
        have nO : ∀ j m, Has env1 j (.own m) → ¬ Slt σ j (.ref p) := fun j m h1 h2 => by
          obtain ⟨p', ws, k1, k2, k3, k4, _⟩ := zd.own j m h1
          cases Slt.ref k1 h2
          have y2 : H' p = none := y2
          rw [y2] at k4
          cases k4
        have nF : ∀ j m, ¬ Has env1 j (.fix p m) := fun j m h1 => by
          obtain ⟨k1, k2, k3, o, k4, _⟩ := zd.fix j p m h1
          have y2 : H' p = none := y2
          rw [y2] at k4
          cases k4
        exact ek.nx S2 H2 _ _ (z2.store (fun d e => by cases e) (fun l' e => by cases e; exact ⟨p, us, rfl, y1, zd.old0 p y2, y3, y4, fun j m _ h1 h2 => nO j m h1 h2, nF⟩) fun e => by cases e) w2
      | brw i l => exact w2.elim
      | pool => exact w2.elim
    | own l => exact w.elim
    | brw i l => exact w.elim
    | pool => exact w.elim
  · exact caught_ok hsu (zs.ret dr) ek (zs.hp0 h0) h1 hd r w
end
/-! ### name = [.. for .. in .. for .. in ..] on one row -/
section
variable {X : Cx}
theorem ds_setLc2 {i : Nat} {y : Str} {py spos : Pos} {elt tg iter tgb iterb : Expr} {scope : Scope} (own : List (Str × Nat)) (vs1 : List Nat) {pos : Pos} {mi mi1 : DIM} {wi : TI} {wi1 : Shared → Hp → Addr → List (Str × Addr) → List Addr → TI} {g g1 : DGM} {t0 t1 : Shared → Hp → Addr → List (Str × Addr) → List Addr → TG} {m : DM} {te : Shared → Hp → Addr → List (Str × Addr) → List Addr → TE} (hy : X.N[i]? = some y) (hyl : X.env.scope.names.lookup y = some .local)
    (hsw : swapsWith (.ListComp elt [⟨tg, iter, [], 0⟩, ⟨tgb, iterb, [], 0⟩] scope pos) (some (.Name y py)) spos.line X.env = pure true) (hc : X.calm = true) (hN : X.N.Nodup) (hi : DI X tg iter mi wi) (ok : BlkOk X.N X.env.scope scope own) (hv : ∀ i ∈ vs1, i ∈ own.map (·.2))
    (hg : ∀ (s : Shared) (H : Hp) (C : Addr) (cl : List (Str × Addr)) (fp : List Addr), DG (X.blk s H scope (compEnvC scope cl C X.env) fp) tg g (t0 s H C cl fp))
    (hi1 : ∀ (s : Shared) (H : Hp) (C : Addr) (cl : List (Str × Addr)) (fp : List Addr), DI (X.blk s H scope (compEnvC scope cl C X.env) fp) tgb iterb mi1 (wi1 s H C cl fp))
    (hg1 : ∀ (s : Shared) (H : Hp) (C : Addr) (cl : List (Str × Addr)) (fp : List Addr), DG (X.blk s H scope (compEnvC scope cl C X.env) fp) tgb g1 (t1 s H C cl fp))
    (he : ∀ (s : Shared) (H : Hp) (C : Addr) (cl : List (Str × Addr)) (fp : List Addr), DE (X.blk s H scope (compEnvC scope cl C X.env) fp) elt m (te s H C cl fp))
    (i1 : TgIn (t0 X.s_0 X.H_0 0 [] []) (own.map (·.2))) (i2 : GIn g (own.map (·.2))) (j1 : TgIn (t1 X.s_0 X.H_0 0 [] []) vs1) (j2 : GIn g1 vs1)
    (e1 : ∀ s H C cl fp, t0 s H C cl fp = t0 X.s_0 X.H_0 0 [] [] := by intros; rfl) (e2 : ∀ s H C cl fp, wi1 s H C cl fp = wi1 X.s_0 X.H_0 0 [] [] := by intros; rfl) (e3 : ∀ s H C cl fp, t1 s H C cl fp = t1 X.s_0 X.H_0 0 [] [] := by intros; rfl) (e4 : ∀ s H C cl fp, te s H C cl fp = te X.s_0 X.H_0 0 [] [] := by intros; rfl) (hs : ∀ x, foldedSetIterable iter X.env x = pure x := by intro _; rfl) (hs1 : ∀ env x, foldedSetIterable iterb env x = pure x := by intro _ _; rfl) :
    DS X (.Assign [.Name y py] (.ListComp elt [⟨tg, iter, [], 0⟩, ⟨tgb, iterb, [], 0⟩] scope pos) spos) (dSet i (dLc2 mi (own.map (·.2)) vs1 g mi1 g1 m)) (tAsg (tLc2 wi (t0 X.s_0 X.H_0 0 [] []) tYes (wi1 X.s_0 X.H_0 0 [] []) (t1 X.s_0 X.H_0 0 [] []) tYes (te X.s_0 X.H_0 0 [] []) (own.map (·.2)) vs1) (gName i)) := by
  have h := de_lc2 own vs1 (pos := pos) hc hN hi ok hv hg hi1 hg1 he i1 i2 j1 j2 e1 e2 e3 e4 hs hs1
  refine ⟨ps_setLc2 hc hN hy hyl hsw hi.1 ok hv (fun s H C cl fp => e1 s H C cl fp ▸ (hg s H C cl fp).1) (fun _ _ _ _ _ => pts_nil) (fun s H C cl fp => e2 s H C cl fp ▸ (hi1 s H C cl fp).1) (fun s H C cl fp => e3 s H C cl fp ▸ (hg1 s H C cl fp).1) (fun _ _ _ _ _ => pts_nil) (fun s H C cl fp => e4 s H C cl fp ▸ (he s H C cl fp).1) hs hs1, fun B S H env σ E D s q e => h.2 B S H env σ _ _ s q fun v H' S' env' r z q' => ?_⟩
  cases r with
  | val d => exact e.nx S' H' _ _ (z.sr.storeD z.res) q'
  | own l =>
    obtain ⟨p, vs, rfl, z1, z2, z3, z4, z5, z6⟩ := z.res
    exact e.nx S' H' _ _ (z.sr.store (fun d e => by cases e) (fun l' e => by cases e; exact ⟨p, vs, rfl, z1, z2, z5, z6, fun j m _ h1 h2 => z4 (.inr (.inl ⟨j, m, h1, h2⟩)), fun j m h1 => z4 (.inr (.inr ⟨j, m, h1⟩))⟩) fun e => by cases e) q'
  | brw j l =>
    obtain ⟨p, rfl, z1, z2⟩ := z.res
    obtain ⟨p', S2, y1, y2, y3⟩ := z.sr.frz z2
    cases Slt.ref z1 y1
    exact e.nx S2 H' _ _ (y2.sr.storeD y3) q'
  | pool =>
    obtain ⟨a, z1, rfl⟩ := z.res
    exact e.nx S' H' _ _ (z.sr.store (fun d e => by cases e) (fun l' e => by cases e) fun _ => ⟨a, z1, rfl⟩) q'
end
end DL
end

section
set_option Elab.async false
set_option linter.all false
set_option maxRecDepth 100000
set_option maxHeartbeats 4000000
namespace G
open PySem PySem.Spec PyProof.Rows L2 DL
def top (i : Nat) : Stmt := PySem.Challenge.pw_someobjects_k71_whole_papers_are_read_ex.main.body.getD i (.Pass ⟨0, 0, 0, 0⟩)
abbrev s_copied : Stmt := top 9
abbrev N_copied : List Str := ["rows", "row"]
theorem sc_copied : FnScope N_copied ["rows"] (defScope s_copied) := ⟨rfl, rfl, rfl, by decide +kernel, rfl, by decide +kernel, by decide +kernel⟩
abbrev s_Found_initdd : Stmt := inClass (top 8) 0
abbrev N_Found_initdd : List Str := ["self", "kind", "cost", "labels", "numbers", "ends"]
theorem sc_Found_initdd : FnScope N_Found_initdd ["self", "kind", "cost", "labels", "numbers", "ends"] (defScope s_Found_initdd) := ⟨rfl, rfl, rfl, by decide +kernel, rfl, by decide +kernel, by decide +kernel⟩
abbrev s_paper_lines : Stmt := top 13
abbrev N_paper_lines : List Str := ["found", "lines", "rows", "run", "row"]
theorem sc_paper_lines : FnScope N_paper_lines ["found"] (defScope s_paper_lines) := ⟨rfl, rfl, rfl, by decide +kernel, rfl, by decide +kernel, by decide +kernel⟩
abbrev s_row_line : Stmt := top 14
abbrev N_row_line : List Str := ["row", "number"]
theorem sc_row_line : FnScope N_row_line ["row"] (defScope s_row_line) := ⟨rfl, rfl, rfl, by decide +kernel, rfl, by decide +kernel, by decide +kernel⟩
abbrev s_written : Stmt := top 15
abbrev N_written : List Str := ["number"]
theorem sc_written : FnScope N_written ["number"] (defScope s_written) := ⟨rfl, rfl, rfl, by decide +kernel, rfl, by decide +kernel, by decide +kernel⟩
abbrev s_read_paper : Stmt := top 16
abbrev N_read_paper : List Str := ["count", "labels", "lines", "rest", "kind", "cost", "told", "numbers", "ends"]
theorem sc_read_paper : FnScope N_read_paper ["count", "labels", "lines"] (defScope s_read_paper) := ⟨rfl, rfl, rfl, by decide +kernel, rfl, by decide +kernel, by decide +kernel⟩
abbrev s_Lines_head : Stmt := inClass (top 18) 3
abbrev N_Lines_head : List Str := ["self", "count", "labels", "words"]
theorem sc_Lines_head : FnScope N_Lines_head ["self", "count", "labels"] (defScope s_Lines_head) := ⟨rfl, rfl, rfl, by decide +kernel, rfl, by decide +kernel, by decide +kernel⟩
abbrev s_Lines_rows : Stmt := inClass (top 18) 5
abbrev N_Lines_rows : List Str := ["self", "count", "labels", "_"]
theorem sc_Lines_rows : FnScope N_Lines_rows ["self", "count", "labels"] (defScope s_Lines_rows) := ⟨rfl, rfl, rfl, by decide +kernel, rfl, by decide +kernel, by decide +kernel⟩
abbrev s_Lines_row : Stmt := inClass (top 18) 6
abbrev N_Lines_row : List Str := ["self", "labels", "words", "word"]
theorem sc_Lines_row : FnScope N_Lines_row ["self", "labels"] (defScope s_Lines_row) := ⟨rfl, rfl, rfl, by decide +kernel, rfl, by decide +kernel, by decide +kernel⟩
abbrev s_Lines_finish : Stmt := inClass (top 18) 7
abbrev N_Lines_finish : List Str := ["self"]
theorem sc_Lines_finish : FnScope N_Lines_finish ["self"] (defScope s_Lines_finish) := ⟨rfl, rfl, rfl, by decide +kernel, rfl, by decide +kernel, by decide +kernel⟩
abbrev s_Lines_initdd : Stmt := inClass (top 18) 0
abbrev N_Lines_initdd : List Str := ["self", "lines"]
theorem sc_Lines_initdd : FnScope N_Lines_initdd ["self", "lines"] (defScope s_Lines_initdd) := ⟨rfl, rfl, rfl, by decide +kernel, rfl, by decide +kernel, by decide +kernel⟩
abbrev s_read_ring_paper : Stmt := top 17
abbrev N_read_ring_paper : List Str := ["count", "labels", "lines", "rest", "kind", "cost", "told", "numbers", "_"]
theorem sc_read_ring_paper : FnScope N_read_ring_paper ["count", "labels", "lines"] (defScope s_read_ring_paper) := ⟨rfl, rfl, rfl, by decide +kernel, rfl, by decide +kernel, by decide +kernel⟩
abbrev s_Lines_take : Stmt := inClass (top 18) 1
abbrev N_Lines_take : List Str := ["self"]
theorem sc_Lines_take : FnScope N_Lines_take ["self"] (defScope s_Lines_take) := ⟨rfl, rfl, rfl, by decide +kernel, rfl, by decide +kernel, by decide +kernel⟩
abbrev s_Lines_need : Stmt := inClass (top 18) 2
abbrev N_Lines_need : List Str := ["self", "holds"]
theorem sc_Lines_need : FnScope N_Lines_need ["self", "holds"] (defScope s_Lines_need) := ⟨rfl, rfl, rfl, by decide +kernel, rfl, by decide +kernel, by decide +kernel⟩
abbrev s_is_number : Stmt := top 19
abbrev N_is_number : List Str := ["word", "sign"]
theorem sc_is_number : FnScope N_is_number ["word"] (defScope s_is_number) := ⟨rfl, rfl, rfl, by decide +kernel, rfl, by decide +kernel, by decide +kernel⟩
abbrev s_Lines_labels_told : Stmt := inClass (top 18) 4
abbrev N_Lines_labels_told : List Str := ["self", "count", "labels", "words", "word"]
theorem sc_Lines_labels_told : FnScope N_Lines_labels_told ["self", "count", "labels"] (defScope s_Lines_labels_told) := ⟨rfl, rfl, rfl, by decide +kernel, rfl, by decide +kernel, by decide +kernel⟩
abbrev s_law_pool : Stmt := top 21
abbrev N_law_pool : List Str := ["script", "budget"]
theorem sc_law_pool : FnScope N_law_pool ["script", "budget"] (defScope s_law_pool) := ⟨rfl, rfl, rfl, by decide +kernel, rfl, by decide +kernel, by decide +kernel⟩
abbrev s_law_draw : Stmt := top 22
abbrev N_law_draw : List Str := ["pool", "size", "cell", "value"]
theorem sc_law_draw : FnScope N_law_draw ["pool", "size"] (defScope s_law_draw) := ⟨rfl, rfl, rfl, by decide +kernel, rfl, by decide +kernel, by decide +kernel⟩
abbrev s_law_same : Stmt := top 23
abbrev N_law_same : List Str := ["actual", "due", "k"]
theorem sc_law_same : FnScope N_law_same ["actual", "due"] (defScope s_law_same) := ⟨rfl, rfl, rfl, by decide +kernel, rfl, by decide +kernel, by decide +kernel⟩
abbrev s_law_text : Stmt := top 24
abbrev N_law_text : List Str := ["row", "words", "number"]
theorem sc_law_text : FnScope N_law_text ["row"] (defScope s_law_text) := ⟨rfl, rfl, rfl, by decide +kernel, rfl, by decide +kernel, by decide +kernel⟩
abbrev s_law_entry : Stmt := top 25
abbrev N_law_entry : List Str := ["pool"]
theorem sc_law_entry : FnScope N_law_entry ["pool"] (defScope s_law_entry) := ⟨rfl, rfl, rfl, by decide +kernel, rfl, by decide +kernel, by decide +kernel⟩
abbrev s_law_drawn : Stmt := top 26
abbrev N_law_drawn : List Str := ["pool", "count", "labels", "ring", "head", "data", "cost", "own", "numbers", "rows", "ends", "k", "label", "first", "row"]
theorem sc_law_drawn : FnScope N_law_drawn ["pool", "count", "labels", "ring"] (defScope s_law_drawn) := ⟨rfl, rfl, rfl, by decide +kernel, rfl, by decide +kernel, by decide +kernel⟩
abbrev s_law_read : Stmt := top 27
abbrev N_law_read : List Str := ["count", "labels", "lines", "ring"]
theorem sc_law_read : FnScope N_law_read ["count", "labels", "lines", "ring"] (defScope s_law_read) := ⟨rfl, rfl, rfl, by decide +kernel, rfl, by decide +kernel, by decide +kernel⟩
abbrev s_law_digits : Stmt := top 28
abbrev N_law_digits : List Str := ["word", "most", "char"]
theorem sc_law_digits : FnScope N_law_digits ["word", "most"] (defScope s_law_digits) := ⟨rfl, rfl, rfl, by decide +kernel, rfl, by decide +kernel, by decide +kernel⟩
abbrev s_law_bad : Stmt := top 29
abbrev N_law_bad : List Str := ["lines", "count", "labels", "ring", "due", "at", "words", "kind", "rows", "own", "word"]
theorem sc_law_bad : FnScope N_law_bad ["lines", "count", "labels", "ring"] (defScope s_law_bad) := ⟨rfl, rfl, rfl, by decide +kernel, rfl, by decide +kernel, by decide +kernel⟩
abbrev s_law_menu : Stmt := top 30
abbrev N_law_menu : List Str := ["pool", "words", "menu"]
theorem sc_law_menu : FnScope N_law_menu ["pool", "words"] (defScope s_law_menu) := ⟨rfl, rfl, rfl, by decide +kernel, rfl, by decide +kernel, by decide +kernel⟩
abbrev s_law_changed : Stmt := top 31
abbrev N_law_changed : List Str := ["pool", "lines", "k", "place", "other", "words", "at", "way", "word", "spot", "signs"]
theorem sc_law_changed : FnScope N_law_changed ["pool", "lines"] (defScope s_law_changed) := ⟨rfl, rfl, rfl, by decide +kernel, rfl, by decide +kernel, by decide +kernel⟩
abbrev s_law : Stmt := top 32
abbrev N_law : List Str := ["script", "pool", "ring", "labels", "count", "lines", "bad", "again", "e"]
theorem sc_law : FnScope N_law ["script"] (defScope s_law) := ⟨rfl, rfl, rfl, by decide +kernel, rfl, by decide +kernel, by decide +kernel⟩
structure Ad where
  f_copied : Addr
  d_copied : FuncData
  f_Found_initdd : Addr
  d_Found_initdd : FuncData
  f_paper_lines : Addr
  d_paper_lines : FuncData
  f_row_line : Addr
  d_row_line : FuncData
  f_written : Addr
  d_written : FuncData
  f_read_paper : Addr
  d_read_paper : FuncData
  f_Lines_head : Addr
  d_Lines_head : FuncData
  f_Lines_rows : Addr
  d_Lines_rows : FuncData
  f_Lines_row : Addr
  d_Lines_row : FuncData
  f_Lines_finish : Addr
  d_Lines_finish : FuncData
  f_Lines_initdd : Addr
  d_Lines_initdd : FuncData
  f_read_ring_paper : Addr
  d_read_ring_paper : FuncData
  f_Lines_take : Addr
  d_Lines_take : FuncData
  f_Lines_need : Addr
  d_Lines_need : FuncData
  f_is_number : Addr
  d_is_number : FuncData
  f_Lines_labels_told : Addr
  d_Lines_labels_told : FuncData
  f_law_pool : Addr
  d_law_pool : FuncData
  f_law_draw : Addr
  d_law_draw : FuncData
  f_law_same : Addr
  d_law_same : FuncData
  f_law_text : Addr
  d_law_text : FuncData
  f_law_entry : Addr
  d_law_entry : FuncData
  f_law_drawn : Addr
  d_law_drawn : FuncData
  f_law_read : Addr
  d_law_read : FuncData
  f_law_digits : Addr
  d_law_digits : FuncData
  f_law_bad : Addr
  d_law_bad : FuncData
  f_law_menu : Addr
  d_law_menu : FuncData
  f_law_changed : Addr
  d_law_changed : FuncData
  f_law : Addr
  d_law : FuncData
  t_DIGITS : Tok
  t_MOST_DIGITS : Tok
  Found : Addr
  Lines : Addr
  i_BadPaper : Addr
  x_BadPaper : Addr
  x_BadMachine : Addr
  x_BadRule : Addr
  x_BadText : Addr
  x_TooLarge : Addr
  e_ObjectError : Addr
def m_copied (F_copied : FM) : DSM :=
  (dRet (dLc (dOver (dVar 0)) [1] (dName 1) dYes (dIf (dTru (dIsis [.list, .tuple] (dVar 1))) (dCall F_copied (dCons (dKeep (dVar 1)) dNil)) (dVar 1))))
def m_Found_initdd (a : Ad) (F_copied : FM) : DSM :=
  (dSeq (dPutA a.Found 0 "kind" (dVar 1))
  (dSeq (dPutA a.Found 0 "cost" (dVar 2))
  (dSeq (dPutA a.Found 0 "labels" (dCall F_copied (dCons (dKeep (dVar 3)) dNil)))
  (dSeq (dPutA a.Found 0 "numbers" (dCall F_copied (dCons (dKeep (dVar 4)) dNil)))
  (dPutA a.Found 0 "ends" (dCall F_copied (dCons (dKeep (dVar 5)) dNil)))))))
def m_paper_lines (a : Ad) (F_row_line : FM) (F_written : FM) : DSM :=
  (dSeq (dSet 1 (dLst (dCons (dKeep (dC (.str "none"))) dNil)))
  (dSeq (dIfS (dB (dOp mEq (dFld a.Found "kind" (dVar 0)) (dC (.str "best"))))
  (dSet 1 (dLst (dCons (dKeep (dJoined [(dC (.str "best ")), (dFmt (dCall F_written (dCons (dKeep (dFld a.Found "cost" (dVar 0))) dNil)))])) (dCons (dKeep (dCall F_row_line (dCons (dKeep (dFld a.Found "labels" (dVar 0))) dNil))) dNil))))
  dNext)
  (dSeq (dIfS (dTru (dFld a.Found "ends" (dVar 0)))
  (dSet 2 (dLst (dStar (dFld a.Found "numbers" (dVar 0)) (dCons (dKeep (dFld a.Found "ends" (dVar 0))) dNil))))
  (dSet 2 (dLc2 (dOver (dFld a.Found "numbers" (dVar 0))) [3, 4] [4] (dName 3) (dOver (dVar 3)) (dName 4) (dVar 4))))
  (dRet (dOp mAdd (dVar 1) (dLc (dOver (dVar 2)) [4] (dName 4) dYes (dCall F_row_line (dCons (dKeep (dVar 4)) dNil))))))))
def m_row_line (F_written : FM) : DSM :=
  (dRet (dM1 mJoin (dC (.str " ")) (dLc (dOver (dVar 0)) [1] (dName 1) dYes (dCall F_written (dCons (dKeep (dVar 1)) dNil)))))
def m_written : DSM :=
  (dRet (dIf (dB (dOp mIs (dVar 0) (dC .non))) (dC (.str "-")) (dCB mStr (dCons (dVar 0) dNil))))
def m_read_paper (a : Ad) (F_Lines_head : FMM) (F_Lines_rows : FMM) (F_Lines_row : FMM) (F_Lines_finish : FMM) (F_Lines_initdd : FMM) (F_Found_initdd : FMM) : DSM :=
  (dSeq (dSetM a.Lines 3 F_Lines_initdd (dCons (dKeep (dVar 2)) dNil))
  (dSeq (dAsgP (dTg 3 (dTCons (dName 4) (dTCons (dName 5) (dTCons (dName 6) dTNil)))) (dMethM a.Lines 3 "head" F_Lines_head (dCons (dKeep (dVar 0)) (dCons (dKeep (dVar 1)) dNil))))
  (dSeq (dSetP 7 (dMethM a.Lines 3 "rows" F_Lines_rows (dCons (dKeep (dVar 0)) (dCons (dKeep (dVar 1)) dNil))))
  (dSeq (dSetP 8 (dMethM a.Lines 3 "row" F_Lines_row (dCons (dKeep (dVar 1)) dNil)))
  (dSeq (dDropP (dMethM a.Lines 3 "finish" F_Lines_finish dNil))
  (dRet (dKeep (dMake a.Found F_Found_initdd (dCons (dKeep (dVar 4)) (dCons (dKeep (dVar 5)) (dCons (dKeep (dVar 6)) (dCons (dKeep (dVar 7)) (dCons (dKeep (dVar 8)) dNil)))))))))))))
def m_read_ring_paper (a : Ad) (F_Lines_head : FMM) (F_Lines_rows : FMM) (F_Lines_finish : FMM) (F_Lines_initdd : FMM) (F_Found_initdd : FMM) : DSM :=
  (dSeq (dSetM a.Lines 3 F_Lines_initdd (dCons (dKeep (dVar 2)) dNil))
  (dSeq (dAsgP (dTg 3 (dTCons (dName 4) (dTCons (dName 5) (dTCons (dName 6) dTNil)))) (dMethM a.Lines 3 "head" F_Lines_head (dCons (dKeep (dVar 0)) (dCons (dKeep (dVar 1)) dNil))))
  (dSeq (dSetP 7 (dLcP (dRng1 (dVar 1)) [8] (dName 8) (dMethM a.Lines 3 "rows" F_Lines_rows (dCons (dKeep (dVar 0)) (dCons (dKeep (dVar 1)) dNil)))))
  (dSeq (dDropP (dMethM a.Lines 3 "finish" F_Lines_finish dNil))
  (dRet (dKeep (dMake a.Found F_Found_initdd (dCons (dKeep (dVar 4)) (dCons (dKeep (dVar 5)) (dCons (dKeep (dVar 6)) (dCons (dKeep (dVar 7)) (dCons (dKeep (dLst dNil)) dNil))))))))))))
def m_Lines_initdd (a : Ad) : DSM :=
  (dSeq (dPutA a.Lines 0 "lines" (dVar 1))
  (dPutA a.Lines 0 "at" (dC (.int 0))))
def m_Lines_take (a : Ad) (F_Lines_need : FMM) : DSM :=
  (dSeq (dDropP (dMethM a.Lines 0 "need" F_Lines_need (dCons (dKeep (dOp mLtA (dFldF a.Lines 0 "at") (dCB mLen (dCons (dFldF a.Lines 0 "lines") dNil)))) dNil)))
  (dRet (dKeep (dM1 mSplit (dOp mIx (dFldF a.Lines 0 "lines") (dFldF a.Lines 0 "at")) (dC (.str " "))))))
def m_Lines_need (a : Ad) : DSM :=
  (dIfS (dNot (dTru (dVar 1)))
  (dRaise a.x_BadPaper "at" (dFldF a.Lines 0 "at"))
  dNext)
def m_Lines_head (a : Ad) (F_is_number : FM) (F_Lines_take : FMM) (F_Lines_need : FMM) (F_Lines_labels_told : FMM) : DSM :=
  (dSeq (dSetP 3 (dMethM a.Lines 0 "take" F_Lines_take dNil))
  (dSeq (dIfS (dB (dOp mEq (dVar 3) (dLst (dCons (dKeep (dC (.str "none"))) dNil))))
  (dSeq (dAugA a.Lines 0 "at" (fun x y => x + y) (dC (.int 1)))
  (dRet (dKeep (dTup (dCons (dKeep (dC (.str "none"))) (dCons (dKeep (dC .non)) (dCons (dKeep (dLst dNil)) dNil)))))))
  dNext)
  (dSeq (dDropP (dMethM a.Lines 0 "need" F_Lines_need (dCons (dKeep (dAndV (dOp mEq (dCB mLen (dCons (dVar 3) dNil)) (dC (.int 2))) (dAndV (dOp mEq (dOp mIx (dVar 3) (dC (.int 0))) (dC (.str "best"))) (dCall F_is_number (dCons (dKeep (dOp mIx (dVar 3) (dC (.int 1)))) dNil))))) dNil)))
  (dSeq (dAugA a.Lines 0 "at" (fun x y => x + y) (dC (.int 1)))
  (dRetP (dTupP (dConsP (dC (.str "best")) (dConsP (dCB mInt (dCons (dOp mIx (dVar 3) (dC (.int 1))) dNil)) (dEndP (dMethM a.Lines 0 "labels_told" F_Lines_labels_told (dCons (dKeep (dVar 1)) (dCons (dKeep (dVar 2)) dNil))))))))))))
def m_Lines_labels_told (a : Ad) (F_is_number : FM) (F_Lines_take : FMM) (F_Lines_need : FMM) : DSM :=
  (dSeq (dSetP 3 (dMethM a.Lines 0 "take" F_Lines_take dNil))
  (dSeq (dDropP (dMethM a.Lines 0 "need" F_Lines_need (dCons (dKeep (dAndV (dOp mEq (dCB mLen (dCons (dVar 3) dNil)) (dVar 1)) (dCB mAll (dCons (dLc (dOver (dVar 3)) [4] (dName 4) dYes (dAndV (dCall F_is_number (dCons (dKeep (dVar 4)) dNil)) (dOp mLtA (dCB mInt (dCons (dVar 4) dNil)) (dVar 2)))) dNil)))) dNil)))
  (dSeq (dAugA a.Lines 0 "at" (fun x y => x + y) (dC (.int 1)))
  (dRet (dKeep (dLc (dOver (dVar 3)) [4] (dName 4) dYes (dCB mInt (dCons (dVar 4) dNil))))))))
def m_Lines_rows (a : Ad) (F_Lines_row : FMM) : DSM :=
  (dRetP (dLcP (dRng1 (dVar 1)) [3] (dName 3) (dMethM a.Lines 0 "row" F_Lines_row (dCons (dKeep (dVar 2)) dNil))))
def m_Lines_row (a : Ad) (F_is_number : FM) (F_Lines_take : FMM) (F_Lines_need : FMM) : DSM :=
  (dSeq (dSetP 2 (dMethM a.Lines 0 "take" F_Lines_take dNil))
  (dSeq (dDropP (dMethM a.Lines 0 "need" F_Lines_need (dCons (dKeep (dAndV (dOp mEq (dCB mLen (dCons (dVar 2) dNil)) (dVar 1)) (dCB mAll (dCons (dLc (dOver (dVar 2)) [3] (dName 3) dYes (dOrV (dOp mEq (dVar 3) (dC (.str "-"))) (dCall F_is_number (dCons (dKeep (dVar 3)) dNil)))) dNil)))) dNil)))
  (dSeq (dAugA a.Lines 0 "at" (fun x y => x + y) (dC (.int 1)))
  (dRet (dKeep (dLc (dOver (dVar 2)) [3] (dName 3) dYes (dIf (dB (dOp mEq (dVar 3) (dC (.str "-")))) (dC .non) (dCB mInt (dCons (dVar 3) dNil)))))))))
def m_Lines_finish (a : Ad) (F_Lines_need : FMM) : DSM :=
  (dDropP (dMethM a.Lines 0 "need" F_Lines_need (dCons (dKeep (dOp mEq (dFldF a.Lines 0 "at") (dCB mLen (dCons (dFldF a.Lines 0 "lines") dNil)))) dNil)))
def m_is_number : DSM :=
  (dSeq (dIfS (dOr (dNot (dB (dChain mLeA mLeA (dC (.int 1)) (dCB mLen (dCons (dVar 0) dNil)) (dC (.int 9))))) (dNot (dTru (dCB mAll (dCons (dLc (dOverS (dVar 0)) [1] (dName 1) dYes (dOp mInS (dVar 1) (dC (.str "0123456789")))) dNil)))))
  (dRet (dC (.bl false)))
  dNext)
  (dRet (dOrV (dOp mEq (dVar 0) (dC (.str "0"))) (dOp mNe (dOp mIx (dVar 0) (dC (.int 0))) (dC (.str "0"))))))
def m_law_pool : DSM :=
  (dRet (dLst (dCons (dKeep (dCB mList (dCons (dVar 0) dNil))) (dCons (dKeep (dC (.int 0))) (dCons (dKeep (dC (.int 0))) (dCons (dKeep (dC (.int 1))) (dCons (dKeep (dC (.int 0))) (dCons (dKeep (dVar 1)) dNil))))))))
def m_law_draw : DSM :=
  (dSeq (dIfS (dAnd (dB (dOp mLeA (dOp mIx (dVar 0) (dC (.int 2))) (dC (.int 0)))) (dAnd (dB (dOp mLeA (dOp mIx (dVar 0) (dC (.int 4))) (dC (.int 0)))) (dB (dOp mLtA (dOp mIx (dVar 0) (dC (.int 1))) (dCB mLen (dCons (dOp mIx (dVar 0) (dC (.int 0))) dNil))))))
  (dSeq (dSet 2 (dOp mIx (dOp mIx (dVar 0) (dC (.int 0))) (dOp mIx (dVar 0) (dC (.int 1)))))
  (dSeq (dPut 0 (dC (.int 1)) (dOp mAdd (dOp mIx (dVar 0) (dC (.int 1))) (dC (.int 1))))
  (dSeq (dPut 0 (dC (.int 3)) (dOp mMod (dCB mInt (dCons (dOp mAdd (dOp mMul (dOp mIx (dVar 0) (dC (.int 3))) (dC (.int 31))) (dVar 2)) dNil)) (dC (.int 2147483647))))
  (dSeq (dPut 0 (dC (.int 4)) (dC (.int 7)))
  (dIfS (dB (dOp mGeA (dVar 2) (dOp mPow (dC (.int 10)) (dC (.int 18)))))
  (dPut 0 (dC (.int 2)) (dVar 2))
  dNext)))))
  dNext)
  (dSeq (dIfS (dB (dOp mGtA (dOp mIx (dVar 0) (dC (.int 2))) (dC (.int 0))))
  (dSeq (dSet 3 (dOp mMod (dCB mInt (dCons (dOp mIx (dVar 0) (dC (.int 2))) dNil)) (dVar 1)))
  (dSeq (dPut 0 (dC (.int 2)) (dOp mDiv (dOp mIx (dVar 0) (dC (.int 2))) (dVar 1)))
  (dSeq (dPut 0 (dC (.int 4)) (dC (.int 0)))
  (dRet (dVar 3)))))
  dNext)
  (dSeq (dPut 0 (dC (.int 4)) (dOp mSub (dOp mIx (dVar 0) (dC (.int 4))) (dC (.int 1))))
  (dSeq (dPut 0 (dC (.int 3)) (dOp mMod (dCB mInt (dCons (dOp mAdd (dOp mMul (dOp mIx (dVar 0) (dC (.int 3))) (dC (.int 48271))) (dC (.int 12345))) dNil)) (dC (.int 2147483647))))
  (dRet (dOp mMod (dOp mMod (dCB mInt (dCons (dOp mAdd (dOp mMul (dOp mIx (dVar 0) (dC (.int 3))) (dC (.int 69621))) (dC (.int 7919))) dNil)) (dC (.int 2147483647))) (dVar 1)))))))
def m_law_same (F_law_same : FM) : DSM :=
  (dSeq (dIfS (dOr (dTru (dIsi .tuple (dVar 1))) (dTru (dIsi .list (dVar 1))))
  (dSeq (dIfS (dOr (dB (dOp mNe (dIsi .tuple (dVar 1)) (dIsi .tuple (dVar 0)))) (dB (dOp mNe (dIsi .list (dVar 1)) (dIsi .list (dVar 0)))))
  (dRet (dC (.bl false)))
  dNext)
  (dSeq (dIfS (dB (dOp mNe (dCB mLen (dCons (dVar 0) dNil)) (dCB mLen (dCons (dVar 1) dNil))))
  (dRet (dC (.bl false)))
  dNext)
  (dSeq (dFor (dRng1 (dCB mLen (dCons (dVar 1) dNil))) (dName 2)
  (dIfS (dNot (dTru (dCall F_law_same (dCons (dKeep (dOp mIx (dVar 0) (dVar 2))) (dCons (dKeep (dOp mIx (dVar 1) (dVar 2))) dNil)))))
  (dRet (dC (.bl false)))
  dNext))
  (dRet (dC (.bl true))))))
  dNext)
  (dSeq (dIfS (dOr (dB (dOp mIs (dVar 1) (dC .non))) (dTru (dIsi .bool (dVar 1))))
  (dRet (dAndV (dOp mEq (dOp mIs (dVar 0) (dC .non)) (dOp mIs (dVar 1) (dC .non))) (dAndV (dOrV (dOp mIs (dVar 1) (dC .non)) (dIsi .bool (dVar 0))) (dOp mEq (dVar 0) (dVar 1)))))
  dNext)
  (dSeq (dIfS (dTru (dIsi .int (dVar 1)))
  (dRet (dAndV (dIsi .int (dVar 0)) (dAndV (dNotV (dIsi .bool (dVar 0))) (dOp mEq (dVar 0) (dVar 1)))))
  dNext)
  (dRet (dAndV (dIsi .str (dVar 0)) (dOp mEq (dVar 0) (dVar 1)))))))
def m_law_text : DSM :=
  (dSeq (dSet 1 (dLst dNil))
  (dSeq (dFor (dOver (dVar 0)) (dName 2)
  (dApp 1 (dOp mIx (dTup (dCons (dKeep (dC (.str "-"))) (dCons (dKeep (dCB mStrN (dCons (dVar 2) dNil))) dNil))) (dCB mInt (dCons (dOp mIsN (dVar 2) (dC .non)) dNil)))))
  (dRet (dM1 mJoin (dC (.str " ")) (dVar 1)))))
def m_law_entry (F_law_draw : FM) : DSM :=
  (dRet (dOp mIx (dTup (dCons (dKeep (dC .non)) (dCons (dKeep (dCall F_law_draw (dCons (dKeep (dVar 0)) (dCons (dKeep (dC (.int 9))) dNil)))) (dCons (dKeep (dCall F_law_draw (dCons (dKeep (dVar 0)) (dCons (dKeep (dC (.int 1000))) dNil)))) (dCons (dKeep (dOp mSub (dC (.int 999999999)) (dCall F_law_draw (dCons (dKeep (dVar 0)) (dCons (dKeep (dC (.int 3))) dNil))))) dNil))))) (dCall F_law_draw (dCons (dKeep (dVar 0)) (dCons (dKeep (dC (.int 4))) dNil)))))
def m_law_drawn (F_law_draw : FM) (F_law_text : FM) (F_law_entry : FM) : DSM :=
  (dSeq (dSet 4 (dLst (dCons (dKeep (dC (.str "none"))) dNil)))
  (dSeq (dSet 5 (dLst (dCons (dKeep (dC (.str "none"))) (dCons (dKeep (dC .non)) (dCons (dKeep (dLst dNil)) dNil)))))
  (dSeq (dIfS (dB (dOp mGtA (dCall F_law_draw (dCons (dKeep (dVar 0)) (dCons (dKeep (dC (.int 4))) dNil))) (dC (.int 0))))
  (dSeq (dSet 6 (dOp mIx (dTup (dCons (dKeep (dCall F_law_draw (dCons (dKeep (dVar 0)) (dCons (dKeep (dC (.int 9))) dNil)))) (dCons (dKeep (dOp mSub (dC (.int 999999999)) (dCall F_law_draw (dCons (dKeep (dVar 0)) (dCons (dKeep (dC (.int 3))) dNil))))) dNil))) (dCall F_law_draw (dCons (dKeep (dVar 0)) (dCons (dKeep (dC (.int 2))) dNil)))))
  (dSeq (dSet 7 (dLc (dRng1 (dVar 1)) [11] (dName 11) dYes (dCall F_law_draw (dCons (dKeep (dVar 0)) (dCons (dKeep (dVar 2)) dNil)))))
  (dSeq (dSet 4 (dLst (dCons (dKeep (dOp mAdd (dC (.str "best ")) (dCB mStr (dCons (dVar 6) dNil)))) (dCons (dKeep (dCall F_law_text (dCons (dKeep (dVar 7)) dNil))) dNil))))
  (dSet 5 (dLst (dCons (dKeep (dC (.str "best"))) (dCons (dKeep (dVar 6)) (dCons (dKeep (dVar 7)) dNil))))))))
  dNext)
  (dSeq (dIfS (dTru (dVar 3))
  (dSeq (dSet 8 (dLc (dRng1 (dVar 2)) [13] (dName 13) dYes (dLc (dRng1 (dVar 1)) [11] (dName 11) dYes (dLc (dRng1 (dVar 2)) [12] (dName 12) dYes (dCall F_law_entry (dCons (dKeep (dVar 0)) dNil))))))
  (dSeq (dFor (dOver (dVar 8)) (dName 9)
  (dSet 4 (dOp mAdd (dVar 4) (dLc (dOver (dVar 9)) [14] (dName 14) dYes (dCall F_law_text (dCons (dKeep (dVar 14)) dNil))))))
  (dRet (dTup (dCons (dKeep (dVar 4)) (dCons (dKeep (dOp mAdd (dVar 5) (dLst (dCons (dKeep (dVar 8)) (dCons (dKeep (dLst dNil)) dNil))))) dNil))))))
  dNext)
  (dSeq (dSet 8 (dLc (dRng1 (dVar 1)) [11] (dName 11) dYes (dLc (dRng1 (dVar 2)) [12] (dName 12) dYes (dCall F_law_entry (dCons (dKeep (dVar 0)) dNil)))))
  (dSeq (dSet 10 (dLc (dRng1 (dVar 2)) [12] (dName 12) dYes (dCall F_law_entry (dCons (dKeep (dVar 0)) dNil))))
  (dRet (dTup (dCons (dKeep (dOp mAdd (dOp mAdd (dVar 4) (dLc (dOver (dVar 8)) [14] (dName 14) dYes (dCall F_law_text (dCons (dKeep (dVar 14)) dNil)))) (dLst (dCons (dKeep (dCall F_law_text (dCons (dKeep (dVar 10)) dNil))) dNil)))) (dCons (dKeep (dOp mAdd (dVar 5) (dLst (dCons (dKeep (dVar 8)) (dCons (dKeep (dVar 10)) dNil))))) dNil))))))))))
def m_law_read (F_read_ring_paper : FME) (F_read_paper : FME) : DSM :=
  (dSeq (dIfS (dTru (dVar 3))
  (dRetP (dCallE F_read_ring_paper (dCons (dKeep (dVar 0)) (dCons (dKeep (dVar 1)) (dCons (dKeep (dVar 2)) dNil)))))
  dNext)
  (dRetP (dCallE F_read_paper (dCons (dKeep (dVar 0)) (dCons (dKeep (dVar 1)) (dCons (dKeep (dVar 2)) dNil))))))
def m_law_digits : DSM :=
  (dSeq (dIfS (dNot (dB (dChain mLtA mLeA (dC (.int 0)) (dCB mLen (dCons (dVar 0) dNil)) (dVar 1))))
  (dRet (dC .non))
  dNext)
  (dSeq (dFor (dOverS (dVar 0)) (dName 2)
  (dIfS (dNot (dB (dChain mLeA mLeA (dC (.str "0")) (dVar 2) (dC (.str "9")))))
  (dRet (dC .non))
  dNext))
  (dSeq (dIfS (dAnd (dB (dOp mEq (dOp mIx (dVar 0) (dC (.int 0))) (dC (.str "0")))) (dB (dOp mGtA (dCB mLen (dCons (dVar 0) dNil)) (dC (.int 1)))))
  (dRet (dC .non))
  dNext)
  (dRet (dCB mInt (dCons (dVar 0) dNil))))))
def m_law_bad (F_law_digits : FM) : DSM :=
  (dSeq (dSet 4 (dLst (dCons (dKeep (dC (.str "head"))) dNil)))
  (dSeq (dFor (dRng1 (dCB mLen (dCons (dVar 0) dNil))) (dName 5)
  (dSeq (dIfS (dB (dOp mEq (dCB mLen (dCons (dVar 4) dNil)) (dC (.int 0))))
  (dRet (dVar 5))
  dNext)
  (dSeq (dSet 6 (dM1 mSplit (dOp mIx (dVar 0) (dVar 5)) (dC (.str " "))))
  (dSeq (dSetP 7 (dPopF 4))
  (dIfS (dB (dOp mEq (dVar 7) (dC (.str "head"))))
  (dSeq (dSet 8 (dOp mIx (dTup (dCons (dKeep (dOp mAdd (dVar 1) (dC (.int 1)))) (dCons (dKeep (dOp mMul (dVar 1) (dVar 2))) dNil))) (dCB mInt (dCons (dVar 3) dNil))))
  (dSeq (dSet 4 (dOp mRep (dLst (dCons (dKeep (dC (.str "row"))) dNil)) (dVar 8)))
  (dIfS (dB (dOp mNe (dVar 6) (dLst (dCons (dKeep (dC (.str "none"))) dNil))))
  (dSeq (dSet 4 (dOp mAdd (dLst (dCons (dKeep (dC (.str "labels"))) dNil)) (dVar 4)))
  (dIfS (dOr (dB (dOp mNe (dCB mLen (dCons (dVar 6) dNil)) (dC (.int 2)))) (dOr (dB (dOp mNe (dOp mIx (dVar 6) (dC (.int 0))) (dC (.str "best")))) (dB (dOp mIs (dCall F_law_digits (dCons (dKeep (dOp mIx (dVar 6) (dC (.int 1)))) (dCons (dKeep (dC (.int 9))) dNil))) (dC .non)))))
  (dRet (dVar 5))
  dNext))
  dNext)))
  (dIfS (dB (dOp mEq (dVar 7) (dC (.str "labels"))))
  (dSeq (dSet 9 (dLc (dOver (dVar 6)) [10] (dName 10) dYes (dCall F_law_digits (dCons (dKeep (dVar 10)) (dCons (dKeep (dC (.int 1))) dNil)))))
  (dIfS (dOr (dB (dOp mIn (dC .non) (dVar 9))) (dOr (dB (dOp mNe (dCB mLen (dCons (dVar 9) dNil)) (dVar 1))) (dB (dOp mGeA (dCB mMax1 (dCons (dVar 9) dNil)) (dVar 2)))))
  (dRet (dVar 5))
  dNext))
  (dSeq (dSet 9 (dLc (dOver (dVar 6)) [10] (dName 10) (dAnd (dB (dOp mNe (dVar 10) (dC (.str "-")))) (dB (dOp mIs (dCall F_law_digits (dCons (dKeep (dVar 10)) (dCons (dKeep (dC (.int 9))) dNil))) (dC .non)))) (dVar 10)))
  (dIfS (dOr (dB (dOp mGtA (dCB mLen (dCons (dVar 9) dNil)) (dC (.int 0)))) (dB (dOp mNe (dCB mLen (dCons (dVar 6) dNil)) (dVar 2))))
  (dRet (dVar 5))
  dNext))))))))
  (dSeq (dIfS (dB (dOp mGtA (dCB mLen (dCons (dVar 4) dNil)) (dC (.int 0))))
  (dRet (dCB mLen (dCons (dVar 0) dNil)))
  dNext)
  (dRet (dC .non)))))
def m_law_menu (F_law_draw : FM) : DSM :=
  (dSeq (dSet 2 (dLst (dCons (dKeep (dC (.str "best"))) (dCons (dKeep (dC (.str "none"))) (dCons (dKeep (dC (.str "-"))) (dCons (dKeep (dC (.str "--"))) (dCons (dKeep (dC (.str "0"))) (dCons (dKeep (dC (.str "1"))) (dCons (dKeep (dC (.str "2"))) (dCons (dKeep (dC (.str "7"))) (dCons (dKeep (dC (.str "8"))) (dCons (dKeep (dC (.str "9"))) (dCons (dKeep (dC (.str "00"))) (dCons (dKeep (dC (.str "01"))) (dCons (dKeep (dC (.str "-1"))) (dCons (dKeep (dC (.str "+1"))) (dCons (dKeep (dC (.str "1_0"))) (dCons (dKeep (dC (.str ""))) (dCons (dKeep (dC (.str "x"))) (dCons (dKeep (dC (.str "1/2"))) (dCons (dKeep (dC (.str "Best"))) (dCons (dKeep (dC (.str "bests"))) dNil))))))))))))))))))))))
  (dSeq (dSet 2 (dOp mAdd (dOp mAdd (dVar 2) (dLst (dCons (dKeep (dC (.str "1\n"))) (dCons (dKeep (dC (.str "\t1"))) (dCons (dKeep (dC (.str "999999999"))) (dCons (dKeep (dC (.str "1000000000"))) (dCons (dKeep (dC (.str "-0"))) dNil))))))) (dVar 1)))
  (dRet (dOp mIx (dVar 2) (dCall F_law_draw (dCons (dKeep (dVar 0)) (dCons (dKeep (dCB mLen (dCons (dVar 2) dNil))) dNil)))))))
def m_law_changed (F_law_draw : FM) (F_law_menu : FM) : DSM :=
  (dSeq (dFor (dRng1 (dCall F_law_draw (dCons (dKeep (dVar 0)) (dCons (dKeep (dC (.int 4))) dNil)))) (dName 2)
  (dSeq (dSet 3 (dCall F_law_draw (dCons (dKeep (dVar 0)) (dCons (dKeep (dOp mAdd (dCB mLen (dCons (dVar 1) dNil)) (dC (.int 1)))) dNil))))
  (dSeq (dSet 4 (dCall F_law_draw (dCons (dKeep (dVar 0)) (dCons (dKeep (dOp mAdd (dCB mLen (dCons (dVar 1) dNil)) (dC (.int 1)))) dNil))))
  (dSeq (dSet 5 (dM1 mSplit (dM1 mJoin (dC (.str " ")) (dSl (dVar 1) (dPart (dVar 3)) (dPart (dOp mAdd (dVar 3) (dC (.int 1)))))) (dC (.str " "))))
  (dSeq (dSet 6 (dCall F_law_draw (dCons (dKeep (dVar 0)) (dCons (dKeep (dCB mLen (dCons (dVar 5) dNil))) dNil))))
  (dSeq (dSet 7 (dCall F_law_draw (dCons (dKeep (dVar 0)) (dCons (dKeep (dC (.int 10))) dNil))))
  (dSeq (dIfS (dB (dOp mEq (dVar 7) (dC (.int 0))))
  (dSet 1 (dOp mAdd (dSl (dVar 1) dNoPart (dPart (dVar 3))) (dSl (dVar 1) (dPart (dOp mAdd (dVar 3) (dC (.int 1)))) dNoPart)))
  (dIfS (dB (dOp mEq (dVar 7) (dC (.int 1))))
  (dSet 1 (dOp mAdd (dOp mAdd (dSl (dVar 1) dNoPart (dPart (dVar 3))) (dSl (dVar 1) (dPart (dVar 4)) (dPart (dOp mAdd (dVar 4) (dC (.int 1)))))) (dSl (dVar 1) (dPart (dVar 3)) dNoPart)))
  (dIfS (dB (dOp mEq (dVar 7) (dC (.int 2))))
  (dSet 1 (dOp mAdd (dOp mAdd (dSl (dVar 1) dNoPart (dPart (dVar 3))) (dLst (dCons (dKeep (dC (.str ""))) dNil))) (dSl (dVar 1) (dPart (dVar 3)) dNoPart)))
  (dIfS (dB (dOp mEq (dVar 7) (dC (.int 3))))
  (dSet 1 (dOp mAdd (dOp mAdd (dOp mAdd (dSl (dVar 1) dNoPart (dPart (dVar 3))) (dSl (dVar 1) (dPart (dOp mAdd (dVar 3) (dC (.int 1)))) (dPart (dOp mAdd (dVar 3) (dC (.int 2)))))) (dSl (dVar 1) (dPart (dVar 3)) (dPart (dOp mAdd (dVar 3) (dC (.int 1)))))) (dSl (dVar 1) (dPart (dOp mAdd (dVar 3) (dC (.int 2)))) dNoPart)))
  (dIfS (dB (dOp mEq (dVar 7) (dC (.int 4))))
  (dSet 5 (dOp mAdd (dSl (dVar 5) dNoPart (dPart (dVar 6))) (dSl (dVar 5) (dPart (dOp mAdd (dVar 6) (dC (.int 1)))) dNoPart)))
  (dIfS (dB (dOp mEq (dVar 7) (dC (.int 5))))
  (dSet 5 (dOp mAdd (dOp mAdd (dSl (dVar 5) dNoPart (dPart (dVar 6))) (dLst (dCons (dKeep (dCall F_law_menu (dCons (dKeep (dVar 0)) (dCons (dKeep (dVar 5)) dNil)))) dNil))) (dSl (dVar 5) (dPart (dVar 6)) dNoPart)))
  (dIfS (dB (dOp mEq (dVar 7) (dC (.int 6))))
  (dSeq (dSet 8 (dOp mIx (dVar 5) (dVar 6)))
  (dSeq (dSet 9 (dCall F_law_draw (dCons (dKeep (dVar 0)) (dCons (dKeep (dOp mAdd (dCB mLen (dCons (dVar 8) dNil)) (dC (.int 1)))) dNil))))
  (dSeq (dSet 10 (dC (.str "0123456789-+_ .abenost\t\n")))
  (dSeq (dSet 8 (dOp mAdd (dOp mAdd (dSl (dVar 8) dNoPart (dPart (dVar 9))) (dOp mIx (dVar 10) (dCall F_law_draw (dCons (dKeep (dVar 0)) (dCons (dKeep (dCB mLen (dCons (dVar 10) dNil))) dNil))))) (dSl (dVar 8) (dPart (dOp mAdd (dVar 9) (dCall F_law_draw (dCons (dKeep (dVar 0)) (dCons (dKeep (dC (.int 2))) dNil))))) dNoPart)))
  (dSet 5 (dOp mAdd (dOp mAdd (dSl (dVar 5) dNoPart (dPart (dVar 6))) (dLst (dCons (dKeep (dVar 8)) dNil))) (dSl (dVar 5) (dPart (dOp mAdd (dVar 6) (dC (.int 1)))) dNoPart)))))))
  (dSet 5 (dOp mAdd (dOp mAdd (dSl (dVar 5) dNoPart (dPart (dVar 6))) (dLst (dCons (dKeep (dCall F_law_menu (dCons (dKeep (dVar 0)) (dCons (dKeep (dVar 5)) dNil)))) dNil))) (dSl (dVar 5) (dPart (dOp mAdd (dVar 6) (dC (.int 1)))) dNoPart))))))))))
  (dIfS (dAnd (dB (dOp mGtA (dVar 7) (dC (.int 3)))) (dB (dOp mLtA (dVar 3) (dCB mLen (dCons (dVar 1) dNil)))))
  (dSet 1 (dOp mAdd (dOp mAdd (dSl (dVar 1) dNoPart (dPart (dVar 3))) (dLst (dCons (dKeep (dM1 mJoin (dC (.str " ")) (dVar 5))) dNil))) (dSl (dVar 1) (dPart (dOp mAdd (dVar 3) (dC (.int 1)))) dNoPart)))
  dNext))))))))
  (dRet (dVar 1)))
def m_law (K : PySem.W.Frag) (a : Ad) (F_law_pool : FM) (F_law_draw : FM) (F_law_drawn : FM) (F_law_changed : FM) (F_law_bad : FM) (F_paper_lines : FM) (F_law_same : FM) (FH_law_same : FM) (F_law_read : FME) : DSM :=
  (dPool 1 (dCall F_law_pool (dCons (dKeep (dVar 0)) (dCons (dKeep (dC (.int 0))) dNil)))
  (dSeq (dSet 2 (dOp mEq (dCall F_law_draw (dCons (dKeep (dVar 1)) (dCons (dKeep (dC (.int 2))) dNil))) (dC (.int 1))))
  (dSeq (dSet 3 (dOp mAdd (dC (.int 1)) (dCall F_law_draw (dCons (dKeep (dVar 1)) (dCons (dKeep (dOp mIx (dTup (dCons (dKeep (dC (.int 4))) (dCons (dKeep (dC (.int 8))) dNil))) (dCB mInt (dCons (dOp mEq (dCall F_law_draw (dCons (dKeep (dVar 1)) (dCons (dKeep (dC (.int 4))) dNil))) (dC (.int 0))) dNil)))) dNil)))))
  (dSeq (dSet 4 (dOp mAdd (dC (.int 1)) (dCall F_law_draw (dCons (dKeep (dVar 1)) (dCons (dKeep (dC (.int 4))) dNil)))))
  (dSeq (dSet 5 (dCall F_law_changed (dCons (dKeep (dVar 1)) (dCons (dKeep (dOp mIx (dCall F_law_drawn (dCons (dKeep (dVar 1)) (dCons (dKeep (dVar 4)) (dCons (dKeep (dVar 3)) (dCons (dKeep (dVar 2)) dNil))))) (dC (.int 0)))) dNil))))
  (dSeq (dSet 6 (dCall F_law_bad (dCons (dKeep (dVar 5)) (dCons (dKeep (dVar 4)) (dCons (dKeep (dVar 3)) (dCons (dKeep (dVar 2)) dNil))))))
  (dSeq (dTryG K (.ref a.e_ObjectError) 7 8 F_paper_lines F_law_read (dCons (dKeep (dVar 4)) (dCons (dKeep (dVar 3)) (dCons (dKeep (dCB mList (dCons (dVar 5) dNil))) (dCons (dKeep (dVar 2)) dNil)))) (fun e0 cls d =>
  (dSeq (dIfS (dOr (dNot (dTru (dIsErr e0 cls d a.x_BadPaper true 8))) (dOr (dNot (dTru (dIsErr e0 cls d a.x_BadPaper true 8))) (dTru (dIsErr e0 cls d a.x_BadPaper false 8))))
  (dRet (dC (.bl false)))
  dNext)
  (dRet (dAndV (dOp mIsN (dVar 6) (dC .non)) (dCall FH_law_same (dCons (dKeep (dErrF e0 cls d a.x_BadPaper "at" 8)) (dCons (dKeep (dVar 6)) dNil))))))))
  (dRet (dAndV (dOp mIs (dVar 6) (dC .non)) (dCall F_law_same (dCons (dKeep (dVar 7)) (dCons (dKeep (dVar 5)) dNil))))))))))))
def mh_law_same : DSM :=
  (dSeq (dIfS (dOr (dTru (dIsi .tuple (dVar 1))) (dTru (dIsi .list (dVar 1))))
  (dSeq (dIfS (dOr (dB (dOp mNe (dIsi .tuple (dVar 1)) (dIsi .tuple (dVar 0)))) (dB (dOp mNe (dIsi .list (dVar 1)) (dIsi .list (dVar 0)))))
  (dRet (dC (.bl false)))
  dNext)
  (dSeq (dIfS (dB (dOp mNe (dCB mLen (dCons (dVar 0) dNil)) (dCB mLen (dCons (dVar 1) dNil))))
  (dRet (dC (.bl false)))
  dNext)
  (dSeq dNever
  (dRet (dC (.bl true))))))
  dNext)
  (dSeq (dIfS (dOr (dB (dOp mIs (dVar 1) (dC .non))) (dTru (dIsi .bool (dVar 1))))
  (dRet (dAndV (dOp mEq (dOp mIs (dVar 0) (dC .non)) (dOp mIs (dVar 1) (dC .non))) (dAndV (dOrV (dOp mIs (dVar 1) (dC .non)) (dIsi .bool (dVar 0))) (dOp mEq (dVar 0) (dVar 1)))))
  dNext)
  (dSeq (dIfS (dTru (dIsi .int (dVar 1)))
  (dRet (dAndV (dIsi .int (dVar 0)) (dAndV (dNotV (dIsi .bool (dVar 0))) (dOp mEq (dVar 0) (dVar 1)))))
  dNext)
  (dRet (dAndV (dIsi .str (dVar 0)) (dOp mEq (dVar 0) (dVar 1)))))))
structure Tx (K : PySem.W.Frag) (mg : Str → Option Value) (a : Ad) : Prop where
  n_ValueError : mg "ValueError" = none
  n_all : mg "all" = none
  n_bool : mg "bool" = none
  n_int : mg "int" = none
  n_isinstance : mg "isinstance" = none
  n_len : mg "len" = none
  n_list : mg "list" = none
  n_max : mg "max" = none
  n_range : mg "range" = none
  n_str : mg "str" = none
  n_super : mg "super" = none
  n_tuple : mg "tuple" = none
  f_copied : FnAt K mg "copied" "copied" s_copied a.f_copied a.d_copied ["rows"]
  f_Found_initdd : MeAt K a.Found "__init__" "Found.__init__" s_Found_initdd a.f_Found_initdd a.d_Found_initdd ["self", "kind", "cost", "labels", "numbers", "ends"]
  f_paper_lines : FnAt K mg "paper_lines" "paper_lines" s_paper_lines a.f_paper_lines a.d_paper_lines ["found"]
  f_row_line : FnAt K mg "row_line" "row_line" s_row_line a.f_row_line a.d_row_line ["row"]
  f_written : FnAt K mg "written" "written" s_written a.f_written a.d_written ["number"]
  f_read_paper : FnAt K mg "read_paper" "read_paper" s_read_paper a.f_read_paper a.d_read_paper ["count", "labels", "lines"]
  f_Lines_head : MeAt K a.Lines "head" "Lines.head" s_Lines_head a.f_Lines_head a.d_Lines_head ["self", "count", "labels"]
  f_Lines_rows : MeAt K a.Lines "rows" "Lines.rows" s_Lines_rows a.f_Lines_rows a.d_Lines_rows ["self", "count", "labels"]
  f_Lines_row : MeAt K a.Lines "row" "Lines.row" s_Lines_row a.f_Lines_row a.d_Lines_row ["self", "labels"]
  f_Lines_finish : MeAt K a.Lines "finish" "Lines.finish" s_Lines_finish a.f_Lines_finish a.d_Lines_finish ["self"]
  f_Lines_initdd : MeAt K a.Lines "__init__" "Lines.__init__" s_Lines_initdd a.f_Lines_initdd a.d_Lines_initdd ["self", "lines"]
  f_read_ring_paper : FnAt K mg "read_ring_paper" "read_ring_paper" s_read_ring_paper a.f_read_ring_paper a.d_read_ring_paper ["count", "labels", "lines"]
  f_Lines_take : MeAt K a.Lines "take" "Lines.take" s_Lines_take a.f_Lines_take a.d_Lines_take ["self"]
  f_Lines_need : MeAt K a.Lines "need" "Lines.need" s_Lines_need a.f_Lines_need a.d_Lines_need ["self", "holds"]
  f_is_number : FnAt K mg "is_number" "is_number" s_is_number a.f_is_number a.d_is_number ["word"]
  f_Lines_labels_told : MeAt K a.Lines "labels_told" "Lines.labels_told" s_Lines_labels_told a.f_Lines_labels_told a.d_Lines_labels_told ["self", "count", "labels"]
  f_law_pool : FnAt K mg "_law_pool" "_law_pool" s_law_pool a.f_law_pool a.d_law_pool ["script", "budget"]
  f_law_draw : FnAt K mg "_law_draw" "_law_draw" s_law_draw a.f_law_draw a.d_law_draw ["pool", "size"]
  f_law_same : FnAt K mg "_law_same" "_law_same" s_law_same a.f_law_same a.d_law_same ["actual", "due"]
  f_law_text : FnAt K mg "_law_text" "_law_text" s_law_text a.f_law_text a.d_law_text ["row"]
  f_law_entry : FnAt K mg "_law_entry" "_law_entry" s_law_entry a.f_law_entry a.d_law_entry ["pool"]
  f_law_drawn : FnAt K mg "_law_drawn" "_law_drawn" s_law_drawn a.f_law_drawn a.d_law_drawn ["pool", "count", "labels", "ring"]
  f_law_read : FnAt K mg "_law_read" "_law_read" s_law_read a.f_law_read a.d_law_read ["count", "labels", "lines", "ring"]
  f_law_digits : FnAt K mg "_law_digits" "_law_digits" s_law_digits a.f_law_digits a.d_law_digits ["word", "most"]
  f_law_bad : FnAt K mg "_law_bad" "_law_bad" s_law_bad a.f_law_bad a.d_law_bad ["lines", "count", "labels", "ring"]
  f_law_menu : FnAt K mg "_law_menu" "_law_menu" s_law_menu a.f_law_menu a.d_law_menu ["pool", "words"]
  f_law_changed : FnAt K mg "_law_changed" "_law_changed" s_law_changed a.f_law_changed a.d_law_changed ["pool", "lines"]
  f_law : FnAt K mg "law" "law" s_law a.f_law a.d_law ["script"]
  c_DIGITS : mg "DIGITS" = some (.str "0123456789" a.t_DIGITS)
  c_MOST_DIGITS : mg "MOST_DIGITS" = some (.int 9 a.t_MOST_DIGITS)
  cl_Found : Cls K a.Found
  cl_Lines : Cls K a.Lines
  no_Found_cost : NoAttr K a.Found "cost"
  no_Found_ends : NoAttr K a.Found "ends"
  no_Found_kind : NoAttr K a.Found "kind"
  no_Found_labels : NoAttr K a.Found "labels"
  no_Found_numbers : NoAttr K a.Found "numbers"
  no_Lines_at : NoAttr K a.Lines "at"
  no_Lines_lines : NoAttr K a.Lines "lines"
  mk_Lines : Mk K a.Lines a.f_Lines_initdd
  gC_Lines : mg "Lines" = some (.ref a.Lines)
  mk_Found : Mk K a.Found a.f_Found_initdd
  gC_Found : mg "Found" = some (.ref a.Found)
  gX_BadPaper : mg "BadPaper" = some (.ref a.x_BadPaper)
  gX_BadMachine : mg "BadMachine" = some (.ref a.x_BadMachine)
  gX_BadRule : mg "BadRule" = some (.ref a.x_BadRule)
  gX_BadText : mg "BadText" = some (.ref a.x_BadText)
  gX_TooLarge : mg "TooLarge" = some (.ref a.x_TooLarge)
  gE_ObjectError : mg "ObjectError" = some (.ref a.e_ObjectError)
  exo_BadPaper_ObjectError : PySem.W.exmOne K (.ref a.x_BadPaper) (.ref a.e_ObjectError) = some true
  ec_BadPaper : ExcC K a.x_BadPaper
  kitT_BadPaper : PySem.W.kitAny K (.ref a.x_BadPaper) [.ref a.x_BadMachine, .ref a.x_BadRule, .ref a.x_BadText, .ref a.x_TooLarge] = some false
  kit_BadPaper_ValueError : PySem.W.kitOne K (.ref a.x_BadPaper) (.type "ValueError") = some true
  kit_BadPaper_BadPaper : PySem.W.kitOne K (.ref a.x_BadPaper) (.ref a.x_BadPaper) = some true
  x_BadPaper : EX.ErrTxt PySem.Challenge.pw_someobjects_k71_whole_papers_are_read_ex K a.x_BadPaper a.i_BadPaper "at" "the paper does not go on like this at line "
section
variable {P : Program} {w : World} {K : PySem.W.Frag} {mg : Str → Option Value} {base : Heap} {a : Ad}
theorem b_copied (T : Tx K mg a) {k : Nat} {F_copied : FM} (h_copied : FnOk P w K mg base CX0 k a.f_copied a.d_copied ["rows"] (spF K 1 F_copied)) : FnOk P w K mg base CX0 (k + 1) a.f_copied a.d_copied ["rows"] (spF K 1 (bodyF 2 (m_copied F_copied))) := by
  exact fn_d T.f_copied.fn sc_copied fun cdv A outer s H E hr => ⟨_, (dss_one (ds_ret (de_lc [("row", 1)] rfl sc_copied.nd (di_over (de_var 0 (pv 0))) (blkOk_by (own := [("row", 1)]) (N := N_copied) (sc := defScope s_copied) (by decide +kernel)) (fun _ _ _ _ _ => (dg_name (i := 1) sc_copied.nd rfl (Or.inl rfl))) (fun _ _ _ _ _ => dts_nil) (fun _ _ _ _ _ => (de_if (dt_tru (de_isis (Ts := [.list, .tuple]) rfl T.n_isinstance (de_var 1 (pv 1)) (by decide) (pa_cons (pe_bltn rfl T.n_list (by decide +kernel) rfl) (pa_cons (pe_bltn rfl T.n_tuple (by decide +kernel) rfl) pa_nil)))) (de_call h_copied hr (by rfl) T.f_copied.g T.f_copied.k T.f_copied.b (da_cons (de_keep (de_var 1 (pv 1))) da_nil) rfl) (de_var 1 (pv 1)))) (tgin_name (by decide)) (gin_name (by decide)))))⟩
theorem b_Found_initdd (T : Tx K mg a) {k : Nat} {F_copied : FM} (h_copied : FnOk PySem.Challenge.pw_someobjects_k71_whole_papers_are_read_ex w K mg base CX0 k a.f_copied a.d_copied ["rows"] (spF K 1 F_copied)) : FnOk PySem.Challenge.pw_someobjects_k71_whole_papers_are_read_ex w K mg base (L2N.CX PySem.Challenge.pw_someobjects_k71_whole_papers_are_read_ex w) (k + 1) a.f_Found_initdd a.d_Found_initdd ["self", "kind", "cost", "labels", "numbers", "ends"] (spM K 6 (bodyM 6 (m_Found_initdd a F_copied))) := by
  exact fn_dM T.f_Found_initdd.fn sc_Found_initdd fun cdv A outer s H E hr => ⟨_, (dss_cons (ds_putA (i := 0) T.cl_Found T.no_Found_kind (pv 0) (de_var 1 (pv 1)))
  (dss_cons (ds_putA (i := 0) T.cl_Found T.no_Found_cost (pv 0) (de_var 2 (pv 2)))
  (dss_cons (ds_putA (i := 0) T.cl_Found T.no_Found_labels (pv 0) (de_call h_copied hr (by rfl) T.f_copied.g T.f_copied.k T.f_copied.b (da_cons (de_keep (de_var 3 (pv 3))) da_nil) rfl))
  (dss_cons (ds_putA (i := 0) T.cl_Found T.no_Found_numbers (pv 0) (de_call h_copied hr (by rfl) T.f_copied.g T.f_copied.k T.f_copied.b (da_cons (de_keep (de_var 4 (pv 4))) da_nil) rfl))
  (dss_one (ds_putA (i := 0) T.cl_Found T.no_Found_ends (pv 0) (de_call h_copied hr (by rfl) T.f_copied.g T.f_copied.k T.f_copied.b (da_cons (de_keep (de_var 5 (pv 5))) da_nil) rfl)))))))⟩
theorem b_paper_lines (T : Tx K mg a) {k : Nat} {F_row_line : FM} (h_row_line : FnOk P w K mg base CX0 k a.f_row_line a.d_row_line ["row"] (spF K 1 F_row_line)) {F_written : FM} (h_written : FnOk P w K mg base CX0 k a.f_written a.d_written ["number"] (spF K 1 F_written)) : FnOk P w K mg base CX0 (k + 1) a.f_paper_lines a.d_paper_lines ["found"] (spF K 1 (bodyF 5 (m_paper_lines a F_row_line F_written))) := by
  exact fn_d T.f_paper_lines.fn sc_paper_lines fun cdv A outer s H E hr => ⟨_, (dss_cons (ds_set (i := 1) sc_paper_lines.nd rfl (Or.inl rfl) (de_lst (da_cons (de_keep de_str) da_nil)))
  (dss_cons (ds_if (dt_cmp (op_eqD hr.units) opd_eq (de_fld T.cl_Found T.no_Found_kind (de_var 0 (pv 0))) de_str (nomark _))
  (dss_one (ds_set (i := 1) sc_paper_lines.nd rfl (Or.inl rfl) (de_lst (da_cons (de_keep (de_joined (DJ.cons de_str (DJ.cons (de_fmt (de_call h_written hr (by rfl) T.f_written.g T.f_written.k T.f_written.b (da_cons (de_keep (de_fld T.cl_Found T.no_Found_cost (de_var 0 (pv 0)))) da_nil) rfl)) DJ.nil)))) (da_cons (de_keep (de_call h_row_line hr (by rfl) T.f_row_line.g T.f_row_line.k T.f_row_line.b (da_cons (de_keep (de_fld T.cl_Found T.no_Found_labels (de_var 0 (pv 0)))) da_nil) rfl)) da_nil)))))
  dss_nil)
  (dss_cons (ds_if (dt_tru (de_fld T.cl_Found T.no_Found_ends (de_var 0 (pv 0))))
  (dss_one (ds_set (i := 2) sc_paper_lines.nd rfl (Or.inl rfl) (de_lstS (das_star (de_fld T.cl_Found T.no_Found_numbers (de_var 0 (pv 0))) (das_cons (de_keep (de_fld T.cl_Found T.no_Found_ends (de_var 0 (pv 0)))) (das_of da_nil))))))
  (dss_one (ds_setLc2 (i := 2) [("run", 3), ("row", 4)] [4] rfl rfl (sw_true rfl rfl rfl (by decide +kernel)) rfl sc_paper_lines.nd (di_over (de_fld T.cl_Found T.no_Found_numbers (de_var 0 (pv 0)))) (blkOk_by (own := [("run", 3), ("row", 4)]) (N := N_paper_lines) (sc := defScope s_paper_lines) (by decide +kernel)) (by decide) (fun _ _ _ _ _ => (dg_name (i := 3) sc_paper_lines.nd rfl (Or.inl rfl))) (fun _ _ _ _ _ => (di_over (de_var 3 (pv 3)))) (fun _ _ _ _ _ => (dg_name (i := 4) sc_paper_lines.nd rfl (Or.inl rfl))) (fun _ _ _ _ _ => (de_var 4 (pv 4))) (tgin_name (by decide)) (gin_name (by decide)) (tgin_name (by decide)) (gin_name (by decide)))))
  (dss_one (ds_ret (de_op op_addA opd_add (de_var 1 (pv 1)) (de_lc [("row", 4)] rfl sc_paper_lines.nd (di_over (de_var 2 (pv 2))) (blkOk_by (own := [("row", 4)]) (N := N_paper_lines) (sc := defScope s_paper_lines) (by decide +kernel)) (fun _ _ _ _ _ => (dg_name (i := 4) sc_paper_lines.nd rfl (Or.inl rfl))) (fun _ _ _ _ _ => dts_nil) (fun _ _ _ _ _ => (de_call h_row_line hr (by rfl) T.f_row_line.g T.f_row_line.k T.f_row_line.b (da_cons (de_keep (de_var 4 (pv 4))) da_nil) rfl)) (tgin_name (by decide)) (gin_name (by decide)))))))))⟩
theorem b_row_line (T : Tx K mg a) {k : Nat} {F_written : FM} (h_written : FnOk P w K mg base CX0 k a.f_written a.d_written ["number"] (spF K 1 F_written)) : FnOk P w K mg base CX0 (k + 1) a.f_row_line a.d_row_line ["row"] (spF K 1 (bodyF 2 (m_row_line F_written))) := by
  exact fn_d T.f_row_line.fn sc_row_line fun cdv A outer s H E hr => ⟨_, (dss_one (ds_ret (de_join de_str (de_lc [("number", 1)] rfl sc_row_line.nd (di_over (de_var 0 (pv 0))) (blkOk_by (own := [("number", 1)]) (N := N_row_line) (sc := defScope s_row_line) (by decide +kernel)) (fun _ _ _ _ _ => (dg_name (i := 1) sc_row_line.nd rfl (Or.inl rfl))) (fun _ _ _ _ _ => dts_nil) (fun _ _ _ _ _ => (de_call h_written hr (by rfl) T.f_written.g T.f_written.k T.f_written.b (da_cons (de_keep (de_var 1 (pv 1))) da_nil) rfl)) (tgin_name (by decide)) (gin_name (by decide))))))⟩
theorem b_written (T : Tx K mg a) {k : Nat} : FnOk P w K mg base CX0 (k + 1) a.f_written a.d_written ["number"] (spF K 1 (bodyF 1 (m_written))) := by
  exact fn_d T.f_written.fn sc_written fun cdv A outer s H E hr => ⟨_, (dss_one (ds_ret (de_if (dt_cmp op_isN opd_is (de_var 0 (pv 0)) de_non (nomark _)) de_str (de_callTy call_str_int cd_str (by rfl) T.n_str (by decide +kernel) (da_cons (de_var 0 (pv 0)) da_nil)))))⟩
theorem b_read_paper (T : Tx K mg a) {k : Nat} {F_Lines_head : FMM} (h_Lines_head : FnOk PySem.Challenge.pw_someobjects_k71_whole_papers_are_read_ex w K mg base (L2N.CX PySem.Challenge.pw_someobjects_k71_whole_papers_are_read_ex w) (k + 1) a.f_Lines_head a.d_Lines_head ["self", "count", "labels"] (spM K 3 F_Lines_head)) {F_Lines_rows : FMM} (h_Lines_rows : FnOk PySem.Challenge.pw_someobjects_k71_whole_papers_are_read_ex w K mg base (L2N.CX PySem.Challenge.pw_someobjects_k71_whole_papers_are_read_ex w) (k + 1) a.f_Lines_rows a.d_Lines_rows ["self", "count", "labels"] (spM K 3 F_Lines_rows)) {F_Lines_row : FMM} (h_Lines_row : FnOk PySem.Challenge.pw_someobjects_k71_whole_papers_are_read_ex w K mg base (L2N.CX PySem.Challenge.pw_someobjects_k71_whole_papers_are_read_ex w) (k + 1) a.f_Lines_row a.d_Lines_row ["self", "labels"] (spM K 2 F_Lines_row)) {F_Lines_finish : FMM} (h_Lines_finish : FnOk PySem.Challenge.pw_someobjects_k71_whole_papers_are_read_ex w K mg base (L2N.CX PySem.Challenge.pw_someobjects_k71_whole_papers_are_read_ex w) (k + 1) a.f_Lines_finish a.d_Lines_finish ["self"] (spM K 1 F_Lines_finish)) {F_Lines_initdd : FMM} (h_Lines_initdd : FnOk PySem.Challenge.pw_someobjects_k71_whole_papers_are_read_ex w K mg base (L2N.CX PySem.Challenge.pw_someobjects_k71_whole_papers_are_read_ex w) k a.f_Lines_initdd a.d_Lines_initdd ["self", "lines"] (spM K 2 F_Lines_initdd)) {F_Found_initdd : FMM} (h_Found_initdd : FnOk PySem.Challenge.pw_someobjects_k71_whole_papers_are_read_ex w K mg base (L2N.CX PySem.Challenge.pw_someobjects_k71_whole_papers_are_read_ex w) k a.f_Found_initdd a.d_Found_initdd ["self", "kind", "cost", "labels", "numbers", "ends"] (spM K 6 F_Found_initdd)) : FnOk PySem.Challenge.pw_someobjects_k71_whole_papers_are_read_ex w K mg base (L2N.CX PySem.Challenge.pw_someobjects_k71_whole_papers_are_read_ex w) (k + 2) a.f_read_paper a.d_read_paper ["count", "labels", "lines"] (spE K 3 (bodyE 9 (m_read_paper a F_Lines_head F_Lines_rows F_Lines_row F_Lines_finish F_Lines_initdd F_Found_initdd))) := by
  exact fn_dE T.f_read_paper.fn sc_read_paper fun cdv A outer s H E hr => ⟨_, (dss_cons (ds_setM (i := 3) T.mk_Lines h_Lines_initdd hr (by rfl) T.gC_Lines T.f_Lines_initdd.b (da_cons (de_keep (de_var 2 (pv 2))) da_nil) rfl sc_read_paper.nd rfl (Or.inl rfl))
  (dss_cons (ds_asgP (dp_meth (i := 3) T.cl_Lines T.f_Lines_head.m h_Lines_head hr T.f_Lines_head.b (pv 3) (da_cons (de_keep (de_var 0 (pv 0))) (da_cons (de_keep (de_var 1 (pv 1))) da_nil)) rfl) (dg_tup rfl (dgs_cons (dg_name (i := 4) sc_read_paper.nd rfl (Or.inl rfl)) (dgs_cons (dg_name (i := 5) sc_read_paper.nd rfl (Or.inl rfl)) (dgs_cons (dg_name (i := 6) sc_read_paper.nd rfl (Or.inl rfl)) dgs_nil)))))
  (dss_cons (ds_setP (i := 7) (dp_meth (i := 3) T.cl_Lines T.f_Lines_rows.m h_Lines_rows hr T.f_Lines_rows.b (pv 3) (da_cons (de_keep (de_var 0 (pv 0))) (da_cons (de_keep (de_var 1 (pv 1))) da_nil)) rfl) sc_read_paper.nd rfl (Or.inl rfl))
  (dss_cons (ds_setP (i := 8) (dp_meth (i := 3) T.cl_Lines T.f_Lines_row.m h_Lines_row hr T.f_Lines_row.b (pv 3) (da_cons (de_keep (de_var 1 (pv 1))) da_nil) rfl) sc_read_paper.nd rfl (Or.inl rfl))
  (dss_cons (ds_exprP (dp_meth0 (i := 3) T.cl_Lines T.f_Lines_finish.m h_Lines_finish hr T.f_Lines_finish.b (pv 3)))
  (dss_one (ds_ret (de_keep (de_make T.mk_Found h_Found_initdd hr (by rfl) T.gC_Found T.f_Found_initdd.b (da_cons (de_keep (de_var 4 (pv 4))) (da_cons (de_keep (de_var 5 (pv 5))) (da_cons (de_keep (de_var 6 (pv 6))) (da_cons (de_keep (de_var 7 (pv 7))) (da_cons (de_keep (de_var 8 (pv 8))) da_nil))))) rfl)))))))))⟩
theorem b_read_ring_paper (T : Tx K mg a) {k : Nat} {F_Lines_head : FMM} (h_Lines_head : FnOk PySem.Challenge.pw_someobjects_k71_whole_papers_are_read_ex w K mg base (L2N.CX PySem.Challenge.pw_someobjects_k71_whole_papers_are_read_ex w) (k + 1) a.f_Lines_head a.d_Lines_head ["self", "count", "labels"] (spM K 3 F_Lines_head)) {F_Lines_rows : FMM} (h_Lines_rows : FnOk PySem.Challenge.pw_someobjects_k71_whole_papers_are_read_ex w K mg base (L2N.CX PySem.Challenge.pw_someobjects_k71_whole_papers_are_read_ex w) (k + 1) a.f_Lines_rows a.d_Lines_rows ["self", "count", "labels"] (spM K 3 F_Lines_rows)) {F_Lines_finish : FMM} (h_Lines_finish : FnOk PySem.Challenge.pw_someobjects_k71_whole_papers_are_read_ex w K mg base (L2N.CX PySem.Challenge.pw_someobjects_k71_whole_papers_are_read_ex w) (k + 1) a.f_Lines_finish a.d_Lines_finish ["self"] (spM K 1 F_Lines_finish)) {F_Lines_initdd : FMM} (h_Lines_initdd : FnOk PySem.Challenge.pw_someobjects_k71_whole_papers_are_read_ex w K mg base (L2N.CX PySem.Challenge.pw_someobjects_k71_whole_papers_are_read_ex w) k a.f_Lines_initdd a.d_Lines_initdd ["self", "lines"] (spM K 2 F_Lines_initdd)) {F_Found_initdd : FMM} (h_Found_initdd : FnOk PySem.Challenge.pw_someobjects_k71_whole_papers_are_read_ex w K mg base (L2N.CX PySem.Challenge.pw_someobjects_k71_whole_papers_are_read_ex w) k a.f_Found_initdd a.d_Found_initdd ["self", "kind", "cost", "labels", "numbers", "ends"] (spM K 6 F_Found_initdd)) : FnOk PySem.Challenge.pw_someobjects_k71_whole_papers_are_read_ex w K mg base (L2N.CX PySem.Challenge.pw_someobjects_k71_whole_papers_are_read_ex w) (k + 2) a.f_read_ring_paper a.d_read_ring_paper ["count", "labels", "lines"] (spE K 3 (bodyE 9 (m_read_ring_paper a F_Lines_head F_Lines_rows F_Lines_finish F_Lines_initdd F_Found_initdd))) := by
  exact fn_dE T.f_read_ring_paper.fn sc_read_ring_paper fun cdv A outer s H E hr => ⟨_, (dss_cons (ds_setM (i := 3) T.mk_Lines h_Lines_initdd hr (by rfl) T.gC_Lines T.f_Lines_initdd.b (da_cons (de_keep (de_var 2 (pv 2))) da_nil) rfl sc_read_ring_paper.nd rfl (Or.inr rfl))
  (dss_cons (ds_asgP (dp_meth (i := 3) T.cl_Lines T.f_Lines_head.m h_Lines_head hr T.f_Lines_head.b (pv 3) (da_cons (de_keep (de_var 0 (pv 0))) (da_cons (de_keep (de_var 1 (pv 1))) da_nil)) rfl) (dg_tup rfl (dgs_cons (dg_name (i := 4) sc_read_ring_paper.nd rfl (Or.inl rfl)) (dgs_cons (dg_name (i := 5) sc_read_ring_paper.nd rfl (Or.inl rfl)) (dgs_cons (dg_name (i := 6) sc_read_ring_paper.nd rfl (Or.inl rfl)) dgs_nil)))))
  (dss_cons (ds_setLcP (i := 7) [("_", 8)] rfl rfl rfl sc_read_ring_paper.nd rfl rfl (sw_true rfl rfl rfl (by decide +kernel)) (di_rng1 rfl T.n_range (de_var 1 (pv 1))) (blkOk_by (own := [("_", 8)]) (N := N_read_ring_paper) (sc := defScope s_read_ring_paper) (by decide +kernel)) (fun _ _ => (dg_name (i := 8) sc_read_ring_paper.nd rfl (Or.inl rfl))) (fun _ _ => (dp_meth (i := 3) T.cl_Lines T.f_Lines_rows.m h_Lines_rows hr T.f_Lines_rows.b (pv 3) (da_cons (de_keep (de_var 0 (pv 0))) (da_cons (de_keep (de_var 1 (pv 1))) da_nil)) rfl)) (tgin_name (by decide)) (gin_name (by decide)))
  (dss_cons (ds_exprP (dp_meth0 (i := 3) T.cl_Lines T.f_Lines_finish.m h_Lines_finish hr T.f_Lines_finish.b (pv 3)))
  (dss_one (ds_ret (de_keep (de_make T.mk_Found h_Found_initdd hr (by rfl) T.gC_Found T.f_Found_initdd.b (da_cons (de_keep (de_var 4 (pv 4))) (da_cons (de_keep (de_var 5 (pv 5))) (da_cons (de_keep (de_var 6 (pv 6))) (da_cons (de_keep (de_var 7 (pv 7))) (da_cons (de_keep (de_lst da_nil)) da_nil))))) rfl))))))))⟩
theorem b_Lines_initdd (T : Tx K mg a) {k : Nat} : FnOk PySem.Challenge.pw_someobjects_k71_whole_papers_are_read_ex w K mg base (L2N.CX PySem.Challenge.pw_someobjects_k71_whole_papers_are_read_ex w) (k + 1) a.f_Lines_initdd a.d_Lines_initdd ["self", "lines"] (spM K 2 (bodyM 2 (m_Lines_initdd a))) := by
  exact fn_dM T.f_Lines_initdd.fn sc_Lines_initdd fun cdv A outer s H E hr => ⟨_, (dss_cons (ds_putA (i := 0) T.cl_Lines T.no_Lines_lines (pv 0) (de_var 1 (pv 1)))
  (dss_one (ds_putA (i := 0) T.cl_Lines T.no_Lines_at (pv 0) de_int)))⟩
theorem b_Lines_take (T : Tx K mg a) {k : Nat} {F_Lines_need : FMM} (h_Lines_need : FnOk PySem.Challenge.pw_someobjects_k71_whole_papers_are_read_ex w K mg base (L2N.CX PySem.Challenge.pw_someobjects_k71_whole_papers_are_read_ex w) k a.f_Lines_need a.d_Lines_need ["self", "holds"] (spM K 2 F_Lines_need)) : FnOk PySem.Challenge.pw_someobjects_k71_whole_papers_are_read_ex w K mg base (L2N.CX PySem.Challenge.pw_someobjects_k71_whole_papers_are_read_ex w) (k + 1) a.f_Lines_take a.d_Lines_take ["self"] (spM K 1 (bodyM 1 (m_Lines_take a F_Lines_need))) := by
  exact fn_dM T.f_Lines_take.fn sc_Lines_take fun cdv A outer s H E hr => ⟨_, (dss_cons (ds_exprP (dp_meth (i := 0) T.cl_Lines T.f_Lines_need.m h_Lines_need hr T.f_Lines_need.b (pv 0) (da_cons (de_keep (de_cmp op_ltA opd_S (de_fldF (i := 0) T.cl_Lines T.no_Lines_at (pv 0)) (de_callB call_len cd_len (by rfl) T.n_len (by decide +kernel) (da_cons (de_fldF (i := 0) T.cl_Lines T.no_Lines_lines (pv 0)) da_nil)) (nomark _))) da_nil) rfl))
  (dss_one (ds_ret (de_keep (de_split (de_ix ix_seq opd_ix (de_fldF (i := 0) T.cl_Lines T.no_Lines_lines (pv 0)) (de_fldF (i := 0) T.cl_Lines T.no_Lines_at (pv 0)) (fun _ _ => rfl)) de_str)))))⟩
theorem b_Lines_need (T : Tx K mg a) {k : Nat} : FnOk PySem.Challenge.pw_someobjects_k71_whole_papers_are_read_ex w K mg base (L2N.CX PySem.Challenge.pw_someobjects_k71_whole_papers_are_read_ex w) (k + 1) a.f_Lines_need a.d_Lines_need ["self", "holds"] (spM K 2 (bodyM 2 (m_Lines_need a))) := by
  exact fn_dM T.f_Lines_need.fn sc_Lines_need fun cdv A outer s H E hr => ⟨_, (dss_one (ds_if (dt_not (dt_tru (de_var 1 (pv 1))))
  (dss_one (ds_raise rfl T.x_BadPaper (Nat.le_of_ble_eq_true rfl) (Or.inl rfl) T.n_super T.gX_BadPaper hr (de_fldF (i := 0) T.cl_Lines T.no_Lines_at (pv 0)) (by rfl)))
  dss_nil))⟩
theorem b_Lines_head (T : Tx K mg a) {k : Nat} {F_is_number : FM} (h_is_number : FnOk PySem.Challenge.pw_someobjects_k71_whole_papers_are_read_ex w K mg base CX0 k a.f_is_number a.d_is_number ["word"] (spF K 1 F_is_number)) {F_Lines_take : FMM} (h_Lines_take : FnOk PySem.Challenge.pw_someobjects_k71_whole_papers_are_read_ex w K mg base (L2N.CX PySem.Challenge.pw_someobjects_k71_whole_papers_are_read_ex w) k a.f_Lines_take a.d_Lines_take ["self"] (spM K 1 F_Lines_take)) {F_Lines_need : FMM} (h_Lines_need : FnOk PySem.Challenge.pw_someobjects_k71_whole_papers_are_read_ex w K mg base (L2N.CX PySem.Challenge.pw_someobjects_k71_whole_papers_are_read_ex w) k a.f_Lines_need a.d_Lines_need ["self", "holds"] (spM K 2 F_Lines_need)) {F_Lines_labels_told : FMM} (h_Lines_labels_told : FnOk PySem.Challenge.pw_someobjects_k71_whole_papers_are_read_ex w K mg base (L2N.CX PySem.Challenge.pw_someobjects_k71_whole_papers_are_read_ex w) k a.f_Lines_labels_told a.d_Lines_labels_told ["self", "count", "labels"] (spM K 3 F_Lines_labels_told)) : FnOk PySem.Challenge.pw_someobjects_k71_whole_papers_are_read_ex w K mg base (L2N.CX PySem.Challenge.pw_someobjects_k71_whole_papers_are_read_ex w) (k + 1) a.f_Lines_head a.d_Lines_head ["self", "count", "labels"] (spM K 3 (bodyM 4 (m_Lines_head a F_is_number F_Lines_take F_Lines_need F_Lines_labels_told))) := by
  exact fn_dM T.f_Lines_head.fn sc_Lines_head fun cdv A outer s H E hr => ⟨_, (dss_cons (ds_setP (i := 3) (dp_meth0 (i := 0) T.cl_Lines T.f_Lines_take.m h_Lines_take hr T.f_Lines_take.b (pv 0)) sc_Lines_head.nd rfl (Or.inl rfl))
  (dss_cons (ds_if (dt_cmp (op_eqD hr.units) opd_eq (de_var 3 (pv 3)) (de_lst (da_cons (de_keep de_str) da_nil)) (nomark _))
  (dss_cons (ds_augA (i := 0) (o := fun x y => x + y) T.cl_Lines T.no_Lines_at (pv 0) de_int in_add aug_add)
  (dss_one (ds_ret (de_keep (de_tup (da_cons (de_keep de_str) (da_cons (de_keep de_non) (da_cons (de_keep (de_lst da_nil)) da_nil))))))))
  dss_nil)
  (dss_cons (ds_exprP (dp_meth (i := 0) T.cl_Lines T.f_Lines_need.m h_Lines_need hr T.f_Lines_need.b (pv 0) (da_cons (de_keep (de_and (de_cmp (op_eqD hr.units) opd_eq (de_callB call_len cd_len (by rfl) T.n_len (by decide +kernel) (da_cons (de_var 3 (pv 3)) da_nil)) de_int (nomark _)) (de_and (de_cmp (op_eqD hr.units) opd_eq (de_ix ix_seq opd_ix (de_var 3 (pv 3)) de_int (fun _ _ => rfl)) de_str (nomark _)) (de_one (de_call h_is_number hr (by rfl) T.f_is_number.g T.f_is_number.k T.f_is_number.b (da_cons (de_keep (de_ix ix_seq opd_ix (de_var 3 (pv 3)) de_int (fun _ _ => rfl))) da_nil) rfl))))) da_nil) rfl))
  (dss_cons (ds_augA (i := 0) (o := fun x y => x + y) T.cl_Lines T.no_Lines_at (pv 0) de_int in_add aug_add)
  (dss_one (ds_retP (dp_tup (dap_cons de_str (dap_cons (de_callTy call_intA cd_int (by rfl) T.n_int (by decide +kernel) (da_cons (de_ix ix_seq opd_ix (de_var 3 (pv 3)) de_int (fun _ _ => rfl)) da_nil)) (dap_end (dp_meth (i := 0) T.cl_Lines T.f_Lines_labels_told.m h_Lines_labels_told hr T.f_Lines_labels_told.b (pv 0) (da_cons (de_keep (de_var 1 (pv 1))) (da_cons (de_keep (de_var 2 (pv 2))) da_nil)) rfl)))))))))))⟩
theorem b_Lines_labels_told (T : Tx K mg a) {k : Nat} {F_is_number : FM} (h_is_number : FnOk PySem.Challenge.pw_someobjects_k71_whole_papers_are_read_ex w K mg base CX0 k a.f_is_number a.d_is_number ["word"] (spF K 1 F_is_number)) {F_Lines_take : FMM} (h_Lines_take : FnOk PySem.Challenge.pw_someobjects_k71_whole_papers_are_read_ex w K mg base (L2N.CX PySem.Challenge.pw_someobjects_k71_whole_papers_are_read_ex w) k a.f_Lines_take a.d_Lines_take ["self"] (spM K 1 F_Lines_take)) {F_Lines_need : FMM} (h_Lines_need : FnOk PySem.Challenge.pw_someobjects_k71_whole_papers_are_read_ex w K mg base (L2N.CX PySem.Challenge.pw_someobjects_k71_whole_papers_are_read_ex w) k a.f_Lines_need a.d_Lines_need ["self", "holds"] (spM K 2 F_Lines_need)) : FnOk PySem.Challenge.pw_someobjects_k71_whole_papers_are_read_ex w K mg base (L2N.CX PySem.Challenge.pw_someobjects_k71_whole_papers_are_read_ex w) (k + 1) a.f_Lines_labels_told a.d_Lines_labels_told ["self", "count", "labels"] (spM K 3 (bodyM 5 (m_Lines_labels_told a F_is_number F_Lines_take F_Lines_need))) := by
  exact fn_dM T.f_Lines_labels_told.fn sc_Lines_labels_told fun cdv A outer s H E hr => ⟨_, (dss_cons (ds_setP (i := 3) (dp_meth0 (i := 0) T.cl_Lines T.f_Lines_take.m h_Lines_take hr T.f_Lines_take.b (pv 0)) sc_Lines_labels_told.nd rfl (Or.inl rfl))
  (dss_cons (ds_exprP (dp_meth (i := 0) T.cl_Lines T.f_Lines_need.m h_Lines_need hr T.f_Lines_need.b (pv 0) (da_cons (de_keep (de_and (de_cmp (op_eqD hr.units) opd_eq (de_callB call_len cd_len (by rfl) T.n_len (by decide +kernel) (da_cons (de_var 3 (pv 3)) da_nil)) (de_var 1 (pv 1)) (nomark _)) (de_one (de_callB (cr_all (by rfl)) cd_all (by rfl) T.n_all (by decide +kernel) (da_cons (de_lc [("word", 4)] rfl sc_Lines_labels_told.nd (di_over (de_var 3 (pv 3))) (blkOk_by (own := [("word", 4)]) (N := N_Lines_labels_told) (sc := defScope s_Lines_labels_told) (by decide +kernel)) (fun _ _ _ _ _ => (dg_name (i := 4) sc_Lines_labels_told.nd rfl (Or.inl rfl))) (fun _ _ _ _ _ => dts_nil) (fun _ _ _ _ _ => (de_and (de_call h_is_number hr (by rfl) T.f_is_number.g T.f_is_number.k T.f_is_number.b (da_cons (de_keep (de_var 4 (pv 4))) da_nil) rfl) (de_one (de_cmp op_ltA opd_S (de_callTy call_intA cd_int (by rfl) T.n_int (by decide +kernel) (da_cons (de_var 4 (pv 4)) da_nil)) (de_var 2 (pv 2)) (nomark _))))) (tgin_name (by decide)) (gin_name (by decide))) da_nil))))) da_nil) rfl))
  (dss_cons (ds_augA (i := 0) (o := fun x y => x + y) T.cl_Lines T.no_Lines_at (pv 0) de_int in_add aug_add)
  (dss_one (ds_ret (de_keep (de_lc [("word", 4)] rfl sc_Lines_labels_told.nd (di_over (de_var 3 (pv 3))) (blkOk_by (own := [("word", 4)]) (N := N_Lines_labels_told) (sc := defScope s_Lines_labels_told) (by decide +kernel)) (fun _ _ _ _ _ => (dg_name (i := 4) sc_Lines_labels_told.nd rfl (Or.inl rfl))) (fun _ _ _ _ _ => dts_nil) (fun _ _ _ _ _ => (de_callTy call_intA cd_int (by rfl) T.n_int (by decide +kernel) (da_cons (de_var 4 (pv 4)) da_nil))) (tgin_name (by decide)) (gin_name (by decide)))))))))⟩
theorem b_Lines_rows (T : Tx K mg a) {k : Nat} {F_Lines_row : FMM} (h_Lines_row : FnOk PySem.Challenge.pw_someobjects_k71_whole_papers_are_read_ex w K mg base (L2N.CX PySem.Challenge.pw_someobjects_k71_whole_papers_are_read_ex w) k a.f_Lines_row a.d_Lines_row ["self", "labels"] (spM K 2 F_Lines_row)) : FnOk PySem.Challenge.pw_someobjects_k71_whole_papers_are_read_ex w K mg base (L2N.CX PySem.Challenge.pw_someobjects_k71_whole_papers_are_read_ex w) (k + 1) a.f_Lines_rows a.d_Lines_rows ["self", "count", "labels"] (spM K 3 (bodyM 4 (m_Lines_rows a F_Lines_row))) := by
  exact fn_dM T.f_Lines_rows.fn sc_Lines_rows fun cdv A outer s H E hr => ⟨_, (dss_one (ds_retP (dp_lc [("_", 3)] rfl rfl rfl sc_Lines_rows.nd (di_rng1 rfl T.n_range (de_var 1 (pv 1))) (blkOk_by (own := [("_", 3)]) (N := N_Lines_rows) (sc := defScope s_Lines_rows) (by decide +kernel)) (fun _ _ => (dg_name (i := 3) sc_Lines_rows.nd rfl (Or.inl rfl))) (fun _ _ => (dp_meth (i := 0) T.cl_Lines T.f_Lines_row.m h_Lines_row hr T.f_Lines_row.b (pv 0) (da_cons (de_keep (de_var 2 (pv 2))) da_nil) rfl)) (tgin_name (by decide)) (gin_name (by decide)))))⟩
theorem b_Lines_row (T : Tx K mg a) {k : Nat} {F_is_number : FM} (h_is_number : FnOk PySem.Challenge.pw_someobjects_k71_whole_papers_are_read_ex w K mg base CX0 k a.f_is_number a.d_is_number ["word"] (spF K 1 F_is_number)) {F_Lines_take : FMM} (h_Lines_take : FnOk PySem.Challenge.pw_someobjects_k71_whole_papers_are_read_ex w K mg base (L2N.CX PySem.Challenge.pw_someobjects_k71_whole_papers_are_read_ex w) k a.f_Lines_take a.d_Lines_take ["self"] (spM K 1 F_Lines_take)) {F_Lines_need : FMM} (h_Lines_need : FnOk PySem.Challenge.pw_someobjects_k71_whole_papers_are_read_ex w K mg base (L2N.CX PySem.Challenge.pw_someobjects_k71_whole_papers_are_read_ex w) k a.f_Lines_need a.d_Lines_need ["self", "holds"] (spM K 2 F_Lines_need)) : FnOk PySem.Challenge.pw_someobjects_k71_whole_papers_are_read_ex w K mg base (L2N.CX PySem.Challenge.pw_someobjects_k71_whole_papers_are_read_ex w) (k + 1) a.f_Lines_row a.d_Lines_row ["self", "labels"] (spM K 2 (bodyM 4 (m_Lines_row a F_is_number F_Lines_take F_Lines_need))) := by
  exact fn_dM T.f_Lines_row.fn sc_Lines_row fun cdv A outer s H E hr => ⟨_, (dss_cons (ds_setP (i := 2) (dp_meth0 (i := 0) T.cl_Lines T.f_Lines_take.m h_Lines_take hr T.f_Lines_take.b (pv 0)) sc_Lines_row.nd rfl (Or.inl rfl))
  (dss_cons (ds_exprP (dp_meth (i := 0) T.cl_Lines T.f_Lines_need.m h_Lines_need hr T.f_Lines_need.b (pv 0) (da_cons (de_keep (de_and (de_cmp (op_eqD hr.units) opd_eq (de_callB call_len cd_len (by rfl) T.n_len (by decide +kernel) (da_cons (de_var 2 (pv 2)) da_nil)) (de_var 1 (pv 1)) (nomark _)) (de_one (de_callB (cr_all (by rfl)) cd_all (by rfl) T.n_all (by decide +kernel) (da_cons (de_lc [("word", 3)] rfl sc_Lines_row.nd (di_over (de_var 2 (pv 2))) (blkOk_by (own := [("word", 3)]) (N := N_Lines_row) (sc := defScope s_Lines_row) (by decide +kernel)) (fun _ _ _ _ _ => (dg_name (i := 3) sc_Lines_row.nd rfl (Or.inl rfl))) (fun _ _ _ _ _ => dts_nil) (fun _ _ _ _ _ => (de_or (de_cmp (op_eqD hr.units) opd_eq (de_var 3 (pv 3)) de_str (nomark _)) (de_one (de_call h_is_number hr (by rfl) T.f_is_number.g T.f_is_number.k T.f_is_number.b (da_cons (de_keep (de_var 3 (pv 3))) da_nil) rfl)))) (tgin_name (by decide)) (gin_name (by decide))) da_nil))))) da_nil) rfl))
  (dss_cons (ds_augA (i := 0) (o := fun x y => x + y) T.cl_Lines T.no_Lines_at (pv 0) de_int in_add aug_add)
  (dss_one (ds_ret (de_keep (de_lc [("word", 3)] rfl sc_Lines_row.nd (di_over (de_var 2 (pv 2))) (blkOk_by (own := [("word", 3)]) (N := N_Lines_row) (sc := defScope s_Lines_row) (by decide +kernel)) (fun _ _ _ _ _ => (dg_name (i := 3) sc_Lines_row.nd rfl (Or.inl rfl))) (fun _ _ _ _ _ => dts_nil) (fun _ _ _ _ _ => (de_if (dt_cmp (op_eqD hr.units) opd_eq (de_var 3 (pv 3)) de_str (nomark _)) de_non (de_callTy call_intA cd_int (by rfl) T.n_int (by decide +kernel) (da_cons (de_var 3 (pv 3)) da_nil)))) (tgin_name (by decide)) (gin_name (by decide)))))))))⟩
theorem b_Lines_finish (T : Tx K mg a) {k : Nat} {F_Lines_need : FMM} (h_Lines_need : FnOk PySem.Challenge.pw_someobjects_k71_whole_papers_are_read_ex w K mg base (L2N.CX PySem.Challenge.pw_someobjects_k71_whole_papers_are_read_ex w) k a.f_Lines_need a.d_Lines_need ["self", "holds"] (spM K 2 F_Lines_need)) : FnOk PySem.Challenge.pw_someobjects_k71_whole_papers_are_read_ex w K mg base (L2N.CX PySem.Challenge.pw_someobjects_k71_whole_papers_are_read_ex w) (k + 1) a.f_Lines_finish a.d_Lines_finish ["self"] (spM K 1 (bodyM 1 (m_Lines_finish a F_Lines_need))) := by
  exact fn_dM T.f_Lines_finish.fn sc_Lines_finish fun cdv A outer s H E hr => ⟨_, (dss_one (ds_exprP (dp_meth (i := 0) T.cl_Lines T.f_Lines_need.m h_Lines_need hr T.f_Lines_need.b (pv 0) (da_cons (de_keep (de_cmp (op_eqD hr.units) opd_eq (de_fldF (i := 0) T.cl_Lines T.no_Lines_at (pv 0)) (de_callB call_len cd_len (by rfl) T.n_len (by decide +kernel) (da_cons (de_fldF (i := 0) T.cl_Lines T.no_Lines_lines (pv 0)) da_nil)) (nomark _))) da_nil) rfl)))⟩
theorem b_is_number (T : Tx K mg a) {k : Nat} : FnOk P w K mg base CX0 (k + 1) a.f_is_number a.d_is_number ["word"] (spF K 1 (bodyF 2 (m_is_number))) := by
  exact fn_d T.f_is_number.fn sc_is_number fun cdv A outer s H E hr => ⟨_, (dss_cons (ds_if (DW.dt (dw_or (dt_not (dt_chain op_leA opd_S op_leA opd_S de_int (de_callB call_len cd_len (by rfl) T.n_len (by decide +kernel) (da_cons (de_var 0 (pv 0)) da_nil)) (de_gint rfl T.c_MOST_DIGITS))) (dw_or1 (dt_not (dt_tru (de_callB (cr_all (by rfl)) cd_all (by rfl) T.n_all (by decide +kernel) (da_cons (de_lc [("sign", 1)] rfl sc_is_number.nd (di_overS (de_var 0 (pv 0))) (blkOk_by (own := [("sign", 1)]) (N := N_is_number) (sc := defScope s_is_number) (by decide +kernel)) (fun _ _ _ _ _ => (dg_name (i := 1) sc_is_number.nd rfl (Or.inl rfl))) (fun _ _ _ _ _ => dts_nil) (fun _ _ _ _ _ => (de_cmp op_inS opd_inS (de_var 1 (pv 1)) (de_gstr rfl T.c_DIGITS) rfl)) (tgin_name (by decide)) (gin_name (by decide))) da_nil)))))))
  (dss_one (ds_ret de_bl))
  dss_nil)
  (dss_one (ds_ret (de_or (de_cmp (op_eqD hr.units) opd_eq (de_var 0 (pv 0)) de_str (nomark _)) (de_one (de_cmp (op_neD hr.units) opd_ne (de_ix ix_seq opd_ix (de_var 0 (pv 0)) de_int (fun _ _ => rfl)) de_str (nomark _)))))))⟩
theorem b_law_pool (T : Tx K mg a) {k : Nat} : FnOk P w K mg base CX0 (k + 1) a.f_law_pool a.d_law_pool ["script", "budget"] (spF K 2 (bodyF 2 (m_law_pool))) := by
  exact fn_d T.f_law_pool.fn sc_law_pool fun cdv A outer s H E hr => ⟨_, (dss_one (ds_ret (de_lst (da_cons (de_keep (de_callTy call_list_of cd_list (by rfl) T.n_list (by decide +kernel) (da_cons (de_var 0 (pv 0)) da_nil))) (da_cons (de_keep de_int) (da_cons (de_keep de_int) (da_cons (de_keep de_int) (da_cons (de_keep de_int) (da_cons (de_keep (de_var 1 (pv 1))) da_nil)))))))))⟩
theorem b_law_draw (T : Tx K mg a) {k : Nat} : FnOk P w K mg base CX0 (k + 1) a.f_law_draw a.d_law_draw ["pool", "size"] (spF K 2 (bodyF 4 (m_law_draw))) := by
  exact fn_d T.f_law_draw.fn sc_law_draw fun cdv A outer s H E hr => ⟨_, (dss_cons (ds_if (DW.dt (dw_and (dt_cmp op_leA opd_S (de_ix ix_seq opd_ix (de_var 0 (pv 0)) de_int (fun _ _ => rfl)) de_int (nomark _)) (dw_and (dt_cmp op_leA opd_S (de_ix ix_seq opd_ix (de_var 0 (pv 0)) de_int (fun _ _ => rfl)) de_int (nomark _)) (dw_and1 (dt_cmp op_ltA opd_S (de_ix ix_seq opd_ix (de_var 0 (pv 0)) de_int (fun _ _ => rfl)) (de_callB call_len cd_len (by rfl) T.n_len (by decide +kernel) (da_cons (de_ix ix_seq opd_ix (de_var 0 (pv 0)) de_int (fun _ _ => rfl)) da_nil)) (nomark _))))))
  (dss_cons (ds_set (i := 2) sc_law_draw.nd rfl (Or.inl rfl) (de_ix ix_seq opd_ix (de_ix ix_seq opd_ix (de_var 0 (pv 0)) de_int (fun _ _ => rfl)) (de_ix ix_seq opd_ix (de_var 0 (pv 0)) de_int (fun _ _ => rfl)) (fun _ _ => rfl)))
  (dss_cons (ds_put (i := 0) (pv 0) de_int (de_op op_addA opd_add (de_ix ix_seq opd_ix (de_var 0 (pv 0)) de_int (fun _ _ => rfl)) de_int))
  (dss_cons (ds_put (i := 0) (pv 0) de_int (de_op op_mod opd_mod (de_callTy call_intA cd_int (by rfl) T.n_int (by decide +kernel) (da_cons (de_op op_addA opd_add (de_op op_mul opd_mul (de_ix ix_seq opd_ix (de_var 0 (pv 0)) de_int (fun _ _ => rfl)) de_int) (de_var 2 (pv 2))) da_nil)) de_int))
  (dss_cons (ds_put (i := 0) (pv 0) de_int de_int)
  (dss_one (ds_if (dt_cmp op_geA opd_S (de_var 2 (pv 2)) (de_op op_pow opd_pow de_int de_int) (nomark _))
  (dss_one (ds_put (i := 0) (pv 0) de_int (de_var 2 (pv 2))))
  dss_nil))))))
  dss_nil)
  (dss_cons (ds_if (dt_cmp op_gtA opd_S (de_ix ix_seq opd_ix (de_var 0 (pv 0)) de_int (fun _ _ => rfl)) de_int (nomark _))
  (dss_cons (ds_set (i := 3) sc_law_draw.nd rfl (Or.inl rfl) (de_op op_mod opd_mod (de_callTy call_intA cd_int (by rfl) T.n_int (by decide +kernel) (da_cons (de_ix ix_seq opd_ix (de_var 0 (pv 0)) de_int (fun _ _ => rfl)) da_nil)) (de_var 1 (pv 1))))
  (dss_cons (ds_put (i := 0) (pv 0) de_int (de_op op_fdivW opd_div (de_ix ix_seq opd_ix (de_var 0 (pv 0)) de_int (fun _ _ => rfl)) (de_var 1 (pv 1))))
  (dss_cons (ds_put (i := 0) (pv 0) de_int de_int)
  (dss_one (ds_ret (de_var 3 (pv 3)))))))
  dss_nil)
  (dss_cons (ds_put (i := 0) (pv 0) de_int (de_op op_sub opd_sub (de_ix ix_seq opd_ix (de_var 0 (pv 0)) de_int (fun _ _ => rfl)) de_int))
  (dss_cons (ds_put (i := 0) (pv 0) de_int (de_op op_mod opd_mod (de_callTy call_intA cd_int (by rfl) T.n_int (by decide +kernel) (da_cons (de_op op_addA opd_add (de_op op_mul opd_mul (de_ix ix_seq opd_ix (de_var 0 (pv 0)) de_int (fun _ _ => rfl)) de_int) de_int) da_nil)) de_int))
  (dss_one (ds_ret (de_op op_mod opd_mod (de_op op_mod opd_mod (de_callTy call_intA cd_int (by rfl) T.n_int (by decide +kernel) (da_cons (de_op op_addA opd_add (de_op op_mul opd_mul (de_ix ix_seq opd_ix (de_var 0 (pv 0)) de_int (fun _ _ => rfl)) de_int) de_int) da_nil)) de_int) (de_var 1 (pv 1)))))))))⟩
theorem b_law_same (T : Tx K mg a) {k : Nat} {F_law_same : FM} (h_law_same : FnOk P w K mg base CX0 k a.f_law_same a.d_law_same ["actual", "due"] (spF K 2 F_law_same)) : FnOk P w K mg base CX0 (k + 1) a.f_law_same a.d_law_same ["actual", "due"] (spF K 2 (bodyF 3 (m_law_same F_law_same))) := by
  exact fn_d T.f_law_same.fn sc_law_same fun cdv A outer s H E hr => ⟨_, (dss_cons (ds_if (DW.dt (dw_or (dt_tru (de_isi rfl T.n_isinstance (by decide +kernel) rfl T.n_tuple (by decide +kernel) (de_var 1 (pv 1)))) (dw_or1 (dt_tru (de_isi rfl T.n_isinstance (by decide +kernel) rfl T.n_list (by decide +kernel) (de_var 1 (pv 1)))))))
  (dss_cons (ds_if (DW.dt (dw_or (dt_cmp (op_neD hr.units) opd_ne (de_isi rfl T.n_isinstance (by decide +kernel) rfl T.n_tuple (by decide +kernel) (de_var 1 (pv 1))) (de_isi rfl T.n_isinstance (by decide +kernel) rfl T.n_tuple (by decide +kernel) (de_var 0 (pv 0))) (nomark _)) (dw_or1 (dt_cmp (op_neD hr.units) opd_ne (de_isi rfl T.n_isinstance (by decide +kernel) rfl T.n_list (by decide +kernel) (de_var 1 (pv 1))) (de_isi rfl T.n_isinstance (by decide +kernel) rfl T.n_list (by decide +kernel) (de_var 0 (pv 0))) (nomark _)))))
  (dss_one (ds_ret de_bl))
  dss_nil)
  (dss_cons (ds_if (dt_cmp (op_neD hr.units) opd_ne (de_callB call_len cd_len (by rfl) T.n_len (by decide +kernel) (da_cons (de_var 0 (pv 0)) da_nil)) (de_callB call_len cd_len (by rfl) T.n_len (by decide +kernel) (da_cons (de_var 1 (pv 1)) da_nil)) (nomark _))
  (dss_one (ds_ret de_bl))
  dss_nil)
  (dss_cons (ds_for PassesOwn.never rfl (di_rng1 rfl T.n_range (de_callB call_len cd_len (by rfl) T.n_len (by decide +kernel) (da_cons (de_var 1 (pv 1)) da_nil))) (dg_name (i := 2) sc_law_same.nd rfl (Or.inl rfl))
  (dss_one (ds_if (dt_not (dt_tru (de_call h_law_same hr (by rfl) T.f_law_same.g T.f_law_same.k T.f_law_same.b (da_cons (de_keep (de_ix ix_seq opd_ix (de_var 0 (pv 0)) (de_var 2 (pv 2)) (fun _ _ => rfl))) (da_cons (de_keep (de_ix ix_seq opd_ix (de_var 1 (pv 1)) (de_var 2 (pv 2)) (fun _ _ => rfl))) da_nil)) rfl)))
  (dss_one (ds_ret de_bl))
  dss_nil)))
  (dss_one (ds_ret de_bl)))))
  dss_nil)
  (dss_cons (ds_if (DW.dt (dw_or (dt_cmp op_isN opd_is (de_var 1 (pv 1)) de_non (nomark _)) (dw_or1 (dt_tru (de_isi rfl T.n_isinstance (by decide +kernel) rfl T.n_bool (by decide +kernel) (de_var 1 (pv 1)))))))
  (dss_one (ds_ret (de_and (de_cmp (op_eqD hr.units) opd_eq (de_cmp op_isN opd_is (de_var 0 (pv 0)) de_non (nomark _)) (de_cmp op_isN opd_is (de_var 1 (pv 1)) de_non (nomark _)) (nomark _)) (de_and (de_or (de_cmp op_isN opd_is (de_var 1 (pv 1)) de_non (nomark _)) (de_one (de_isi rfl T.n_isinstance (by decide +kernel) rfl T.n_bool (by decide +kernel) (de_var 0 (pv 0))))) (de_one (de_cmp (op_eqD hr.units) opd_eq (de_var 0 (pv 0)) (de_var 1 (pv 1)) (nomark _)))))))
  dss_nil)
  (dss_cons (ds_if (dt_tru (de_isi rfl T.n_isinstance (by decide +kernel) rfl T.n_int (by decide +kernel) (de_var 1 (pv 1))))
  (dss_one (ds_ret (de_and (de_isi rfl T.n_isinstance (by decide +kernel) rfl T.n_int (by decide +kernel) (de_var 0 (pv 0))) (de_and (de_not (de_isi rfl T.n_isinstance (by decide +kernel) rfl T.n_bool (by decide +kernel) (de_var 0 (pv 0)))) (de_one (de_cmp (op_eqD hr.units) opd_eq (de_var 0 (pv 0)) (de_var 1 (pv 1)) (nomark _)))))))
  dss_nil)
  (dss_one (ds_ret (de_and (de_isi rfl T.n_isinstance (by decide +kernel) rfl T.n_str (by decide +kernel) (de_var 0 (pv 0))) (de_one (de_cmp (op_eqD hr.units) opd_eq (de_var 0 (pv 0)) (de_var 1 (pv 1)) (nomark _)))))))))⟩
theorem b_law_text (T : Tx K mg a) {k : Nat} : FnOk P w K mg base CX0 (k + 1) a.f_law_text a.d_law_text ["row"] (spF K 1 (bodyF 3 (m_law_text))) := by
  exact fn_d T.f_law_text.fn sc_law_text fun cdv A outer s H E hr => ⟨_, (dss_cons (ds_set (i := 1) sc_law_text.nd rfl (Or.inl rfl) (de_lst da_nil))
  (dss_cons (ds_for PassesOwn.never rfl (di_over (de_var 0 (pv 0))) (dg_name (i := 2) sc_law_text.nd rfl (Or.inl rfl))
  (dss_one (ds_app (i := 1) (pv 1) (de_ix ix_seq opd_ix (de_tup (da_cons (de_keep de_str) (da_cons (de_keep (de_callTy call_strN cd_strN (by rfl) T.n_str (by decide +kernel) (da_cons (de_var 2 (pv 2)) da_nil))) da_nil))) (de_callTy call_intA cd_int (by rfl) T.n_int (by decide +kernel) (da_cons (de_cmp op_notN opd_isN (de_var 2 (pv 2)) de_non (nomark _)) da_nil)) (fun _ _ => rfl)))))
  (dss_one (ds_ret (de_join de_str (de_var 1 (pv 1)))))))⟩
theorem b_law_entry (T : Tx K mg a) {k : Nat} {F_law_draw : FM} (h_law_draw : FnOk P w K mg base CX0 k a.f_law_draw a.d_law_draw ["pool", "size"] (spF K 2 F_law_draw)) : FnOk P w K mg base CX0 (k + 1) a.f_law_entry a.d_law_entry ["pool"] (spF K 1 (bodyF 1 (m_law_entry F_law_draw))) := by
  exact fn_d T.f_law_entry.fn sc_law_entry fun cdv A outer s H E hr => ⟨_, (dss_one (ds_ret (de_ix ix_seq opd_ix (de_tup (da_cons (de_keep de_non) (da_cons (de_keep (de_call h_law_draw hr (by rfl) T.f_law_draw.g T.f_law_draw.k T.f_law_draw.b (da_cons (de_keep (de_var 0 (pv 0))) (da_cons (de_keep de_int) da_nil)) rfl)) (da_cons (de_keep (de_call h_law_draw hr (by rfl) T.f_law_draw.g T.f_law_draw.k T.f_law_draw.b (da_cons (de_keep (de_var 0 (pv 0))) (da_cons (de_keep de_int) da_nil)) rfl)) (da_cons (de_keep (de_op op_sub opd_sub de_int (de_call h_law_draw hr (by rfl) T.f_law_draw.g T.f_law_draw.k T.f_law_draw.b (da_cons (de_keep (de_var 0 (pv 0))) (da_cons (de_keep de_int) da_nil)) rfl))) da_nil))))) (de_call h_law_draw hr (by rfl) T.f_law_draw.g T.f_law_draw.k T.f_law_draw.b (da_cons (de_keep (de_var 0 (pv 0))) (da_cons (de_keep de_int) da_nil)) rfl) (fun _ _ => rfl))))⟩
theorem b_law_drawn (T : Tx K mg a) {k : Nat} {F_law_draw : FM} (h_law_draw : FnOk P w K mg base CX0 k a.f_law_draw a.d_law_draw ["pool", "size"] (spF K 2 F_law_draw)) {F_law_text : FM} (h_law_text : FnOk P w K mg base CX0 k a.f_law_text a.d_law_text ["row"] (spF K 1 F_law_text)) {F_law_entry : FM} (h_law_entry : FnOk P w K mg base CX0 k a.f_law_entry a.d_law_entry ["pool"] (spF K 1 F_law_entry)) : FnOk P w K mg base CX0 (k + 1) a.f_law_drawn a.d_law_drawn ["pool", "count", "labels", "ring"] (spF K 4 (bodyF 15 (m_law_drawn F_law_draw F_law_text F_law_entry))) := by
  exact fn_d T.f_law_drawn.fn sc_law_drawn fun cdv A outer s H E hr => ⟨_, (dss_cons (ds_set (i := 4) sc_law_drawn.nd rfl (Or.inl rfl) (de_lst (da_cons (de_keep de_str) da_nil)))
  (dss_cons (ds_set (i := 5) sc_law_drawn.nd rfl (Or.inl rfl) (de_lst (da_cons (de_keep de_str) (da_cons (de_keep de_non) (da_cons (de_keep (de_lst da_nil)) da_nil)))))
  (dss_cons (ds_if (dt_cmp op_gtA opd_S (de_call h_law_draw hr (by rfl) T.f_law_draw.g T.f_law_draw.k T.f_law_draw.b (da_cons (de_keep (de_var 0 (pv 0))) (da_cons (de_keep de_int) da_nil)) rfl) de_int (nomark _))
  (dss_cons (ds_set (i := 6) sc_law_drawn.nd rfl (Or.inl rfl) (de_ix ix_seq opd_ix (de_tup (da_cons (de_keep (de_call h_law_draw hr (by rfl) T.f_law_draw.g T.f_law_draw.k T.f_law_draw.b (da_cons (de_keep (de_var 0 (pv 0))) (da_cons (de_keep de_int) da_nil)) rfl)) (da_cons (de_keep (de_op op_sub opd_sub de_int (de_call h_law_draw hr (by rfl) T.f_law_draw.g T.f_law_draw.k T.f_law_draw.b (da_cons (de_keep (de_var 0 (pv 0))) (da_cons (de_keep de_int) da_nil)) rfl))) da_nil))) (de_call h_law_draw hr (by rfl) T.f_law_draw.g T.f_law_draw.k T.f_law_draw.b (da_cons (de_keep (de_var 0 (pv 0))) (da_cons (de_keep de_int) da_nil)) rfl) (fun _ _ => rfl)))
  (dss_cons (ds_setLc (i := 7) [("k", 11)] rfl rfl (sw_true rfl rfl rfl (by decide +kernel)) rfl sc_law_drawn.nd (di_rng1 rfl T.n_range (de_var 1 (pv 1))) (blkOk_by (own := [("k", 11)]) (N := N_law_drawn) (sc := defScope s_law_drawn) (by decide +kernel)) (fun _ _ _ _ _ => (dg_name (i := 11) sc_law_drawn.nd rfl (Or.inl rfl))) (fun _ _ _ _ _ => dts_nil) (fun _ _ _ _ _ => (de_call h_law_draw hr (by rfl) T.f_law_draw.g T.f_law_draw.k T.f_law_draw.b (da_cons (de_keep (de_var 0 (pv 0))) (da_cons (de_keep (de_var 2 (pv 2))) da_nil)) rfl)) (tgin_name (by decide)) (gin_name (by decide)))
  (dss_cons (ds_set (i := 4) sc_law_drawn.nd rfl (Or.inl rfl) (de_lst (da_cons (de_keep (de_op op_addA opd_add de_str (de_callTy call_str_int cd_str (by rfl) T.n_str (by decide +kernel) (da_cons (de_var 6 (pv 6)) da_nil)))) (da_cons (de_keep (de_call h_law_text hr (by rfl) T.f_law_text.g T.f_law_text.k T.f_law_text.b (da_cons (de_keep (de_var 7 (pv 7))) da_nil) rfl)) da_nil))))
  (dss_one (ds_set (i := 5) sc_law_drawn.nd rfl (Or.inl rfl) (de_lst (da_cons (de_keep de_str) (da_cons (de_keep (de_var 6 (pv 6))) (da_cons (de_keep (de_var 7 (pv 7))) da_nil)))))))))
  dss_nil)
  (dss_cons (ds_if (dt_tru (de_var 3 (pv 3)))
  (dss_cons (ds_setLc (i := 8) [("first", 13)] rfl rfl (sw_true rfl rfl rfl (by decide +kernel)) rfl sc_law_drawn.nd (di_rng1 rfl T.n_range (de_var 2 (pv 2))) (blkOk_by (own := [("first", 13)]) (N := N_law_drawn) (sc := defScope s_law_drawn) (by decide +kernel)) (fun _ _ _ _ _ => (dg_name (i := 13) sc_law_drawn.nd rfl (Or.inl rfl))) (fun _ _ _ _ _ => dts_nil) (fun _ _ _ _ _ => (de_lc [("k", 11)] rfl sc_law_drawn.nd (di_rng1 rfl T.n_range (de_var 1 (pv 1))) (blkOk_by (own := [("k", 11)]) (N := N_law_drawn) (sc := ({ kind := .function, names := [(".0", .local), ("first", .local), ("range", .globalImplicit), ("count", .cell), ("labels", .cell), ("pool", .cell)], isGenerator := false, isCoroutine := false } : Scope)) (by decide +kernel)) (fun _ _ _ _ _ => (dg_name (i := 11) sc_law_drawn.nd rfl (Or.inl rfl))) (fun _ _ _ _ _ => dts_nil) (fun _ _ _ _ _ => (de_lc [("label", 12)] rfl sc_law_drawn.nd (di_rng1 rfl T.n_range (de_var 2 (pv 2))) (blkOk_by (own := [("label", 12)]) (N := N_law_drawn) (sc := ({ kind := .function, names := [(".0", .local), ("k", .local), ("range", .globalImplicit), ("labels", .cell), ("pool", .cell)], isGenerator := false, isCoroutine := false } : Scope)) (by decide +kernel)) (fun _ _ _ _ _ => (dg_name (i := 12) sc_law_drawn.nd rfl (Or.inl rfl))) (fun _ _ _ _ _ => dts_nil) (fun _ _ _ _ _ => (de_call h_law_entry hr (by rfl) T.f_law_entry.g T.f_law_entry.k T.f_law_entry.b (da_cons (de_keep (de_var 0 (pv 0))) da_nil) rfl)) (tgin_name (by decide)) (gin_name (by decide)))) (tgin_name (by decide)) (gin_name (by decide)))) (tgin_name (by decide)) (gin_name (by decide)))
  (dss_cons (ds_for PassesOwn.never rfl (di_over (de_var 8 (pv 8))) (dg_name (i := 9) sc_law_drawn.nd rfl (Or.inl rfl))
  (dss_one (ds_set (i := 4) sc_law_drawn.nd rfl (Or.inl rfl) (de_op op_addA opd_add (de_var 4 (pv 4)) (de_lc [("row", 14)] rfl sc_law_drawn.nd (di_over (de_var 9 (pv 9))) (blkOk_by (own := [("row", 14)]) (N := N_law_drawn) (sc := defScope s_law_drawn) (by decide +kernel)) (fun _ _ _ _ _ => (dg_name (i := 14) sc_law_drawn.nd rfl (Or.inl rfl))) (fun _ _ _ _ _ => dts_nil) (fun _ _ _ _ _ => (de_call h_law_text hr (by rfl) T.f_law_text.g T.f_law_text.k T.f_law_text.b (da_cons (de_keep (de_var 14 (pv 14))) da_nil) rfl)) (tgin_name (by decide)) (gin_name (by decide)))))))
  (dss_one (ds_ret (de_tup (da_cons (de_keep (de_var 4 (pv 4))) (da_cons (de_keep (de_op op_addA opd_add (de_var 5 (pv 5)) (de_lst (da_cons (de_keep (de_var 8 (pv 8))) (da_cons (de_keep (de_lst da_nil)) da_nil))))) da_nil)))))))
  dss_nil)
  (dss_cons (ds_setLc (i := 8) [("k", 11)] rfl rfl (sw_true rfl rfl rfl (by decide +kernel)) rfl sc_law_drawn.nd (di_rng1 rfl T.n_range (de_var 1 (pv 1))) (blkOk_by (own := [("k", 11)]) (N := N_law_drawn) (sc := defScope s_law_drawn) (by decide +kernel)) (fun _ _ _ _ _ => (dg_name (i := 11) sc_law_drawn.nd rfl (Or.inl rfl))) (fun _ _ _ _ _ => dts_nil) (fun _ _ _ _ _ => (de_lc [("label", 12)] rfl sc_law_drawn.nd (di_rng1 rfl T.n_range (de_var 2 (pv 2))) (blkOk_by (own := [("label", 12)]) (N := N_law_drawn) (sc := ({ kind := .function, names := [(".0", .local), ("k", .local), ("range", .globalImplicit), ("labels", .cell), ("pool", .cell)], isGenerator := false, isCoroutine := false } : Scope)) (by decide +kernel)) (fun _ _ _ _ _ => (dg_name (i := 12) sc_law_drawn.nd rfl (Or.inl rfl))) (fun _ _ _ _ _ => dts_nil) (fun _ _ _ _ _ => (de_call h_law_entry hr (by rfl) T.f_law_entry.g T.f_law_entry.k T.f_law_entry.b (da_cons (de_keep (de_var 0 (pv 0))) da_nil) rfl)) (tgin_name (by decide)) (gin_name (by decide)))) (tgin_name (by decide)) (gin_name (by decide)))
  (dss_cons (ds_setLc (i := 10) [("label", 12)] rfl rfl (sw_true rfl rfl rfl (by decide +kernel)) rfl sc_law_drawn.nd (di_rng1 rfl T.n_range (de_var 2 (pv 2))) (blkOk_by (own := [("label", 12)]) (N := N_law_drawn) (sc := defScope s_law_drawn) (by decide +kernel)) (fun _ _ _ _ _ => (dg_name (i := 12) sc_law_drawn.nd rfl (Or.inl rfl))) (fun _ _ _ _ _ => dts_nil) (fun _ _ _ _ _ => (de_call h_law_entry hr (by rfl) T.f_law_entry.g T.f_law_entry.k T.f_law_entry.b (da_cons (de_keep (de_var 0 (pv 0))) da_nil) rfl)) (tgin_name (by decide)) (gin_name (by decide)))
  (dss_one (ds_ret (de_tup (da_cons (de_keep (de_op op_addA opd_add (de_op op_addA opd_add (de_var 4 (pv 4)) (de_lc [("row", 14)] rfl sc_law_drawn.nd (di_over (de_var 8 (pv 8))) (blkOk_by (own := [("row", 14)]) (N := N_law_drawn) (sc := defScope s_law_drawn) (by decide +kernel)) (fun _ _ _ _ _ => (dg_name (i := 14) sc_law_drawn.nd rfl (Or.inl rfl))) (fun _ _ _ _ _ => dts_nil) (fun _ _ _ _ _ => (de_call h_law_text hr (by rfl) T.f_law_text.g T.f_law_text.k T.f_law_text.b (da_cons (de_keep (de_var 14 (pv 14))) da_nil) rfl)) (tgin_name (by decide)) (gin_name (by decide)))) (de_lst (da_cons (de_keep (de_call h_law_text hr (by rfl) T.f_law_text.g T.f_law_text.k T.f_law_text.b (da_cons (de_keep (de_var 10 (pv 10))) da_nil) rfl)) da_nil)))) (da_cons (de_keep (de_op op_addA opd_add (de_var 5 (pv 5)) (de_lst (da_cons (de_keep (de_var 8 (pv 8))) (da_cons (de_keep (de_var 10 (pv 10))) da_nil))))) da_nil)))))))))))⟩
theorem b_law_read (T : Tx K mg a) {k : Nat} {F_read_ring_paper : FME} (h_read_ring_paper : FnOk PySem.Challenge.pw_someobjects_k71_whole_papers_are_read_ex w K mg base (L2N.CX PySem.Challenge.pw_someobjects_k71_whole_papers_are_read_ex w) k a.f_read_ring_paper a.d_read_ring_paper ["count", "labels", "lines"] (spE K 3 F_read_ring_paper)) {F_read_paper : FME} (h_read_paper : FnOk PySem.Challenge.pw_someobjects_k71_whole_papers_are_read_ex w K mg base (L2N.CX PySem.Challenge.pw_someobjects_k71_whole_papers_are_read_ex w) k a.f_read_paper a.d_read_paper ["count", "labels", "lines"] (spE K 3 F_read_paper)) : FnOk PySem.Challenge.pw_someobjects_k71_whole_papers_are_read_ex w K mg base (L2N.CX PySem.Challenge.pw_someobjects_k71_whole_papers_are_read_ex w) (k + 1) a.f_law_read a.d_law_read ["count", "labels", "lines", "ring"] (spE K 4 (bodyE 4 (m_law_read F_read_ring_paper F_read_paper))) := by
  exact fn_dE T.f_law_read.fn sc_law_read fun cdv A outer s H E hr => ⟨_, (dss_cons (ds_if (dt_tru (de_var 3 (pv 3)))
  (dss_one (ds_retP (de_callE h_read_ring_paper hr (by rfl) T.f_read_ring_paper.g T.f_read_ring_paper.k T.f_read_ring_paper.b (da_cons (de_keep (de_var 0 (pv 0))) (da_cons (de_keep (de_var 1 (pv 1))) (da_cons (de_keep (de_var 2 (pv 2))) da_nil))) rfl)))
  dss_nil)
  (dss_one (ds_retP (de_callE h_read_paper hr (by rfl) T.f_read_paper.g T.f_read_paper.k T.f_read_paper.b (da_cons (de_keep (de_var 0 (pv 0))) (da_cons (de_keep (de_var 1 (pv 1))) (da_cons (de_keep (de_var 2 (pv 2))) da_nil))) rfl))))⟩
theorem b_law_digits (T : Tx K mg a) {k : Nat} : FnOk P w K mg base CX0 (k + 1) a.f_law_digits a.d_law_digits ["word", "most"] (spF K 2 (bodyF 3 (m_law_digits))) := by
  exact fn_d T.f_law_digits.fn sc_law_digits fun cdv A outer s H E hr => ⟨_, (dss_cons (ds_if (dt_not (dt_chain op_ltA opd_S op_leA opd_S de_int (de_callB call_len cd_len (by rfl) T.n_len (by decide +kernel) (da_cons (de_var 0 (pv 0)) da_nil)) (de_var 1 (pv 1))))
  (dss_one (ds_ret de_non))
  dss_nil)
  (dss_cons (ds_for PassesOwn.never rfl (di_overS (de_var 0 (pv 0))) (dg_name (i := 2) sc_law_digits.nd rfl (Or.inl rfl))
  (dss_one (ds_if (dt_not (dt_chain op_leA opd_S op_leA opd_S de_str (de_var 2 (pv 2)) de_str))
  (dss_one (ds_ret de_non))
  dss_nil)))
  (dss_cons (ds_if (DW.dt (dw_and (dt_cmp (op_eqD hr.units) opd_eq (de_ix ix_seq opd_ix (de_var 0 (pv 0)) de_int (fun _ _ => rfl)) de_str (nomark _)) (dw_and1 (dt_cmp op_gtA opd_S (de_callB call_len cd_len (by rfl) T.n_len (by decide +kernel) (da_cons (de_var 0 (pv 0)) da_nil)) de_int (nomark _)))))
  (dss_one (ds_ret de_non))
  dss_nil)
  (dss_one (ds_ret (de_callTy call_intA cd_int (by rfl) T.n_int (by decide +kernel) (da_cons (de_var 0 (pv 0)) da_nil)))))))⟩
theorem b_law_bad (T : Tx K mg a) {k : Nat} {F_law_digits : FM} (h_law_digits : FnOk P w K mg base CX0 k a.f_law_digits a.d_law_digits ["word", "most"] (spF K 2 F_law_digits)) : FnOk P w K mg base CX0 (k + 1) a.f_law_bad a.d_law_bad ["lines", "count", "labels", "ring"] (spF K 4 (bodyF 11 (m_law_bad F_law_digits))) := by
  exact fn_d T.f_law_bad.fn sc_law_bad fun cdv A outer s H E hr => ⟨_, (dss_cons (ds_set (i := 4) sc_law_bad.nd rfl (Or.inl rfl) (de_lst (da_cons (de_keep de_str) da_nil)))
  (dss_cons (ds_for PassesOwn.never rfl (di_rng1 rfl T.n_range (de_callB call_len cd_len (by rfl) T.n_len (by decide +kernel) (da_cons (de_var 0 (pv 0)) da_nil))) (dg_name (i := 5) sc_law_bad.nd rfl (Or.inl rfl))
  (dss_cons (ds_if (dt_cmp (op_eqD hr.units) opd_eq (de_callB call_len cd_len (by rfl) T.n_len (by decide +kernel) (da_cons (de_var 4 (pv 4)) da_nil)) de_int (nomark _))
  (dss_one (ds_ret (de_var 5 (pv 5))))
  dss_nil)
  (dss_cons (ds_set (i := 6) sc_law_bad.nd rfl (Or.inl rfl) (de_split (de_ix ix_seq opd_ix (de_var 0 (pv 0)) (de_var 5 (pv 5)) (fun _ _ => rfl)) de_str))
  (dss_cons (ds_setP (i := 7) (dp_popF (i := 4) (pv 4) pe_int) sc_law_bad.nd rfl (Or.inl rfl))
  (dss_one (ds_if (dt_cmp (op_eqD hr.units) opd_eq (de_var 7 (pv 7)) de_str (nomark _))
  (dss_cons (ds_set (i := 8) sc_law_bad.nd rfl (Or.inl rfl) (de_ix ix_seq opd_ix (de_tup (da_cons (de_keep (de_op op_addA opd_add (de_var 1 (pv 1)) de_int)) (da_cons (de_keep (de_op op_mul opd_mul (de_var 1 (pv 1)) (de_var 2 (pv 2)))) da_nil))) (de_callTy call_intA cd_int (by rfl) T.n_int (by decide +kernel) (da_cons (de_var 3 (pv 3)) da_nil)) (fun _ _ => rfl)))
  (dss_cons (ds_set (i := 4) sc_law_bad.nd rfl (Or.inl rfl) (de_op op_rep opd_rep (de_lst (da_cons (de_keep de_str) da_nil)) (de_var 8 (pv 8))))
  (dss_one (ds_if (dt_cmp (op_neD hr.units) opd_ne (de_var 6 (pv 6)) (de_lst (da_cons (de_keep de_str) da_nil)) (nomark _))
  (dss_cons (ds_set (i := 4) sc_law_bad.nd rfl (Or.inl rfl) (de_op op_addA opd_add (de_lst (da_cons (de_keep de_str) da_nil)) (de_var 4 (pv 4))))
  (dss_one (ds_if (DW.dt (dw_or (dt_cmp (op_neD hr.units) opd_ne (de_callB call_len cd_len (by rfl) T.n_len (by decide +kernel) (da_cons (de_var 6 (pv 6)) da_nil)) de_int (nomark _)) (dw_or (dt_cmp (op_neD hr.units) opd_ne (de_ix ix_seq opd_ix (de_var 6 (pv 6)) de_int (fun _ _ => rfl)) de_str (nomark _)) (dw_or1 (dt_cmp op_isN opd_is (de_call h_law_digits hr (by rfl) T.f_law_digits.g T.f_law_digits.k T.f_law_digits.b (da_cons (de_keep (de_ix ix_seq opd_ix (de_var 6 (pv 6)) de_int (fun _ _ => rfl))) (da_cons (de_keep de_int) da_nil)) rfl) de_non (nomark _))))))
  (dss_one (ds_ret (de_var 5 (pv 5))))
  dss_nil)))
  dss_nil))))
  (dss_one (ds_if (dt_cmp (op_eqD hr.units) opd_eq (de_var 7 (pv 7)) de_str (nomark _))
  (dss_cons (ds_setLc (i := 9) [("word", 10)] rfl rfl (sw_true rfl rfl rfl (by decide +kernel)) rfl sc_law_bad.nd (di_over (de_var 6 (pv 6))) (blkOk_by (own := [("word", 10)]) (N := N_law_bad) (sc := defScope s_law_bad) (by decide +kernel)) (fun _ _ _ _ _ => (dg_name (i := 10) sc_law_bad.nd rfl (Or.inl rfl))) (fun _ _ _ _ _ => dts_nil) (fun _ _ _ _ _ => (de_call h_law_digits hr (by rfl) T.f_law_digits.g T.f_law_digits.k T.f_law_digits.b (da_cons (de_keep (de_var 10 (pv 10))) (da_cons (de_keep de_int) da_nil)) rfl)) (tgin_name (by decide)) (gin_name (by decide)))
  (dss_one (ds_if (DW.dt (dw_or (dt_cmp (op_inA hr.units1) opd_in de_non (de_var 9 (pv 9)) rfl) (dw_or (dt_cmp (op_neD hr.units) opd_ne (de_callB call_len cd_len (by rfl) T.n_len (by decide +kernel) (da_cons (de_var 9 (pv 9)) da_nil)) (de_var 1 (pv 1)) (nomark _)) (dw_or1 (dt_cmp op_geA opd_S (de_callB (cr_max (by rfl)) cd_max1 (by rfl) T.n_max (by decide +kernel) (da_cons (de_var 9 (pv 9)) da_nil)) (de_var 2 (pv 2)) (nomark _))))))
  (dss_one (ds_ret (de_var 5 (pv 5))))
  dss_nil)))
  (dss_cons (ds_setLc (i := 9) [("word", 10)] rfl rfl (sw_true rfl rfl rfl (by decide +kernel)) rfl sc_law_bad.nd (di_over (de_var 6 (pv 6))) (blkOk_by (own := [("word", 10)]) (N := N_law_bad) (sc := defScope s_law_bad) (by decide +kernel)) (fun _ _ _ _ _ => (dg_name (i := 10) sc_law_bad.nd rfl (Or.inl rfl))) (fun _ _ _ _ _ => (dts_one (DW.dt (dw_and (dt_cmp (op_neD hr.units) opd_ne (de_var 10 (pv 10)) de_str (nomark _)) (dw_and1 (dt_cmp op_isN opd_is (de_call h_law_digits hr (by rfl) T.f_law_digits.g T.f_law_digits.k T.f_law_digits.b (da_cons (de_keep (de_var 10 (pv 10))) (da_cons (de_keep de_int) da_nil)) rfl) de_non (nomark _))))))) (fun _ _ _ _ _ => (de_var 10 (pv 10))) (tgin_name (by decide)) (gin_name (by decide)))
  (dss_one (ds_if (DW.dt (dw_or (dt_cmp op_gtA opd_S (de_callB call_len cd_len (by rfl) T.n_len (by decide +kernel) (da_cons (de_var 9 (pv 9)) da_nil)) de_int (nomark _)) (dw_or1 (dt_cmp (op_neD hr.units) opd_ne (de_callB call_len cd_len (by rfl) T.n_len (by decide +kernel) (da_cons (de_var 6 (pv 6)) da_nil)) (de_var 2 (pv 2)) (nomark _)))))
  (dss_one (ds_ret (de_var 5 (pv 5))))
  dss_nil)))))))))))
  (dss_cons (ds_if (dt_cmp op_gtA opd_S (de_callB call_len cd_len (by rfl) T.n_len (by decide +kernel) (da_cons (de_var 4 (pv 4)) da_nil)) de_int (nomark _))
  (dss_one (ds_ret (de_callB call_len cd_len (by rfl) T.n_len (by decide +kernel) (da_cons (de_var 0 (pv 0)) da_nil))))
  dss_nil)
  (dss_one (ds_ret de_non)))))⟩
theorem b_law_menu (T : Tx K mg a) {k : Nat} {F_law_draw : FM} (h_law_draw : FnOk P w K mg base CX0 k a.f_law_draw a.d_law_draw ["pool", "size"] (spF K 2 F_law_draw)) : FnOk P w K mg base CX0 (k + 1) a.f_law_menu a.d_law_menu ["pool", "words"] (spF K 2 (bodyF 3 (m_law_menu F_law_draw))) := by
  exact fn_d T.f_law_menu.fn sc_law_menu fun cdv A outer s H E hr => ⟨_, (dss_cons (ds_set (i := 2) sc_law_menu.nd rfl (Or.inl rfl) (de_lst (da_cons (de_keep de_str) (da_cons (de_keep de_str) (da_cons (de_keep de_str) (da_cons (de_keep de_str) (da_cons (de_keep de_str) (da_cons (de_keep de_str) (da_cons (de_keep de_str) (da_cons (de_keep de_str) (da_cons (de_keep de_str) (da_cons (de_keep de_str) (da_cons (de_keep de_str) (da_cons (de_keep de_str) (da_cons (de_keep de_str) (da_cons (de_keep de_str) (da_cons (de_keep de_str) (da_cons (de_keep de_str) (da_cons (de_keep de_str) (da_cons (de_keep de_str) (da_cons (de_keep de_str) (da_cons (de_keep de_str) da_nil))))))))))))))))))))))
  (dss_cons (ds_set (i := 2) sc_law_menu.nd rfl (Or.inl rfl) (de_op op_addA opd_add (de_op op_addA opd_add (de_var 2 (pv 2)) (de_lst (da_cons (de_keep de_str) (da_cons (de_keep de_str) (da_cons (de_keep de_str) (da_cons (de_keep de_str) (da_cons (de_keep de_str) da_nil))))))) (de_var 1 (pv 1))))
  (dss_one (ds_ret (de_ix ix_seq opd_ix (de_var 2 (pv 2)) (de_call h_law_draw hr (by rfl) T.f_law_draw.g T.f_law_draw.k T.f_law_draw.b (da_cons (de_keep (de_var 0 (pv 0))) (da_cons (de_keep (de_callB call_len cd_len (by rfl) T.n_len (by decide +kernel) (da_cons (de_var 2 (pv 2)) da_nil))) da_nil)) rfl) (fun _ _ => rfl))))))⟩
theorem b_law_changed (T : Tx K mg a) {k : Nat} {F_law_draw : FM} (h_law_draw : FnOk P w K mg base CX0 k a.f_law_draw a.d_law_draw ["pool", "size"] (spF K 2 F_law_draw)) {F_law_menu : FM} (h_law_menu : FnOk P w K mg base CX0 k a.f_law_menu a.d_law_menu ["pool", "words"] (spF K 2 F_law_menu)) : FnOk P w K mg base CX0 (k + 1) a.f_law_changed a.d_law_changed ["pool", "lines"] (spF K 2 (bodyF 11 (m_law_changed F_law_draw F_law_menu))) := by
  exact fn_d T.f_law_changed.fn sc_law_changed fun cdv A outer s H E hr => ⟨_, (dss_cons (ds_for PassesOwn.never rfl (di_rng1 rfl T.n_range (de_call h_law_draw hr (by rfl) T.f_law_draw.g T.f_law_draw.k T.f_law_draw.b (da_cons (de_keep (de_var 0 (pv 0))) (da_cons (de_keep de_int) da_nil)) rfl)) (dg_name (i := 2) sc_law_changed.nd rfl (Or.inl rfl))
  (dss_cons (ds_set (i := 3) sc_law_changed.nd rfl (Or.inl rfl) (de_call h_law_draw hr (by rfl) T.f_law_draw.g T.f_law_draw.k T.f_law_draw.b (da_cons (de_keep (de_var 0 (pv 0))) (da_cons (de_keep (de_op op_addA opd_add (de_callB call_len cd_len (by rfl) T.n_len (by decide +kernel) (da_cons (de_var 1 (pv 1)) da_nil)) de_int)) da_nil)) rfl))
  (dss_cons (ds_set (i := 4) sc_law_changed.nd rfl (Or.inl rfl) (de_call h_law_draw hr (by rfl) T.f_law_draw.g T.f_law_draw.k T.f_law_draw.b (da_cons (de_keep (de_var 0 (pv 0))) (da_cons (de_keep (de_op op_addA opd_add (de_callB call_len cd_len (by rfl) T.n_len (by decide +kernel) (da_cons (de_var 1 (pv 1)) da_nil)) de_int)) da_nil)) rfl))
  (dss_cons (ds_set (i := 5) sc_law_changed.nd rfl (Or.inl rfl) (de_split (de_join de_str (de_slice (de_var 1 (pv 1)) (do_some (de_var 3 (pv 3))) (do_some (de_op op_addA opd_add (de_var 3 (pv 3)) de_int)))) de_str))
  (dss_cons (ds_set (i := 6) sc_law_changed.nd rfl (Or.inl rfl) (de_call h_law_draw hr (by rfl) T.f_law_draw.g T.f_law_draw.k T.f_law_draw.b (da_cons (de_keep (de_var 0 (pv 0))) (da_cons (de_keep (de_callB call_len cd_len (by rfl) T.n_len (by decide +kernel) (da_cons (de_var 5 (pv 5)) da_nil))) da_nil)) rfl))
  (dss_cons (ds_set (i := 7) sc_law_changed.nd rfl (Or.inl rfl) (de_call h_law_draw hr (by rfl) T.f_law_draw.g T.f_law_draw.k T.f_law_draw.b (da_cons (de_keep (de_var 0 (pv 0))) (da_cons (de_keep de_int) da_nil)) rfl))
  (dss_cons (ds_if (dt_cmp (op_eqD hr.units) opd_eq (de_var 7 (pv 7)) de_int (nomark _))
  (dss_one (ds_set (i := 1) sc_law_changed.nd rfl (Or.inl rfl) (de_op op_addA opd_add (de_slice (de_var 1 (pv 1)) do_none (do_some (de_var 3 (pv 3)))) (de_slice (de_var 1 (pv 1)) (do_some (de_op op_addA opd_add (de_var 3 (pv 3)) de_int)) do_none))))
  (dss_one (ds_if (dt_cmp (op_eqD hr.units) opd_eq (de_var 7 (pv 7)) de_int (nomark _))
  (dss_one (ds_set (i := 1) sc_law_changed.nd rfl (Or.inl rfl) (de_op op_addA opd_add (de_op op_addA opd_add (de_slice (de_var 1 (pv 1)) do_none (do_some (de_var 3 (pv 3)))) (de_slice (de_var 1 (pv 1)) (do_some (de_var 4 (pv 4))) (do_some (de_op op_addA opd_add (de_var 4 (pv 4)) de_int)))) (de_slice (de_var 1 (pv 1)) (do_some (de_var 3 (pv 3))) do_none))))
  (dss_one (ds_if (dt_cmp (op_eqD hr.units) opd_eq (de_var 7 (pv 7)) de_int (nomark _))
  (dss_one (ds_set (i := 1) sc_law_changed.nd rfl (Or.inl rfl) (de_op op_addA opd_add (de_op op_addA opd_add (de_slice (de_var 1 (pv 1)) do_none (do_some (de_var 3 (pv 3)))) (de_lst (da_cons (de_keep de_str) da_nil))) (de_slice (de_var 1 (pv 1)) (do_some (de_var 3 (pv 3))) do_none))))
  (dss_one (ds_if (dt_cmp (op_eqD hr.units) opd_eq (de_var 7 (pv 7)) de_int (nomark _))
  (dss_one (ds_set (i := 1) sc_law_changed.nd rfl (Or.inl rfl) (de_op op_addA opd_add (de_op op_addA opd_add (de_op op_addA opd_add (de_slice (de_var 1 (pv 1)) do_none (do_some (de_var 3 (pv 3)))) (de_slice (de_var 1 (pv 1)) (do_some (de_op op_addA opd_add (de_var 3 (pv 3)) de_int)) (do_some (de_op op_addA opd_add (de_var 3 (pv 3)) de_int)))) (de_slice (de_var 1 (pv 1)) (do_some (de_var 3 (pv 3))) (do_some (de_op op_addA opd_add (de_var 3 (pv 3)) de_int)))) (de_slice (de_var 1 (pv 1)) (do_some (de_op op_addA opd_add (de_var 3 (pv 3)) de_int)) do_none))))
  (dss_one (ds_if (dt_cmp (op_eqD hr.units) opd_eq (de_var 7 (pv 7)) de_int (nomark _))
  (dss_one (ds_set (i := 5) sc_law_changed.nd rfl (Or.inl rfl) (de_op op_addA opd_add (de_slice (de_var 5 (pv 5)) do_none (do_some (de_var 6 (pv 6)))) (de_slice (de_var 5 (pv 5)) (do_some (de_op op_addA opd_add (de_var 6 (pv 6)) de_int)) do_none))))
  (dss_one (ds_if (dt_cmp (op_eqD hr.units) opd_eq (de_var 7 (pv 7)) de_int (nomark _))
  (dss_one (ds_set (i := 5) sc_law_changed.nd rfl (Or.inl rfl) (de_op op_addA opd_add (de_op op_addA opd_add (de_slice (de_var 5 (pv 5)) do_none (do_some (de_var 6 (pv 6)))) (de_lst (da_cons (de_keep (de_call h_law_menu hr (by rfl) T.f_law_menu.g T.f_law_menu.k T.f_law_menu.b (da_cons (de_keep (de_var 0 (pv 0))) (da_cons (de_keep (de_var 5 (pv 5))) da_nil)) rfl)) da_nil))) (de_slice (de_var 5 (pv 5)) (do_some (de_var 6 (pv 6))) do_none))))
  (dss_one (ds_if (dt_cmp (op_eqD hr.units) opd_eq (de_var 7 (pv 7)) de_int (nomark _))
  (dss_cons (ds_set (i := 8) sc_law_changed.nd rfl (Or.inl rfl) (de_ix ix_seq opd_ix (de_var 5 (pv 5)) (de_var 6 (pv 6)) (fun _ _ => rfl)))
  (dss_cons (ds_set (i := 9) sc_law_changed.nd rfl (Or.inl rfl) (de_call h_law_draw hr (by rfl) T.f_law_draw.g T.f_law_draw.k T.f_law_draw.b (da_cons (de_keep (de_var 0 (pv 0))) (da_cons (de_keep (de_op op_addA opd_add (de_callB call_len cd_len (by rfl) T.n_len (by decide +kernel) (da_cons (de_var 8 (pv 8)) da_nil)) de_int)) da_nil)) rfl))
  (dss_cons (ds_set (i := 10) sc_law_changed.nd rfl (Or.inl rfl) de_str)
  (dss_cons (ds_set (i := 8) sc_law_changed.nd rfl (Or.inl rfl) (de_op op_addA opd_add (de_op op_addA opd_add (de_slice (de_var 8 (pv 8)) do_none (do_some (de_var 9 (pv 9)))) (de_ix ix_seq opd_ix (de_var 10 (pv 10)) (de_call h_law_draw hr (by rfl) T.f_law_draw.g T.f_law_draw.k T.f_law_draw.b (da_cons (de_keep (de_var 0 (pv 0))) (da_cons (de_keep (de_callB call_len cd_len (by rfl) T.n_len (by decide +kernel) (da_cons (de_var 10 (pv 10)) da_nil))) da_nil)) rfl) (fun _ _ => rfl))) (de_slice (de_var 8 (pv 8)) (do_some (de_op op_addA opd_add (de_var 9 (pv 9)) (de_call h_law_draw hr (by rfl) T.f_law_draw.g T.f_law_draw.k T.f_law_draw.b (da_cons (de_keep (de_var 0 (pv 0))) (da_cons (de_keep de_int) da_nil)) rfl))) do_none)))
  (dss_one (ds_set (i := 5) sc_law_changed.nd rfl (Or.inl rfl) (de_op op_addA opd_add (de_op op_addA opd_add (de_slice (de_var 5 (pv 5)) do_none (do_some (de_var 6 (pv 6)))) (de_lst (da_cons (de_keep (de_var 8 (pv 8))) da_nil))) (de_slice (de_var 5 (pv 5)) (do_some (de_op op_addA opd_add (de_var 6 (pv 6)) de_int)) do_none))))))))
  (dss_one (ds_set (i := 5) sc_law_changed.nd rfl (Or.inl rfl) (de_op op_addA opd_add (de_op op_addA opd_add (de_slice (de_var 5 (pv 5)) do_none (do_some (de_var 6 (pv 6)))) (de_lst (da_cons (de_keep (de_call h_law_menu hr (by rfl) T.f_law_menu.g T.f_law_menu.k T.f_law_menu.b (da_cons (de_keep (de_var 0 (pv 0))) (da_cons (de_keep (de_var 5 (pv 5))) da_nil)) rfl)) da_nil))) (de_slice (de_var 5 (pv 5)) (do_some (de_op op_addA opd_add (de_var 6 (pv 6)) de_int)) do_none)))))))))))))))))
  (dss_one (ds_if (DW.dt (dw_and (dt_cmp op_gtA opd_S (de_var 7 (pv 7)) de_int (nomark _)) (dw_and1 (dt_cmp op_ltA opd_S (de_var 3 (pv 3)) (de_callB call_len cd_len (by rfl) T.n_len (by decide +kernel) (da_cons (de_var 1 (pv 1)) da_nil)) (nomark _)))))
  (dss_one (ds_set (i := 1) sc_law_changed.nd rfl (Or.inl rfl) (de_op op_addA opd_add (de_op op_addA opd_add (de_slice (de_var 1 (pv 1)) do_none (do_some (de_var 3 (pv 3)))) (de_lst (da_cons (de_keep (de_join de_str (de_var 5 (pv 5)))) da_nil))) (de_slice (de_var 1 (pv 1)) (do_some (de_op op_addA opd_add (de_var 3 (pv 3)) de_int)) do_none))))
  dss_nil)))))))))
  (dss_one (ds_ret (de_var 1 (pv 1)))))⟩
theorem b_law (T : Tx K mg a) {k : Nat} {F_law_pool : FM} (h_law_pool : FnOk PySem.Challenge.pw_someobjects_k71_whole_papers_are_read_ex w K mg base CX0 k a.f_law_pool a.d_law_pool ["script", "budget"] (spF K 2 F_law_pool)) {F_law_draw : FM} (h_law_draw : FnOk PySem.Challenge.pw_someobjects_k71_whole_papers_are_read_ex w K mg base CX0 k a.f_law_draw a.d_law_draw ["pool", "size"] (spF K 2 F_law_draw)) {F_law_drawn : FM} (h_law_drawn : FnOk PySem.Challenge.pw_someobjects_k71_whole_papers_are_read_ex w K mg base CX0 k a.f_law_drawn a.d_law_drawn ["pool", "count", "labels", "ring"] (spF K 4 F_law_drawn)) {F_law_changed : FM} (h_law_changed : FnOk PySem.Challenge.pw_someobjects_k71_whole_papers_are_read_ex w K mg base CX0 k a.f_law_changed a.d_law_changed ["pool", "lines"] (spF K 2 F_law_changed)) {F_law_bad : FM} (h_law_bad : FnOk PySem.Challenge.pw_someobjects_k71_whole_papers_are_read_ex w K mg base CX0 k a.f_law_bad a.d_law_bad ["lines", "count", "labels", "ring"] (spF K 4 F_law_bad)) {F_paper_lines : FM} (h_paper_lines : FnOk PySem.Challenge.pw_someobjects_k71_whole_papers_are_read_ex w K mg base CX0 k a.f_paper_lines a.d_paper_lines ["found"] (spF K 1 F_paper_lines)) {F_law_same : FM} (h_law_same : FnOk PySem.Challenge.pw_someobjects_k71_whole_papers_are_read_ex w K mg base CX0 k a.f_law_same a.d_law_same ["actual", "due"] (spF K 2 F_law_same)) {FH_law_same : FM} (hh_law_same : L2H.FnH PySem.Challenge.pw_someobjects_k71_whole_papers_are_read_ex w K mg base CX0 k a.f_law_same a.d_law_same ["actual", "due"] (spF K 2 FH_law_same)) {F_law_read : FME} (h_law_read : FnOk PySem.Challenge.pw_someobjects_k71_whole_papers_are_read_ex w K mg base (L2N.CX PySem.Challenge.pw_someobjects_k71_whole_papers_are_read_ex w) k a.f_law_read a.d_law_read ["count", "labels", "lines", "ring"] (spE K 4 F_law_read)) : FnOk PySem.Challenge.pw_someobjects_k71_whole_papers_are_read_ex w K mg base CX0 (k + 1) a.f_law a.d_law ["script"] (spF K 1 (bodyF 9 (m_law K a F_law_pool F_law_draw F_law_drawn F_law_changed F_law_bad F_paper_lines F_law_same FH_law_same F_law_read))) := by
  exact fn_d T.f_law.fn sc_law fun cdv A outer s H E hr => ⟨_, (dss_pool (i := 1) (de_call h_law_pool hr (by rfl) T.f_law_pool.g T.f_law_pool.k T.f_law_pool.b (da_cons (de_keep (de_var 0 (pv 0))) (da_cons (de_keep de_int) da_nil)) rfl)
  (dss_cons (ds_set (i := 2) sc_law.nd rfl (Or.inl rfl) (de_cmp (op_eqD hr.units) opd_eq (de_call h_law_draw hr (by rfl) T.f_law_draw.g T.f_law_draw.k T.f_law_draw.b (da_cons (de_keep (de_var 1 (pv 1))) (da_cons (de_keep de_int) da_nil)) rfl) de_int (nomark _)))
  (dss_cons (ds_set (i := 3) sc_law.nd rfl (Or.inl rfl) (de_op op_addA opd_add de_int (de_call h_law_draw hr (by rfl) T.f_law_draw.g T.f_law_draw.k T.f_law_draw.b (da_cons (de_keep (de_var 1 (pv 1))) (da_cons (de_keep (de_ix ix_seq opd_ix (de_tup (da_cons (de_keep de_int) (da_cons (de_keep de_int) da_nil))) (de_callTy call_intA cd_int (by rfl) T.n_int (by decide +kernel) (da_cons (de_cmp (op_eqD hr.units) opd_eq (de_call h_law_draw hr (by rfl) T.f_law_draw.g T.f_law_draw.k T.f_law_draw.b (da_cons (de_keep (de_var 1 (pv 1))) (da_cons (de_keep de_int) da_nil)) rfl) de_int (nomark _)) da_nil)) (fun _ _ => rfl))) da_nil)) rfl)))
  (dss_cons (ds_set (i := 4) sc_law.nd rfl (Or.inl rfl) (de_op op_addA opd_add de_int (de_call h_law_draw hr (by rfl) T.f_law_draw.g T.f_law_draw.k T.f_law_draw.b (da_cons (de_keep (de_var 1 (pv 1))) (da_cons (de_keep de_int) da_nil)) rfl)))
  (dss_cons (ds_set (i := 5) sc_law.nd rfl (Or.inl rfl) (de_call h_law_changed hr (by rfl) T.f_law_changed.g T.f_law_changed.k T.f_law_changed.b (da_cons (de_keep (de_var 1 (pv 1))) (da_cons (de_keep (de_ix ix_seq opd_ix (de_call h_law_drawn hr (by rfl) T.f_law_drawn.g T.f_law_drawn.k T.f_law_drawn.b (da_cons (de_keep (de_var 1 (pv 1))) (da_cons (de_keep (de_var 4 (pv 4))) (da_cons (de_keep (de_var 3 (pv 3))) (da_cons (de_keep (de_var 2 (pv 2))) da_nil)))) rfl) de_int (fun _ _ => rfl))) da_nil)) rfl))
  (dss_cons (ds_set (i := 6) sc_law.nd rfl (Or.inl rfl) (de_call h_law_bad hr (by rfl) T.f_law_bad.g T.f_law_bad.k T.f_law_bad.b (da_cons (de_keep (de_var 5 (pv 5))) (da_cons (de_keep (de_var 4 (pv 4))) (da_cons (de_keep (de_var 3 (pv 3))) (da_cons (de_keep (de_var 2 (pv 2))) da_nil)))) rfl))
  (dss_cons (ds_tryG (i := 7) (j := 8) (su := fun e0 cls d => (dSeq (dIfS (dOr (dNot (dTru (dIsErr e0 cls d a.x_BadPaper true 8))) (dOr (dNot (dTru (dIsErr e0 cls d a.x_BadPaper true 8))) (dTru (dIsErr e0 cls d a.x_BadPaper false 8))))
  (dRet (dC (.bl false)))
  dNext)
  (dRet (dAndV (dOp mIsN (dVar 6) (dC .non)) (dCall FH_law_same (dCons (dKeep (dErrF e0 cls d a.x_BadPaper "at" 8)) (dCons (dKeep (dVar 6)) dNil))))))) rfl rfl sc_law.nd rfl rfl ⟨by rfl, by decide, Or.inl T.gE_ObjectError⟩ h_law_read hr (by rfl) T.f_law_read.g T.f_law_read.k T.f_law_read.b h_paper_lines hr (by rfl) T.f_paper_lines.g T.f_paper_lines.k T.f_paper_lines.b (fun pn xe => (da_cons (de_keep (de_var 4 (pv 4))) (da_cons (de_keep (de_var 3 (pv 3))) (da_cons (de_keep (de_callTy call_list_of cd_list (by rfl) T.n_list (by decide +kernel) (da_cons (de_var 5 (pv 5)) da_nil))) (da_cons (de_keep (de_var 2 (pv 2))) da_nil))))) rfl rfl (Or.inl rfl) (fun e0 oe cls d pn sf =>
  (dss_cons (ds_if (DW.dt (dw_or (dt_not (dt_truK K (de_isErr (v := .ref a.x_BadPaper) (cv := .ref a.x_BadPaper) (b := true) T.ec_BadPaper T.kit_BadPaper_BadPaper sf (by rfl) T.n_isinstance (pv 8) (pe_glob (by rfl) T.gX_BadPaper rfl) (.own _)))) (dw_or (dt_not (dt_truK K (de_isErr (v := .ty "ValueError") (cv := .type "ValueError") (b := true) T.ec_BadPaper T.kit_BadPaper_ValueError sf (by rfl) T.n_isinstance (pv 8) (pe_bltn (by rfl) T.n_ValueError (by decide +kernel) rfl) (.ty _)))) (dw_or1 (dt_truK K (de_isErrT (vs := [.ref a.x_BadMachine, .ref a.x_BadRule, .ref a.x_BadText, .ref a.x_TooLarge]) (us := [.ref a.x_BadMachine, .ref a.x_BadRule, .ref a.x_BadText, .ref a.x_TooLarge]) (b := false) T.ec_BadPaper T.kitT_BadPaper sf (by rfl) T.n_isinstance (pv 8) (Nat.le_of_ble_eq_true rfl) (pa_cons (pe_glob (by rfl) T.gX_BadMachine rfl) (pa_cons (pe_glob (by rfl) T.gX_BadRule rfl) (pa_cons (pe_glob (by rfl) T.gX_BadText rfl) (pa_cons (pe_glob (by rfl) T.gX_TooLarge rfl) pa_nil)))) (.cons (.own _) (.cons (.own _) (.cons (.own _) (.cons (.own _) .nil))))))))))
  (dss_one (ds_ret de_bl))
  dss_nil)
  (dss_one (ds_ret (de_and (de_cmp op_notN opd_isN (de_var 6 (pv 6)) de_non (nomark _)) (de_one (de_callH hh_law_same (roomM hr) sf.hot (by rfl) T.f_law_same.g T.f_law_same.k T.f_law_same.b (da_cons (de_keep (de_errFld T.x_BadPaper sf (pv 8))) (da_cons (de_keep (de_var 6 (pv 6))) da_nil)) rfl))))))))
  (dss_one (ds_ret (de_and (de_cmp op_isN opd_is (de_var 6 (pv 6)) de_non (nomark _)) (de_one (de_call h_law_same hr (by rfl) T.f_law_same.g T.f_law_same.k T.f_law_same.b (da_cons (de_keep (de_var 7 (pv 7))) (da_cons (de_keep (de_var 5 (pv 5))) da_nil)) rfl))))))))))) sc_law.nd rfl (Or.inl rfl))⟩
theorem hb_law_same (T : Tx K mg a) {k : Nat} : L2H.FnH P w K mg base CX0 (k + 1) a.f_law_same a.d_law_same ["actual", "due"] (spF K 2 (bodyF 3 mh_law_same)) := by
  exact fn_dH T.f_law_same.fn sc_law_same fun cdv A outer s H E p hot hr => ⟨_, (dss_cons (ds_if (DW.dt (dw_or (dt_tru (de_isi rfl T.n_isinstance (by decide +kernel) rfl T.n_tuple (by decide +kernel) (de_var 1 (pv 1)))) (dw_or1 (dt_tru (de_isi rfl T.n_isinstance (by decide +kernel) rfl T.n_list (by decide +kernel) (de_var 1 (pv 1)))))))
  (dss_cons (ds_if (DW.dt (dw_or (dt_cmp (op_neD hr.units) opd_ne (de_isi rfl T.n_isinstance (by decide +kernel) rfl T.n_tuple (by decide +kernel) (de_var 1 (pv 1))) (de_isi rfl T.n_isinstance (by decide +kernel) rfl T.n_tuple (by decide +kernel) (de_var 0 (pv 0))) (nomark _)) (dw_or1 (dt_cmp (op_neD hr.units) opd_ne (de_isi rfl T.n_isinstance (by decide +kernel) rfl T.n_list (by decide +kernel) (de_var 1 (pv 1))) (de_isi rfl T.n_isinstance (by decide +kernel) rfl T.n_list (by decide +kernel) (de_var 0 (pv 0))) (nomark _)))))
  (dss_one (ds_ret de_bl))
  dss_nil)
  (dss_cons (ds_if (dt_cmp (op_neD hr.units) opd_ne (de_callB call_len cd_len (by rfl) T.n_len (by decide +kernel) (da_cons (de_var 0 (pv 0)) da_nil)) (de_callB call_len cd_len (by rfl) T.n_len (by decide +kernel) (da_cons (de_var 1 (pv 1)) da_nil)) (nomark _))
  (dss_one (ds_ret de_bl))
  dss_nil)
  (dss_cons ds_never
  (dss_one (ds_ret de_bl)))))
  dss_nil)
  (dss_cons (ds_if (DW.dt (dw_or (dt_cmp op_isN opd_is (de_var 1 (pv 1)) de_non (nomark _)) (dw_or1 (dt_tru (de_isi rfl T.n_isinstance (by decide +kernel) rfl T.n_bool (by decide +kernel) (de_var 1 (pv 1)))))))
  (dss_one (ds_ret (de_and (de_cmp (op_eqD hr.units) opd_eq (de_cmp op_isN opd_is (de_var 0 (pv 0)) de_non (nomark _)) (de_cmp op_isN opd_is (de_var 1 (pv 1)) de_non (nomark _)) (nomark _)) (de_and (de_or (de_cmp op_isN opd_is (de_var 1 (pv 1)) de_non (nomark _)) (de_one (de_isi rfl T.n_isinstance (by decide +kernel) rfl T.n_bool (by decide +kernel) (de_var 0 (pv 0))))) (de_one (de_cmp (op_eqD hr.units) opd_eq (de_var 0 (pv 0)) (de_var 1 (pv 1)) (nomark _)))))))
  dss_nil)
  (dss_cons (ds_if (dt_tru (de_isi rfl T.n_isinstance (by decide +kernel) rfl T.n_int (by decide +kernel) (de_var 1 (pv 1))))
  (dss_one (ds_ret (de_and (de_isi rfl T.n_isinstance (by decide +kernel) rfl T.n_int (by decide +kernel) (de_var 0 (pv 0))) (de_and (de_not (de_isi rfl T.n_isinstance (by decide +kernel) rfl T.n_bool (by decide +kernel) (de_var 0 (pv 0)))) (de_one (de_cmp (op_eqD hr.units) opd_eq (de_var 0 (pv 0)) (de_var 1 (pv 1)) (nomark _)))))))
  dss_nil)
  (dss_one (ds_ret (de_and (de_isi rfl T.n_isinstance (by decide +kernel) rfl T.n_str (by decide +kernel) (de_var 0 (pv 0))) (de_one (de_cmp (op_eqD hr.units) opd_eq (de_var 0 (pv 0)) (de_var 1 (pv 1)) (nomark _)))))))))⟩
end
end G
end

section
set_option Elab.async false
set_option linter.all false
set_option maxRecDepth 100000
set_option maxHeartbeats 4000000
namespace G
open PySem PySem.Spec PyProof.Rows L2 DL
theorem str_len (w : Str) : w.length = w.cps.toList.length := by
  obtain ⟨⟨l⟩⟩ := w
  rfl
def okW (L : Nat) (w : Str) : Prop := w.length ≤ L ∧ ∀ c ∈ w.cps.toList, c < 128
def okWs (n L : Nat) (ws : List Str) : Prop := ws.length ≤ n ∧ ∀ w ∈ ws, okW L w
theorem okWs.app {n m L : Nat} {ws vs : List Str} (h : okWs n L ws) (k : okWs m L vs) : okWs (n + m) L (ws ++ vs) := ⟨by rw [List.length_append]; exact Nat.add_le_add h.1 k.1, fun w hw => (List.mem_append.mp hw).elim (h.2 w) (k.2 w)⟩
theorem okWs.mono {n m L L' : Nat} {ws : List Str} (h : okWs n L ws) (h1 : n ≤ m) (h2 : L ≤ L') : okWs m L' ws := ⟨Nat.le_trans h.1 h1, fun w hw => ⟨Nat.le_trans (h.2 w hw).1 h2, (h.2 w hw).2⟩⟩
theorem okWs.take {n L : Nat} {ws : List Str} (h : okWs n L ws) (k : Nat) : okWs n L (ws.take k) := ⟨Nat.le_trans (by rw [List.length_take]; exact Nat.min_le_right ..) h.1, fun w hw => h.2 w (List.mem_of_mem_take hw)⟩
theorem okWs.drop {n L : Nat} {ws : List Str} (h : okWs n L ws) (k : Nat) : okWs n L (ws.drop k) := ⟨Nat.le_trans (by rw [List.length_drop]; exact Nat.sub_le ..) h.1, fun w hw => h.2 w (List.mem_of_mem_drop hw)⟩
theorem cut_strs (ws : List Str) (lo hi : Option Int) : ∃ vs : List Str, cutD (ws.map D.str) lo hi = vs.map D.str ∧ ∀ n L, okWs n L ws → okWs n L vs := by
  refine ⟨(ws.drop (HT.sIx (ws.map D.str).length 0 lo)).take (HT.sIx (ws.map D.str).length (ws.map D.str).length hi - HT.sIx (ws.map D.str).length 0 lo), ?_, fun n L h => (h.drop _).take _⟩
  unfold DL.cutD
  rw [List.map_take, List.map_drop]
theorem lg {m : Nat} (h : m ≤ 5000) : CDivW 0 ((m : Int) + 1) := ⟨by omega, by
  have : (((m : Int) + 1)).natAbs = m + 1 := by omega
  rw [this]
  have := Nat.log2_le_self (m + 1)
  omega⟩
theorem lg' {m : Nat} (h : m ≤ 5000) (h2 : 0 < m) : CDivW 0 (m : Int) := ⟨by omega, by
  have : ((m : Int)).natAbs = m := by omega
  rw [this]
  have := Nat.log2_le_self m
  omega⟩
theorem okW_add {L M : Nat} {a b : Str} (h : okW L a) (k : okW M b) : okW (L + M) (a ++ b) := by
  obtain ⟨⟨x⟩⟩ := a
  obtain ⟨⟨y⟩⟩ := b
  have e : ((⟨⟨x⟩⟩ : Str) ++ (⟨⟨y⟩⟩ : Str)).cps.toList = x ++ y := by
    show (Array.append ⟨x⟩ ⟨y⟩).toList = _
    simp
  refine ⟨?_, fun c hc => ?_⟩
  · rw [str_len, e, List.length_append]
    exact Nat.add_le_add h.1 k.1
  · rw [e] at hc
    exact (List.mem_append.mp hc).elim (h.2 c) (k.2 c)
theorem okW_cut {L : Nat} {a : Str} (h : okW L a) (lo hi : Option Int) : okW L (cutS a lo hi) := by
  obtain ⟨⟨x⟩⟩ := a
  have h1 : x.length ≤ L := h.1
  have h2 : ∀ c ∈ x, c < 128 := h.2
  have : ∃ i j, (cutS ⟨⟨x⟩⟩ lo hi).cps.toList = (x.drop i).take j := ⟨_, _, rfl⟩
  obtain ⟨i, j, e⟩ := this
  refine ⟨?_, fun c hc => ?_⟩
  · rw [str_len, e, List.length_take, List.length_drop]
    omega
  · rw [e] at hc
    exact h2 c (List.mem_of_mem_drop (List.mem_of_mem_take hc))
theorem okW_lay {L : Nat} {a : Str} (h : okW L a) : PyData.canLay0 (.str a) = true := by
  show a.cps.all (fun c => decide (c < 0x110000)) = true
  rw [Array.all_eq_true_iff_forall_mem]
  intro c hc
  exact decide_eq_true (by have := h.2 c (by simpa using hc); omega)
theorem cut_to (xs : List D) (k : Nat) : DL.cutD xs none (some (k : Int)) = xs.take k := by
  unfold DL.cutD
  rw [HT.sIx_none, HT.sIx_nat, List.drop_zero, Nat.sub_zero]
  rcases Nat.le_total k xs.length with h | h
  · rw [Nat.min_eq_left h]
  · rw [Nat.min_eq_right h, List.take_of_length_le (Nat.le_refl _), List.take_of_length_le h]
theorem cut_from (xs : List D) (k : Nat) : DL.cutD xs (some (k : Int)) none = xs.drop k := by
  unfold DL.cutD
  rw [HT.sIx_none, HT.sIx_nat]
  rcases Nat.le_total k xs.length with h | h
  · rw [Nat.min_eq_left h, List.take_of_length_le (by rw [List.length_drop]; exact Nat.le_refl _)]
  · rw [Nat.min_eq_right h, List.drop_of_length_le (Nat.le_refl _), List.drop_of_length_le h, List.take_nil]
theorem cut_one (xs : List D) (k : Nat) : DL.cutD xs (some (k : Int)) (some ((k : Int) + 1)) = (xs.drop k).take 1 := by
  unfold DL.cutD
  rw [HT.sIx_nat, show ((k : Int) + 1) = ((k + 1 : Nat) : Int) from rfl, HT.sIx_nat]
  rcases Nat.lt_or_ge k xs.length with h | h
  · rw [Nat.min_eq_left (by omega), Nat.min_eq_left (by omega)]
    congr 1
    omega
  · rw [Nat.min_eq_right h, List.drop_of_length_le (Nat.le_refl _), List.drop_of_length_le h, List.take_nil, List.take_nil]
theorem join_one {L : Nat} {ws : List Str} (h : ∀ w ∈ ws, okW L w) (k : Nat) : okW L (Txt.join "" ((ws.drop k).take 1)) ∧ ((((ws.drop k).take 1).map (·.length)).sum + ((ws.drop k).take 1).length * ("" : Str).length ≤ L) := by
  have h2 : ∀ w ∈ ws.drop k, okW L w := fun w hw => h w (List.mem_of_mem_drop hw)
  cases e : ws.drop k with
  | nil => exact ⟨⟨Nat.zero_le _, fun c hc => by cases hc⟩, Nat.zero_le _⟩
  | cons w r =>
    rw [e] at h2
    have hw := h2 w (List.mem_cons_self ..)
    exact ⟨hw, by
      show w.length + 0 + 1 * ("" : Str).length ≤ L
      have : ("" : Str).length = 0 := by decide +kernel
      rw [this]
      have := hw.1
      omega⟩
theorem cut_from1 (xs : List D) (k : Nat) : DL.cutD xs (some ((k : Int) + 1)) none = xs.drop (k + 1) := cut_from xs (k + 1)
theorem okWs.put {n L : Nat} {ws : List Str} {w : Str} (h : okWs n L ws) (k : okW L w) (p q : Nat) (hq : p ≤ q) : okWs (n + 1) L (ws.take p ++ [w] ++ ws.drop q) := by
  refine ⟨?_, fun v hv => ?_⟩
  · rw [List.length_append, List.length_append, List.length_take, List.length_drop, List.length_singleton]
    have := h.1
    omega
  · rcases List.mem_append.mp hv with hv | hv
    · rcases List.mem_append.mp hv with hv | hv
      · exact h.2 v (List.mem_of_mem_take hv)
      · rcases List.mem_cons.mp hv with rfl | hv
        · exact k
        · cases hv
    · exact h.2 v (List.mem_of_mem_drop hv)
theorem okWs.out {n L : Nat} {ws : List Str} (h : okWs n L ws) (p q : Nat) (hq : p ≤ q) : okWs n L (ws.take p ++ ws.drop q) := by
  refine ⟨?_, fun v hv => ?_⟩
  · rw [List.length_append, List.length_take, List.length_drop]
    have := h.1
    omega
  · rcases List.mem_append.mp hv with hv | hv
    · exact h.2 v (List.mem_of_mem_take hv)
    · exact h.2 v (List.mem_of_mem_drop hv)
/-- how many parts the words give when they are joined by a blank and cut again -/
def wt (ws : List Str) : Nat := (ws.map fun w => 1 + w.cps.toList.count 32).sum
theorem wt_app (a b : List Str) : wt (a ++ b) = wt a + wt b := by unfold wt; rw [List.map_append, List.sum_append]
theorem wt_one (w : Str) : wt [w] ≤ 1 + w.length := by
  show 1 + w.cps.toList.count 32 + 0 ≤ _
  have := List.count_le_length (a := 32) (l := w.cps.toList)
  rw [str_len]
  omega
theorem wt_out (ws : List Str) {p q : Nat} (h : p ≤ q) : wt (ws.take p ++ ws.drop q) ≤ wt ws := by
  have e := congrArg wt (List.take_append_drop p ws)
  rw [wt_app] at e
  have e2 := congrArg wt (List.take_append_drop (q - p) (ws.drop p))
  rw [wt_app, List.drop_drop, show p + (q - p) = q by omega] at e2
  rw [wt_app]
  omega
theorem wt_put (ws : List Str) (w : Str) {p q : Nat} (h : p ≤ q) : wt (ws.take p ++ [w] ++ ws.drop q) ≤ wt ws + 1 + w.length := by
  have e := wt_out ws h
  have := wt_one w
  rw [wt_app] at e
  rw [wt_app, wt_app]
  omega
def wEnt (ws : List Str) (r : Nv) : Prop := r = .val (.lst (ws.map D.str)) ∨ r = .own (ws.map D.str)
end G
end

section
set_option Elab.async false
set_option linter.all false
set_option maxRecDepth 100000
set_option maxHeartbeats 4000000
namespace G
open PySem PySem.Spec PyProof.Rows L2 DL
/-! ### numbers in words: no sign, no zero ahead -/
def isCanon (l : List Nat) : Bool := l.all (fun c => decide (48 ≤ c) && decide (c ≤ 57)) && match l with
  | [] => false
  | c :: r => c != 48 || r.isEmpty
/-- the number that a word of at most so many signs writes -/
def digsF (most : Nat) (w : Str) : Option Nat := if decide (w.length ≤ most) && isCanon w.cps.toList then some (NumText.digitsVal w.cps.toList) else none
theorem canon_all {l : List Nat} (h : isCanon l = true) : NumText.AllDigits l := fun c hc => by
  unfold isCanon at h
  rw [Bool.and_eq_true, List.all_eq_true] at h
  have k := h.1 c hc
  rw [Bool.and_eq_true, decide_eq_true_eq, decide_eq_true_eq] at k
  exact k
theorem canon_ne {l : List Nat} (h : isCanon l = true) : l ≠ [] := by
  rintro rfl
  exact absurd h (by decide)
theorem canon_num {l : List Nat} (h : isCanon l = true) : TL.numL (NumText.digitsVal l) = l := by
  have ha := canon_all h
  have e := NumText.toDigits_digitsVal (l.length - 1) l (by have := canon_ne h; have := List.length_pos_iff.mpr this; omega) ha (by
    cases l with
    | nil => exact absurd rfl (canon_ne h)
    | cons c r =>
      unfold isCanon at h
      rw [Bool.and_eq_true] at h
      have h2 : (c != 48 || r.isEmpty) = true := h.2
      rw [Bool.or_eq_true] at h2
      rcases h2 with h2 | h2
      · have := ha c (List.mem_cons_self ..)
        have h3 : c ≠ 48 := bne_iff_ne.mp h2
        exact .inr ⟨c, r, rfl, by omega⟩
      · rw [List.isEmpty_iff] at h2
        subst h2
        exact .inl rfl)
  unfold TL.numL
  rw [e, List.map_map]
  have key : ∀ l : List Nat, NumText.AllDigits l → l.map (Char.toNat ∘ Char.ofNat) = l := by
    intro l
    induction l with
    | nil => exact fun _ => rfl
    | cons c r ih =>
      intro h
      rw [List.map_cons, ih fun d hd => h d (List.mem_cons_of_mem _ hd)]
      have k := h c (List.mem_cons_self ..)
      have : ∀ c, c < 58 → (Char.toNat ∘ Char.ofNat) c = c := by decide +kernel
      rw [this c (by omega)]
  exact key l ha
theorem num_canon (n : Nat) : isCanon (TL.numL n) = true := by
  have ha := TL.numL_digits n
  unfold isCanon
  rw [Bool.and_eq_true]
  refine ⟨List.all_eq_true.mpr fun c hc => ?_, ?_⟩
  · rw [Bool.and_eq_true, decide_eq_true_eq, decide_eq_true_eq]
    exact ha c hc
  · induction n using Nat.strongRecOn with
    | _ n ih =>
      by_cases h : n < 10
      · rw [TL.numL_lt h]
        show (48 + n != 48 || ([] : List Nat).isEmpty) = true
        rw [List.isEmpty_nil, Bool.or_true]
      · have k := ih (n / 10) (by omega) (TL.numL_digits _)
        rw [TL.numL_step (by omega)]
        have e : TL.numL (n / 10) ≠ [48] := fun z => by
          have := congrArg NumText.digitsVal z
          rw [TL.numL_val] at this
          have : n / 10 = 0 := this
          omega
        cases q : TL.numL (n / 10) with
        | nil => exact absurd q (TL.numL_ne _)
        | cons c r =>
          rw [q] at k e
          have k : (c != 48 || r.isEmpty) = true := k
          show (c != 48 || (r ++ [48 + n % 10]).isEmpty) = true
          rw [Bool.or_eq_true] at k ⊢
          rcases k with k | k
          · exact .inl k
          · left
            rw [List.isEmpty_iff] at k
            subst k
            exact bne_iff_ne.mpr fun z => e (by rw [z])
/-- str of a number -/
def numW (n : Nat) : Str := Str.ofString (toString ((n : Nat) : Int))
theorem digsF_some {most n : Nat} {w : Str} (h : digsF most w = some n) : w = numW n ∧ w.length ≤ most ∧ isCanon w.cps.toList = true ∧ NumText.digitsVal w.cps.toList = n := by
  unfold digsF at h
  split at h
  · rename_i c
    rw [Bool.and_eq_true, decide_eq_true_eq] at c
    have e := Option.some.inj h
    refine ⟨TL.ext_tl ?_, c.1, c.2, e⟩
    unfold numW
    rw [TL.tl_num, ← e, canon_num c.2]
  · cases h
theorem digsF_num {most n : Nat} (h : n < 10 ^ most) (hm : 0 < most) : digsF most (numW n) = some n := by
  have e : (numW n).cps.toList = TL.numL n := TL.tl_num n
  have l : (numW n).length ≤ most := by
    rw [str_len, e]
    exact TL.numL_len hm h
  unfold digsF
  rw [decide_eq_true l, e, num_canon, TL.numL_val]
  rfl
theorem digs_int {w : Str} (h : isCanon w.cps.toList = true) (hl : w.length ≤ 640) : PySem.intText? w = some (((NumText.digitsVal w.cps.toList : Nat)) : Int) :=
  PySem.intText_digits (canon_all h) (canon_ne h) (by omega)
end G
end

section
set_option Elab.async false
set_option linter.all false
set_option maxRecDepth 100000
set_option maxHeartbeats 4000000
namespace G
open PySem PySem.Spec PyProof.Rows L2 DL
local macro_rules | `(tactic| walk_at "ok1") => `(tactic| first | exact okD_int _ | exact okD_bl _ | exact okD_non | exact okD_str (by assumption) | assumption)
local macro_rules | `(tactic| walk_at "go1") => `(tactic| ((conv => whnf); first
  | refine s_iteT ?_ | refine s_iteF ?_
  | refine ⟨⟨by walk_at "ok1", by walk_at "ok1"⟩, ?_⟩
  | refine ⟨_, rfl, ?_⟩
  | refine ⟨rfl, ?_⟩
  | refine ⟨Nat.le_of_ble_eq_true rfl, ?_⟩
  | refine ⟨_, isB_tuple (by assumption), ?_⟩
  | refine ⟨_, isB_list (by assumption), ?_⟩
  | refine ⟨_, isB_bool (by assumption), ?_⟩
  | refine ⟨_, isB_int (by assumption), ?_⟩
  | refine ⟨_, isB_str (by assumption), ?_⟩
  | refine ⟨_, by assumption, ?_⟩
  | refine s_ite1 (by assumption) ?_ | refine s_ite0 (by assumption) ?_))
local macro_rules | `(tactic| walk_at "go") => `(tactic| repeat walk_at "go1")
theorem le0 (c : Nat) : decide ([c] < [48]) = decide (c < 48) := by
  by_cases h : c < 48
  · rw [decide_eq_true h]
    exact decide_eq_true (List.Lex.rel h)
  · rw [decide_eq_false h]
    refine decide_eq_false fun z => ?_
    cases z with
    | rel z => exact h z
    | cons z => cases z
theorem le9 (c : Nat) : decide ([57] < [c]) = decide (57 < c) := by
  by_cases h : 57 < c
  · rw [decide_eq_true h]
    exact decide_eq_true (List.Lex.rel h)
  · rw [decide_eq_false h]
    refine decide_eq_false fun z => ?_
    cases z with
    | rel z => exact h z
    | cons z => cases z
def optN : Option Nat → D
  | none => .non
  | some n => .int (n : Int)
def F_digs : FM := fun rs Qd => ∃ (w : Str) (m : Nat), rs = [.val (.str w), .val (.int (m : Int))] ∧ m ≤ 640 ∧ w.length ≤ sizeLine ∧ PyData.canLay0 (.str w) = true ∧ Qd (.val (optN (digsF m w)))
theorem digs_walk {E : DEn} {a0 a1 : Option Nv} : ∀ (l : List Nat) (y : Option Nv), 
    ((∃ c ∈ l, ¬ (48 ≤ c ∧ c ≤ 57)) → ∀ y, E.rt [a0, a1, y] (.val .non)) → ((∀ c ∈ l, 48 ≤ c ∧ c ≤ 57) → ∀ y, E.nx [a0, a1, y]) →
    dLoop (dName 2) (dIfS (dNot (dB (dChain mLeA mLeA (dC (.str "0")) (dVar 2) (dC (.str "9"))))) (dRet (dC .non)) dNext) E (l.map fun c => DL.D.str ⟨#[c]⟩) [a0, a1, y]
  | [], y, q1, q2 => q2 (fun c hc => by cases hc) y
  | c :: l, y, q1, q2 => by
    have ih := digs_walk (E := E) (a0 := a0) (a1 := a1) l (some (.val (.str ⟨#[c]⟩))) (fun ⟨d, h1, h2⟩ => q1 ⟨d, List.mem_cons_of_mem _ h1, h2⟩)
    have e3 : (("0" : Str)).cps.toList = [48] := by decide +kernel
    have e4 : (("9" : Str)).cps.toList = [57] := by decide +kernel
    have e5 : (⟨#[c]⟩ : Str).cps.toList = [c] := rfl
    have f1 : (!decide ((⟨#[c]⟩ : Str).cps.toList < (("0" : Str)).cps.toList)) = decide (48 ≤ c) := by
      rw [e3, e5, le0, ← decide_not]
      congr 1
      exact propext Nat.not_lt
    have f2 : (!decide ((("9" : Str)).cps.toList < (⟨#[c]⟩ : Str).cps.toList)) = decide (c ≤ 57) := by
      rw [e4, e5, le9, ← decide_not]
      congr 1
      exact propext Nat.not_lt
    show dIte (!decide ((⟨#[c]⟩ : Str).cps.toList < (("0" : Str)).cps.toList)) _ _
    rw [f1]
    refine dIte_of (fun h1 => ?_) fun h1 => ?_
    · have h1 := of_decide_eq_true h1
      show dIte (!(!decide ((("9" : Str)).cps.toList < (⟨#[c]⟩ : Str).cps.toList))) _ _
      rw [f2]
      by_cases h2 : c ≤ 57
      · rw [decide_eq_true h2]
        refine s_iteF ?_
        exact ih fun h => q2 fun d hd => by
          rcases List.mem_cons.mp hd with rfl | hd
          · exact ⟨h1, h2⟩
          · exact h d hd
      · rw [decide_eq_false h2]
        refine s_iteT ?_
        exact q1 ⟨c, List.mem_cons_self .., fun z => h2 z.2⟩ _
    · have h1 := of_decide_eq_false h1
      exact s_iteT (q1 ⟨c, List.mem_cons_self .., fun z => h1 z.1⟩ _)
theorem digs_no {m : Nat} {w : Str} (h : ¬ (w.length ≤ m ∧ isCanon w.cps.toList = true)) : digsF m w = none := by
  unfold digsF
  rw [if_neg]
  intro z
  rw [Bool.and_eq_true, decide_eq_true_eq] at z
  exact h z
theorem digs_yes {m : Nat} {w : Str} (h : w.length ≤ m) (h2 : isCanon w.cps.toList = true) : digsF m w = some (NumText.digitsVal w.cps.toList) := by
  unfold digsF
  rw [if_pos]
  rw [Bool.and_eq_true, decide_eq_true_eq]
  exact ⟨h, h2⟩
theorem digs_body : ∀ rs Qd, F_digs rs Qd → bodyF 3 m_law_digits rs Qd := by
  rintro rs Qd ⟨w, m, rfl, hm, hw, hl, q⟩
  unfold m_law_digits
  show dSeq _ _ _ [some (.val (.str w)), some (.val (.int (m : Int))), none]
  have fail : ¬ (w.length ≤ m ∧ isCanon w.cps.toList = true) → Qd (.val .non) := fun h => by
    rw [digs_no h] at q
    exact q
  refine ⟨hw, ?_⟩
  show dIte (decide ((0 : Int) < (w.length : Int))) _ _
  refine dIte_of (fun h1 => ?_) fun h1 => ?_
  · have h1 := of_decide_eq_true h1
    show dIte (!decide ((w.length : Int) ≤ (m : Int))) _ _
    by_cases h2 : w.length ≤ m
    · rw [decide_eq_true (by omega)]
      refine s_iteF ?_
      show dLoop _ _ _ (charsD w) _
      refine digs_walk w.cps.toList none (fun ⟨c, c1, c2⟩ y => fail fun z => c2 (canon_all z.2 c c1)) (fun hall y => ?_)
      have hpos : 0 < w.cps.toList.length := by rw [← str_len]; omega
      cases hc : w.cps.toList with
      | nil =>
        rw [hc] at hpos
        exact absurd hpos (by decide)
      | cons c r =>
        have hat : atI w.cps.toList ((0 : Nat) : Int) = some c := DL.atI_nat (by rw [hc]; rfl)
        refine ⟨c, ⟨by omega, hat⟩, ?_⟩
        have hc1 := hall c (by rw [hc]; exact List.mem_cons_self ..)
        have z1 : okW 1 ⟨#[c]⟩ := ⟨Nat.le_refl _, fun d hd => by
          rw [List.mem_singleton.mp hd]
          omega⟩
        have z0 : ("0" : Str) = ⟨#[48]⟩ := TL.ext_tl (by decide +kernel)
        refine ⟨⟨okD_str (okW_lay z1), okD_str (by decide +kernel)⟩, ?_⟩
        show dIte (eqD (.str ⟨#[c]⟩) (.str "0")) _ _
        rw [eqD_str, z0]
        have full : isCanon w.cps.toList = true → dRet (dCB mInt (dCons (dVar 0) dNil)) { nx := fun _ => Qd (.val .non), rt := fun _ r => Qd r } [some (.val (.str w)), some (.val (.int (m : Int))), y] := fun hcan => by
          rw [digs_yes h2 hcan] at q
          exact ⟨_, ⟨digs_int hcan (by omega), by omega⟩, q⟩
        have canon : (c != 48 || r.isEmpty) = true → isCanon w.cps.toList = true := fun h => by
          unfold isCanon
          rw [Bool.and_eq_true]
          refine ⟨List.all_eq_true.mpr fun d hd => ?_, ?_⟩
          · rw [Bool.and_eq_true, decide_eq_true_eq, decide_eq_true_eq]
            exact hall d hd
          · rw [hc]
            exact h
        have lw : w.length = r.length + 1 := by rw [str_len, hc, List.length_cons]
        by_cases h48 : c = 48
        · subst h48
          rw [beq_self_eq_true]
          refine s_iteT ⟨hw, ?_⟩
          show dIte (decide ((1 : Int) < (w.length : Int))) _ _
          refine dIte_of (fun h3 => ?_) fun h3 => ?_
          · have h3 := of_decide_eq_true h3
            refine fail fun z => ?_
            have z2 := z.2
            unfold isCanon at z2
            rw [hc, Bool.and_eq_true] at z2
            have z3 : (48 != 48 || r.isEmpty) = true := z2.2
            rw [show (48 != 48) = false from rfl, Bool.false_or, List.isEmpty_iff] at z3
            subst z3
            rw [List.length_nil] at lw
            omega
          · have h3 := of_decide_eq_false h3
            refine full (canon ?_)
            have : r.length = 0 := by omega
            rw [List.length_eq_zero_iff.mp this]
            rfl
        · have e : ((⟨#[c]⟩ : Str) == ⟨#[48]⟩) = false := by
            rw [beq_eq_false_iff_ne]
            intro z
            have := congrArg TL.tl z
            have : [c] = [48] := this
            exact h48 (List.cons.inj this).1
          rw [e]
          refine s_iteF (s_iteF (full (canon ?_)))
          rw [bne_iff_ne.mpr h48]
          rfl
    · rw [decide_eq_false (by omega)]
      exact s_iteT (fail fun z => h2 z.1)
  · have h1 := of_decide_eq_false h1
    refine s_iteT (fail fun z => ?_)
    have := List.length_pos_iff.mpr (canon_ne z.2)
    rw [← str_len] at this
    omega
end G
end

section
set_option Elab.async false
set_option linter.all false
set_option maxRecDepth 100000
set_option maxHeartbeats 4000000
namespace G
open PySem PySem.Spec PyProof.Rows L2 DL
/-! ### words joined by a blank, and cut again -/
theorem tl_eq (x : Str) : TL.tl x = x.cps.toList := rfl
theorem blank_tl : TL.tl (" " : Str) = [32] := by decide +kernel
def cnt (ps : List (List Nat)) : Nat := (ps.map fun p => 1 + p.count 32).sum
theorem cnt_joinL : ∀ ps : List (List Nat), ps ≠ [] → (TL.joinL [32] ps).count 32 + 1 = cnt ps
  | [], h => absurd rfl h
  | [p], _ => by
    show p.count 32 + 1 = 1 + p.count 32 + 0
    omega
  | p :: q :: r, _ => by
    have ih := cnt_joinL (q :: r) (by simp)
    show (p ++ ([32] ++ TL.joinL [32] (q :: r))).count 32 + 1 = 1 + p.count 32 + cnt (q :: r)
    rw [List.count_append, List.count_append, ← ih]
    have : ([32] : List Nat).count 32 = 1 := rfl
    omega
theorem len_joinL : ∀ ps : List (List Nat), (TL.joinL [32] ps).length ≤ (ps.map fun p => 1 + p.length).sum
  | [] => Nat.le_refl _
  | [p] => by
    show p.length ≤ 1 + p.length + 0
    omega
  | p :: q :: r => by
    have ih := len_joinL (q :: r)
    show (p ++ ([32] ++ TL.joinL [32] (q :: r))).length ≤ 1 + p.length + ((q :: r).map fun p => 1 + p.length).sum
    rw [List.length_append, List.length_append]
    have : ([32] : List Nat).length = 1 := rfl
    omega
theorem sub_joinL : ∀ ps : List (List Nat), ∀ p ∈ ps, p.length ≤ (TL.joinL [32] ps).length ∧ ∀ c ∈ p, c ∈ TL.joinL [32] ps
  | [], p, h => by cases h
  | [q], p, h => by
    rw [List.mem_singleton.mp h]
    exact ⟨Nat.le_refl _, fun c h => h⟩
  | a :: q :: r, p, h => by
    show p.length ≤ (a ++ ([32] ++ TL.joinL [32] (q :: r))).length ∧ ∀ c ∈ p, c ∈ a ++ ([32] ++ TL.joinL [32] (q :: r))
    rw [List.length_append, List.length_append]
    rcases List.mem_cons.mp h with rfl | h
    · exact ⟨by omega, fun c hc => List.mem_append_left _ hc⟩
    · obtain ⟨h1, h2⟩ := sub_joinL (q :: r) p h
      exact ⟨by omega, fun c hc => List.mem_append_right _ (List.mem_append_right _ (h2 c hc))⟩
theorem mem_joinL : ∀ ps : List (List Nat), ∀ c ∈ TL.joinL [32] ps, c = 32 ∨ ∃ p ∈ ps, c ∈ p
  | [], c, h => by cases h
  | [q], c, h => .inr ⟨q, List.mem_singleton.mpr rfl, h⟩
  | a :: q :: r, c, h => by
    have h : c ∈ a ++ ([32] ++ TL.joinL [32] (q :: r)) := h
    rcases List.mem_append.mp h with h | h
    · exact .inr ⟨a, List.mem_cons_self .., h⟩
    · rcases List.mem_append.mp h with h | h
      · exact .inl (List.mem_singleton.mp h)
      · rcases mem_joinL (q :: r) c h with h | ⟨p, h1, h2⟩
        · exact .inl h
        · exact .inr ⟨p, List.mem_cons_of_mem _ h1, h2⟩
theorem tl_joined (ws : List Str) : TL.tl (Txt.join " " ws) = TL.joinL [32] (ws.map TL.tl) := by
  rw [TL.join_eq, TL.tl_join, blank_tl]
theorem wt_cnt (ws : List Str) : wt ws = cnt (ws.map TL.tl) := by
  unfold wt cnt
  rw [List.map_map]
  rfl
theorem join_of_split (t : Str) : Txt.join " " (Txt.split t " ") = t := by
  rw [TL.join_eq, StrLaws.join_split]
theorem split_part (t : Str) : ∀ p ∈ Txt.split t " ", p.length ≤ t.length ∧ ∀ c ∈ p.cps.toList, c ∈ t.cps.toList := fun p hp => by
  have e := tl_joined (Txt.split t " ")
  rw [join_of_split] at e
  obtain ⟨h1, h2⟩ := sub_joinL _ (TL.tl p) (List.mem_map_of_mem hp)
  rw [← e] at h1 h2
  exact ⟨by rw [TL.len_tl p, TL.len_tl t]; exact h1, h2⟩
theorem blank_one : (" " : Str) = ⟨#[32]⟩ := TL.ext_tl blank_tl
theorem split_no (t : Str) : ∀ p ∈ Txt.split t " ", p.cps.toList.count 32 = 0 := fun p hp => by
  rw [blank_one] at hp
  exact List.count_eq_zero.mpr (StrLaws.split_free t 32 p hp)
theorem cnt_free : ∀ ws : List Str, (∀ p ∈ ws, p.cps.toList.count 32 = 0) → wt ws = ws.length
  | [], _ => rfl
  | w :: ws, h => by
    have ih := cnt_free ws fun p hp => h p (List.mem_cons_of_mem _ hp)
    show 1 + w.cps.toList.count 32 + wt ws = ws.length + 1
    rw [h w (List.mem_cons_self ..), ih]
    omega
theorem split_count (t : Str) : (Txt.split t " ").length ≤ t.cps.toList.count 32 + 1 := by
  by_cases c : Txt.split t " " = []
  · rw [c]
    exact Nat.zero_le _
  · have e := tl_joined (Txt.split t " ")
    rw [join_of_split] at e
    have k := cnt_joinL ((Txt.split t " ").map TL.tl) (fun z => c (List.map_eq_nil_iff.mp z))
    rw [← e, ← wt_cnt, cnt_free _ (split_no t)] at k
    rw [← k]
    exact Nat.le_refl _
theorem split_wt (ws : List Str) : (Txt.split (Txt.join " " ws) " ").length ≤ wt ws + 1 := by
  refine Nat.le_trans (split_count _) ?_
  by_cases c : ws = []
  · subst c
    decide +kernel
  · have k := cnt_joinL (ws.map TL.tl) (fun z => c (List.map_eq_nil_iff.mp z))
    rw [← tl_joined, ← wt_cnt] at k
    have : (Txt.join " " ws).cps.toList.count 32 + 1 = wt ws := k
    omega
theorem join_len {n L : Nat} {ws : List Str} (h : okWs n L ws) : okW (n * (L + 1)) (Txt.join " " ws) := by
  refine ⟨?_, fun c hc => ?_⟩
  · rw [TL.len_tl, tl_joined]
    refine Nat.le_trans (len_joinL _) ?_
    rw [List.map_map]
    have key : ∀ ws : List Str, (∀ w ∈ ws, w.length ≤ L) → (ws.map ((fun p : List Nat => 1 + p.length) ∘ TL.tl)).sum ≤ ws.length * (L + 1) := by
      intro ws
      induction ws with
      | nil => exact fun _ => Nat.zero_le _
      | cons w ws ih =>
        intro hw
        have h1 := ih fun v hv => hw v (List.mem_cons_of_mem _ hv)
        have h2 := hw w (List.mem_cons_self ..)
        rw [TL.len_tl] at h2
        rw [List.map_cons, List.sum_cons, List.length_cons, Nat.succ_mul]
        show 1 + (TL.tl w).length + _ ≤ _
        omega
    exact Nat.le_trans (key ws fun w hw => (h.2 w hw).1) (Nat.mul_le_mul_right _ h.1)
  · rw [← tl_eq, tl_joined] at hc
    rcases mem_joinL _ c hc with rfl | ⟨p, h1, h2⟩
    · decide
    · obtain ⟨w, hw, rfl⟩ := List.mem_map.mp h1
      exact (h.2 w hw).2 c h2
theorem sum_len {n L : Nat} {ws : List Str} (h : okWs n L ws) : (ws.map (·.length)).sum + ws.length * (" " : Str).length ≤ n * (L + 1) := by
  have e : (" " : Str).length = 1 := by decide +kernel
  rw [e]
  have key : ∀ ws : List Str, (∀ w ∈ ws, w.length ≤ L) → (ws.map (·.length)).sum + ws.length * 1 ≤ ws.length * (L + 1) := by
    intro ws
    induction ws with
    | nil => exact fun _ => by simp
    | cons w ws ih =>
      intro hw
      have h1 := ih fun v hv => hw v (List.mem_cons_of_mem _ hv)
      have h2 := hw w (List.mem_cons_self ..)
      rw [List.map_cons, List.sum_cons, List.length_cons, Nat.succ_mul ws.length (L + 1)]
      omega
  exact Nat.le_trans (key ws fun w hw => (h.2 w hw).1) (Nat.mul_le_mul_right _ h.1)
theorem split_okWs {L m : Nat} {t : Str} (h : okW L t) (hm : (Txt.split t " ").length ≤ m) : okWs m L (Txt.split t " ") :=
  ⟨hm, fun p hp => ⟨Nat.le_trans (split_part t p hp).1 h.1, fun c hc => h.2 c ((split_part t p hp).2 c hc)⟩⟩
end G
end

section
set_option Elab.async false
set_option linter.all false
set_option maxRecDepth 100000
set_option maxHeartbeats 4000000
namespace G
open PySem PySem.Spec PyProof.Rows L2 DL
local macro_rules | `(tactic| walk_at "ok1") => `(tactic| first | exact okD_int _ | exact okD_bl _ | exact okD_non | exact okD_str (by assumption) | assumption)
local macro_rules | `(tactic| walk_at "go1") => `(tactic| ((conv => whnf); first
  | refine s_iteT ?_ | refine s_iteF ?_
  | refine ⟨⟨by walk_at "ok1", by walk_at "ok1"⟩, ?_⟩
  | refine ⟨_, rfl, ?_⟩
  | refine ⟨rfl, ?_⟩
  | refine ⟨Nat.le_of_ble_eq_true rfl, ?_⟩
  | refine ⟨_, isB_tuple (by assumption), ?_⟩
  | refine ⟨_, isB_list (by assumption), ?_⟩
  | refine ⟨_, isB_bool (by assumption), ?_⟩
  | refine ⟨_, isB_int (by assumption), ?_⟩
  | refine ⟨_, isB_str (by assumption), ?_⟩
  | refine ⟨_, by assumption, ?_⟩
  | refine s_ite1 (by assumption) ?_ | refine s_ite0 (by assumption) ?_))
local macro_rules | `(tactic| walk_at "go") => `(tactic| repeat walk_at "go1")
/-! a number in the lines: None or from 0 on, of at most nine digits -/
def okE (o : Option Nat) : Prop := ∀ n, o = some n → n < 10 ^ 9
def F_entry : FM := fun rs Qd => rs = [.pool] ∧ ∀ o, okE o → Qd (.val (optN o))
theorem entry_body {D : FM} (hD : ∀ rs Q, F_draw rs Q → D rs Q) : ∀ rs Qd, F_entry rs Qd → bodyF 1 (m_law_entry D) rs Qd := by
  rintro rs Qd ⟨rfl, q⟩
  unfold m_law_entry
  show dRet _ _ [some .pool]
  walk_at "go"
  refine hD _ _ ⟨9, rfl, ⟨by decide, by decide +kernel⟩, fun a a1 a2 => ?_⟩
  walk_at "go"
  refine hD _ _ ⟨1000, rfl, ⟨by decide, by decide +kernel⟩, fun b b1 b2 => ?_⟩
  walk_at "go"
  refine hD _ _ ⟨3, rfl, ⟨by decide, by decide +kernel⟩, fun c c1 c2 => ?_⟩
  walk_at "go"
  refine hD _ _ ⟨4, rfl, ⟨by decide, by decide +kernel⟩, fun d d1 d2 => ?_⟩
  obtain ⟨x, rfl⟩ : ∃ x : Nat, a = (x : Int) := ⟨a.toNat, by omega⟩
  obtain ⟨y, rfl⟩ : ∃ y : Nat, b = (y : Int) := ⟨b.toNat, by omega⟩
  obtain ⟨z, hz⟩ : ∃ z : Nat, (999999999 : Int) - c = (z : Int) := ⟨((999999999 : Int) - c).toNat, by omega⟩
  have hd : d = 0 ∨ d = 1 ∨ d = 2 ∨ d = 3 := by omega
  rcases hd with rfl | rfl | rfl | rfl
  · exact ⟨_, DL.atI_nat (k := 0) rfl, q none fun n h => nomatch h⟩
  · exact ⟨_, DL.atI_nat (k := 1) rfl, q (some x) fun n h => by cases h; omega⟩
  · exact ⟨_, DL.atI_nat (k := 2) rfl, q (some y) fun n h => by cases h; omega⟩
  · refine ⟨_, DL.atI_nat (k := 3) rfl, ?_⟩
    show Qd (.val (.int ((999999999 : Int) - c)))
    rw [hz]
    exact q (some z) fun n h => by cases h; omega
theorem optN_int (n : Nat) : optN (some n) = .int (n : Int) := rfl
theorem num_okW {n : Nat} (h : n < 10 ^ 9) : okW 9 (numW n) := by
  have e : (numW n).cps.toList = TL.numL n := TL.tl_num n
  refine ⟨?_, fun c hc => ?_⟩
  · rw [str_len, e]
    exact TL.numL_len (by decide) h
  · rw [e] at hc
    have := TL.numL_digits n c hc
    omega
theorem dash_okW : okW 9 "-" := ⟨by decide +kernel, by decide +kernel⟩
theorem num_log {n : Nat} (h : n < 10 ^ 9) : ((n : Int)).natAbs.log2 < 1920 := by
  show n.log2 < 1920
  by_cases c : n = 0
  · rw [c]
    decide
  · have := (Nat.log2_lt (n := n) (k := 30) c).mpr (by omega)
    omega
def F_line : FM := fun rs Qd => ∃ os : List (Option Nat), rs = [.val (.lst (os.map optN))] ∧ os.length ≤ 100 ∧ (∀ o ∈ os, okE o) ∧ ∀ t, okW (os.length * 10) t → Qd (.val (.str t))
theorem line_loop {E : DEn} {a0 : Option Nv} {N : Nat} (hN : N ≤ 100) (q : ∀ ws y, okWs N 9 ws → E.nx [a0, some (.own (ws.map D.str)), y]) : ∀ (os : List (Option Nat)) (ws : List Str) (n : Nat) (y : Option Nv), okWs n 9 ws → n + os.length ≤ N → (∀ o ∈ os, okE o) →
    dLoop (dName 2) (dApp 1 (dOp mIx (dTup (dCons (dKeep (dC (.str "-"))) (dCons (dKeep (dCB mStrN (dCons (dVar 2) dNil))) dNil))) (dCB mInt (dCons (dOp mIsN (dVar 2) (dC .non)) dNil)))) E (os.map optN) [a0, some (.own (ws.map D.str)), y]
  | [], ws, n, y, h, hn, ho => q ws y (h.mono (by rw [List.length_nil] at hn; omega) (Nat.le_refl _))
  | o :: os, ws, n, y, h, hn, ho => by
    rw [List.length_cons] at hn
    have next : ∀ w, okW 9 w → ws.length < sizeLine ∧ dLoop (dName 2) (dApp 1 (dOp mIx (dTup (dCons (dKeep (dC (.str "-"))) (dCons (dKeep (dCB mStrN (dCons (dVar 2) dNil))) dNil))) (dCB mInt (dCons (dOp mIsN (dVar 2) (dC .non)) dNil)))) E (os.map optN) [a0, some (.own (ws.map D.str ++ [D.str w])), some (.val (optN o))] := fun w hw => by
      have key := line_loop hN q os (ws ++ [w]) (n + 1) (some (.val (optN o))) (h.app ⟨Nat.le_refl 1, fun v hv => by rw [List.mem_singleton.mp hv]; exact hw⟩) (by omega) fun o ho' => ho o (List.mem_cons_of_mem _ ho')
      rw [List.map_append] at key
      refine ⟨?_, key⟩
      have := h.1
      unfold sizeLine
      omega
    have hz : (ws.map D.str).length = ws.length := List.length_map ..
    cases o with
    | none =>
      have k := next "-" dash_okW
      walk_at "go"
      exact ⟨by rw [hz]; exact k.1, k.2⟩
    | some m =>
      have hm := ho (some m) (List.mem_cons_self ..) m rfl
      have k := next (numW m) (num_okW hm)
      refine ⟨num_log hm, ?_⟩
      walk_at "go"
      exact ⟨by rw [hz]; exact k.1, k.2⟩
theorem line_body : ∀ rs Qd, F_line rs Qd → bodyF 3 m_law_text rs Qd := by
  rintro rs Qd ⟨os, rfl, h1, h2, q⟩
  unfold m_law_text
  show dSeq _ _ _ [some (.val _), none, none]
  refine ⟨[], rfl, by decide, ?_⟩
  refine line_loop h1 (fun ws y hw => ?_) os [] 0 none ⟨Nat.le_refl _, fun w hw => by cases hw⟩ (by omega) h2
  have hs := sum_len hw
  refine ⟨⟨_, rfl⟩, ws, strsOf_map ws, by omega, ?_⟩
  exact q _ (join_len hw)
def F_menu : FM := fun rs Qd => ∃ ws : List Str, rs = [.pool, .val (.lst (ws.map D.str))] ∧ ws.length ≤ 4000 ∧ ∀ w, (okW 11 w ∨ w ∈ ws) → Qd (.val (.str w))
abbrev menuA : List Str := ["best", "none", "-", "--", "0", "1", "2", "7", "8", "9", "00", "01", "-1", "+1", "1_0", "", "x", "1/2", "Best", "bests"]
abbrev menuB : List Str := ["1\n", "\t1", "999999999", "1000000000", "-0"]
theorem menuAB : ∀ w ∈ menuA ++ menuB, w.length ≤ 11 ∧ ∀ c ∈ w.cps.toList, c < 128 := by decide +kernel
theorem menu_body {D : FM} (hD : ∀ rs Q, F_draw rs Q → D rs Q) : ∀ rs Qd, F_menu rs Qd → bodyF 3 (m_law_menu D) rs Qd := by
  rintro rs Qd ⟨ws, rfl, hl, q⟩
  unfold m_law_menu
  show dSeq _ _ _ [some .pool, some (.val _), none]
  refine ⟨menuA.map DL.D.str, rfl, by decide +kernel, ?_⟩
  refine ⟨menuB.map DL.D.str, rfl, by decide +kernel, ?_⟩
  refine ⟨by decide +kernel, ?_⟩
  show (menuA.map DL.D.str ++ menuB.map DL.D.str).length + (ws.map DL.D.str).length ≤ sizeLine ∧ _
  have e : (menuA.map DL.D.str ++ menuB.map DL.D.str).length = 25 := by decide +kernel
  refine ⟨by rw [e, List.length_map]; unfold sizeLine; omega, ?_⟩
  have el : ((menuA.map DL.D.str ++ menuB.map DL.D.str) ++ ws.map DL.D.str) = ((menuA ++ menuB) ++ ws).map DL.D.str := by rw [List.map_append, List.map_append]
  show dRet (dOp mIx (dVar 2) (dCall D (dCons (dKeep (dVar 0)) (dCons (dKeep (dCB mLen (dCons (dVar 2) dNil))) dNil)))) { nx := fun _ => Qd (.val .non), rt := fun _ r => Qd r } [some .pool, some (.val (.lst (ws.map DL.D.str))), some (.own ((menuA.map DL.D.str ++ menuB.map DL.D.str) ++ ws.map DL.D.str))]
  rw [el]
  have e2 : (((menuA ++ menuB) ++ ws).map DL.D.str).length = 25 + ws.length := by rw [← el, List.length_append, e, List.length_map]
  refine ⟨rfl, hD _ _ ⟨_, rfl, ?_, fun r h1 h2 => ?_⟩⟩
  · show CDivW 0 (((((menuA ++ menuB) ++ ws).map DL.D.str).length : Nat) : Int)
    rw [e2]
    exact lg' (by omega) (by omega)
  · rw [e2] at h2
    obtain ⟨k, rfl⟩ : ∃ k : Nat, r = (k : Int) := ⟨r.toNat, by omega⟩
    have hk : k < ((menuA ++ menuB) ++ ws).length := by
      have : ((menuA ++ menuB) ++ ws).length = 25 + ws.length := by rw [← e2, List.length_map]
      omega
    obtain ⟨w, hw⟩ : ∃ w, ((menuA ++ menuB) ++ ws)[k]? = some w := ⟨_, List.getElem?_eq_getElem hk⟩
    refine ⟨_, DL.atI_nat (by rw [List.getElem?_map, hw]; rfl), ?_⟩
    refine q w ?_
    rcases List.mem_append.mp (List.mem_of_getElem? hw) with h | h
    · exact .inl (menuAB w h)
    · exact .inr h
end G
end

section
set_option Elab.async false
set_option linter.all false
set_option maxRecDepth 100000
set_option maxHeartbeats 4000000
namespace G
open PySem PySem.Spec PyProof.Rows L2 DL
/-! ### how long words are when they are joined by a blank -/
def ln (ws : List Str) : Nat := (ws.map fun w => 1 + w.length).sum
def asc (ws : List Str) : Prop := ∀ w ∈ ws, ∀ c ∈ w.cps.toList, c < 128
theorem ln_app (a b : List Str) : ln (a ++ b) = ln a + ln b := by unfold ln; rw [List.map_append, List.sum_append]
theorem ln_out (ws : List Str) {p q : Nat} (h : p ≤ q) : ln (ws.take p ++ ws.drop q) ≤ ln ws := by
  have e := congrArg ln (List.take_append_drop p ws)
  rw [ln_app] at e
  have e2 := congrArg ln (List.take_append_drop (q - p) (ws.drop p))
  rw [ln_app, List.drop_drop, show p + (q - p) = q by omega] at e2
  rw [ln_app]
  omega
theorem ln_one (w : Str) : ln [w] = 1 + w.length := by
  show 1 + w.length + 0 = _
  omega
theorem ln_put (ws : List Str) (w : Str) {p q : Nat} (h : p ≤ q) : ln (ws.take p ++ [w] ++ ws.drop q) ≤ ln ws + 1 + w.length := by
  have e := ln_out ws h
  have e2 := ln_one w
  rw [ln_app] at e
  rw [ln_app, ln_app]
  omega
theorem asc.app {a b : List Str} (h : asc a) (k : asc b) : asc (a ++ b) := fun w hw => (List.mem_append.mp hw).elim (h w) (k w)
theorem asc.take {a : List Str} (h : asc a) (n : Nat) : asc (a.take n) := fun w hw => h w (List.mem_of_mem_take hw)
theorem asc.drop {a : List Str} (h : asc a) (n : Nat) : asc (a.drop n) := fun w hw => h w (List.mem_of_mem_drop hw)
theorem asc.one {w : Str} (h : ∀ c ∈ w.cps.toList, c < 128) : asc [w] := fun v hv => by rw [List.mem_singleton.mp hv]; exact h
theorem lenL_eq : ∀ ps : List (List Nat), ps ≠ [] → (TL.joinL [32] ps).length + 1 = (ps.map fun p => 1 + p.length).sum
  | [], h => absurd rfl h
  | [p], _ => by
    show p.length + 1 = 1 + p.length + 0
    omega
  | p :: q :: r, _ => by
    have ih := lenL_eq (q :: r) (by simp)
    show (p ++ ([32] ++ TL.joinL [32] (q :: r))).length + 1 = 1 + p.length + ((q :: r).map fun p => 1 + p.length).sum
    rw [List.length_append, List.length_append, ← ih]
    have : ([32] : List Nat).length = 1 := rfl
    omega
theorem ln_tl (ws : List Str) : ((ws.map TL.tl).map fun p => 1 + p.length).sum = ln ws := by
  unfold ln
  rw [List.map_map]
  rfl
theorem join_ln {ws : List Str} {M : Nat} (h : asc ws) (hm : ln ws ≤ M) : okW M (Txt.join " " ws) := by
  refine ⟨?_, fun c hc => ?_⟩
  · rw [TL.len_tl, tl_joined]
    have := len_joinL (ws.map TL.tl)
    rw [ln_tl] at this
    omega
  · rw [← tl_eq, tl_joined] at hc
    rcases mem_joinL _ c hc with rfl | ⟨p, h1, h2⟩
    · decide
    · obtain ⟨w, hw, rfl⟩ := List.mem_map.mp h1
      exact h w hw c h2
theorem split_ln {t : Str} {L : Nat} (h : okW L t) : ln (Txt.split t " ") ≤ L + 1 ∧ asc (Txt.split t " ") ∧ Txt.split t " " ≠ [] := by
  have hne : Txt.split t " " ≠ [] := by
    intro z
    have e := TL.split_spl t " " (by rw [blank_tl]; simp) (TL.kind_ok (by decide +kernel))
    rw [z] at e
    have ne : ∀ (l acc : List Nat) (k : Nat), TL.spl [32] k acc l ≠ [] := by
      intro l
      induction l with
      | nil =>
        intro acc k
        rw [TL.spl_nil]
        simp
      | cons c r ih =>
        intro acc k
        cases k with
        | zero =>
          show (if TL.pre [32] (c :: r) = true then acc :: TL.spl [32] ([32].length - 1) [] r else TL.spl [32] 0 (acc ++ [c]) r) ≠ []
          split
          · simp
          · exact ih _ _
        | succ k => exact ih acc k
    exact ne _ _ _ e.symm
  refine ⟨?_, fun p hp c hc => h.2 c ((split_part t p hp).2 c hc), hne⟩
  have e := tl_joined (Txt.split t " ")
  rw [join_of_split] at e
  have k := lenL_eq ((Txt.split t " ").map TL.tl) (fun z => hne (List.map_eq_nil_iff.mp z))
  rw [← e, ln_tl] at k
  have h1 := h.1
  rw [TL.len_tl] at h1
  omega
theorem ln_mem {ws : List Str} {w : Str} (h : w ∈ ws) : 1 + w.length ≤ ln ws := by
  induction ws with
  | nil => cases h
  | cons v ws ih =>
    show _ ≤ 1 + v.length + ln ws
    rcases List.mem_cons.mp h with rfl | h
    · omega
    · have := ih h
      omega
theorem ln_len (ws : List Str) : ws.length ≤ ln ws := by
  induction ws with
  | nil => exact Nat.le_refl _
  | cons v ws ih =>
    show ws.length + 1 ≤ 1 + v.length + ln ws
    omega
end G
end

section
set_option Elab.async false
set_option linter.all false
set_option maxRecDepth 100000
set_option maxHeartbeats 4000000
namespace G
open PySem PySem.Spec PyProof.Rows L2 DL
local macro_rules | `(tactic| walk_at "ok1") => `(tactic| first | exact okD_int _ | exact okD_bl _ | exact okD_non | exact okD_str (by assumption) | assumption)
local macro_rules | `(tactic| walk_at "go1") => `(tactic| ((conv => whnf); first
  | refine s_iteT ?_ | refine s_iteF ?_
  | refine ⟨⟨by walk_at "ok1", by walk_at "ok1"⟩, ?_⟩
  | refine ⟨_, rfl, ?_⟩
  | refine ⟨rfl, ?_⟩
  | refine ⟨Nat.le_of_ble_eq_true rfl, ?_⟩
  | refine ⟨_, isB_tuple (by assumption), ?_⟩
  | refine ⟨_, isB_list (by assumption), ?_⟩
  | refine ⟨_, isB_bool (by assumption), ?_⟩
  | refine ⟨_, isB_int (by assumption), ?_⟩
  | refine ⟨_, isB_str (by assumption), ?_⟩
  | refine ⟨_, by assumption, ?_⟩
  | refine s_ite1 (by assumption) ?_ | refine s_ite0 (by assumption) ?_))
local macro_rules | `(tactic| walk_at "go") => `(tactic| repeat walk_at "go1")
abbrev c_way : DSM :=
  (dIfS (dB (dOp mEq (dVar 7) (dC (.int 0))))
  (dSet 1 (dOp mAdd (dSl (dVar 1) dNoPart (dPart (dVar 3))) (dSl (dVar 1) (dPart (dOp mAdd (dVar 3) (dC (.int 1)))) dNoPart)))
  (dIfS (dB (dOp mEq (dVar 7) (dC (.int 1))))
  (dSet 1 (dOp mAdd (dOp mAdd (dSl (dVar 1) dNoPart (dPart (dVar 3))) (dSl (dVar 1) (dPart (dVar 4)) (dPart (dOp mAdd (dVar 4) (dC (.int 1)))))) (dSl (dVar 1) (dPart (dVar 3)) dNoPart)))
  (dIfS (dB (dOp mEq (dVar 7) (dC (.int 2))))
  (dSet 1 (dOp mAdd (dOp mAdd (dSl (dVar 1) dNoPart (dPart (dVar 3))) (dLst (dCons (dKeep (dC (.str ""))) dNil))) (dSl (dVar 1) (dPart (dVar 3)) dNoPart)))
  (dIfS (dB (dOp mEq (dVar 7) (dC (.int 3))))
  (dSet 1 (dOp mAdd (dOp mAdd (dOp mAdd (dSl (dVar 1) dNoPart (dPart (dVar 3))) (dSl (dVar 1) (dPart (dOp mAdd (dVar 3) (dC (.int 1)))) (dPart (dOp mAdd (dVar 3) (dC (.int 2)))))) (dSl (dVar 1) (dPart (dVar 3)) (dPart (dOp mAdd (dVar 3) (dC (.int 1)))))) (dSl (dVar 1) (dPart (dOp mAdd (dVar 3) (dC (.int 2)))) dNoPart)))
  (dIfS (dB (dOp mEq (dVar 7) (dC (.int 4))))
  (dSet 5 (dOp mAdd (dSl (dVar 5) dNoPart (dPart (dVar 6))) (dSl (dVar 5) (dPart (dOp mAdd (dVar 6) (dC (.int 1)))) dNoPart)))
  (dIfS (dB (dOp mEq (dVar 7) (dC (.int 5))))
  (dSet 5 (dOp mAdd (dOp mAdd (dSl (dVar 5) dNoPart (dPart (dVar 6))) (dLst (dCons (dKeep (dCall F_menu (dCons (dKeep (dVar 0)) (dCons (dKeep (dVar 5)) dNil)))) dNil))) (dSl (dVar 5) (dPart (dVar 6)) dNoPart)))
  (dIfS (dB (dOp mEq (dVar 7) (dC (.int 6))))
  (dSeq (dSet 8 (dOp mIx (dVar 5) (dVar 6)))
  (dSeq (dSet 9 (dCall F_draw (dCons (dKeep (dVar 0)) (dCons (dKeep (dOp mAdd (dCB mLen (dCons (dVar 8) dNil)) (dC (.int 1)))) dNil))))
  (dSeq (dSet 10 (dC (.str "0123456789-+_ .abenost\t\n")))
  (dSeq (dSet 8 (dOp mAdd (dOp mAdd (dSl (dVar 8) dNoPart (dPart (dVar 9))) (dOp mIx (dVar 10) (dCall F_draw (dCons (dKeep (dVar 0)) (dCons (dKeep (dCB mLen (dCons (dVar 10) dNil))) dNil))))) (dSl (dVar 8) (dPart (dOp mAdd (dVar 9) (dCall F_draw (dCons (dKeep (dVar 0)) (dCons (dKeep (dC (.int 2))) dNil))))) dNoPart)))
  (dSet 5 (dOp mAdd (dOp mAdd (dSl (dVar 5) dNoPart (dPart (dVar 6))) (dLst (dCons (dKeep (dVar 8)) dNil))) (dSl (dVar 5) (dPart (dOp mAdd (dVar 6) (dC (.int 1)))) dNoPart)))))))
  (dSet 5 (dOp mAdd (dOp mAdd (dSl (dVar 5) dNoPart (dPart (dVar 6))) (dLst (dCons (dKeep (dCall F_menu (dCons (dKeep (dVar 0)) (dCons (dKeep (dVar 5)) dNil)))) dNil))) (dSl (dVar 5) (dPart (dOp mAdd (dVar 6) (dC (.int 1)))) dNoPart))))))))))
abbrev c_tail : DSM :=
  (dIfS (dAnd (dB (dOp mGtA (dVar 7) (dC (.int 3)))) (dB (dOp mLtA (dVar 3) (dCB mLen (dCons (dVar 1) dNil)))))
  (dSet 1 (dOp mAdd (dOp mAdd (dSl (dVar 1) dNoPart (dPart (dVar 3))) (dLst (dCons (dKeep (dM1 mJoin (dC (.str " ")) (dVar 5))) dNil))) (dSl (dVar 1) (dPart (dOp mAdd (dVar 3) (dC (.int 1)))) dNoPart)))
  dNext)
abbrev c_step : DSM :=
  (dSeq (dSet 3 (dCall F_draw (dCons (dKeep (dVar 0)) (dCons (dKeep (dOp mAdd (dCB mLen (dCons (dVar 1) dNil)) (dC (.int 1)))) dNil))))
  (dSeq (dSet 4 (dCall F_draw (dCons (dKeep (dVar 0)) (dCons (dKeep (dOp mAdd (dCB mLen (dCons (dVar 1) dNil)) (dC (.int 1)))) dNil))))
  (dSeq (dSet 5 (dM1 mSplit (dM1 mJoin (dC (.str " ")) (dSl (dVar 1) (dPart (dVar 3)) (dPart (dOp mAdd (dVar 3) (dC (.int 1)))))) (dC (.str " "))))
  (dSeq (dSet 6 (dCall F_draw (dCons (dKeep (dVar 0)) (dCons (dKeep (dCB mLen (dCons (dVar 5) dNil))) dNil))))
  (dSeq (dSet 7 (dCall F_draw (dCons (dKeep (dVar 0)) (dCons (dKeep (dC (.int 10))) dNil)))) (dSeq c_way c_tail))))))
theorem chg_same : m_law_changed F_draw F_menu = (dSeq (dFor (dRng1 (dCall F_draw (dCons (dKeep (dVar 0)) (dCons (dKeep (dC (.int 4))) dNil)))) (dName 2) c_step) (dRet (dVar 1))) := rfl
theorem len_cutN (ws : List Str) (p : Nat) : (DL.cutD (ws.map D.str) none (some (p : Int))).length ≤ ws.length := by
  rw [cut_to, List.length_take, List.length_map]
  omega
theorem tail_ok {E : DEn} {n L M : Nat} {ls ws : List Str} {r1 : Nv} {p : Nat} {w : Int} {y2 y4 y6 y8 y9 y10 : Option Nv} (hl : okWs n L ls) (hr : wEnt ls r1) (hw : asc ws) (hm : ln ws ≤ M) (hLM : L ≤ M) (hn : n ≤ 100000) (hM : M ≤ 100000)
    (q : ∀ vs r y5 , okWs (n + 1) M vs → wEnt vs r → E.nx [some .pool, some r, y2, some (.val (.int p)), y4, y5, y6, some (.val (.int w)), y8, y9, y10]) :
    c_tail E [some .pool, some r1, y2, some (.val (.int p)), y4, some (.own (ws.map D.str)), y6, some (.val (.int w)), y8, y9, y10] := by
  have stay : ∀ r, wEnt ls r → E.nx [some .pool, some r, y2, some (.val (.int p)), y4, some (.own (ws.map D.str)), y6, some (.val (.int w)), y8, y9, y10] := fun r h => q ls r _ (hl.mono (Nat.le_succ n) hLM) h
  have hl1 := hl.1
  show dIte (decide ((3 : Int) < w)) _ _
  refine dIte_of (fun h1 => ?_) fun h1 => s_iteF (stay _ hr)
  rcases hr with rfl | rfl
  all_goals
    show dIte (decide ((p : Int) < (((ls.map D.str).length : Nat) : Int))) _ _
    refine dIte_of (fun h2 => ?_) fun h2 => stay _ (by first | exact .inl rfl | exact .inr rfl)
    have h2 := of_decide_eq_true h2
    rw [List.length_map] at h2
    have hb : (ws.map (·.length)).sum + ws.length * (" " : Str).length ≤ 16777216 := by
      have e : (" " : Str).length = 1 := by decide +kernel
      have : (ws.map (·.length)).sum + ws.length * 1 = ln ws := by
        clear hw hm q stay
        induction ws with
        | nil => rfl
        | cons v ws ih =>
          show v.length + (ws.map (·.length)).sum + (ws.length + 1) * 1 = 1 + v.length + ln ws
          omega
      rw [e]
      omega
    refine ⟨⟨_, rfl⟩, ws, strsOf_map ws, hb, ?_⟩
    refine ⟨[.str (Txt.join " " ws)], rfl, by show 1 ≤ sizeLine; decide, ?_⟩
    show (DL.cutD (ls.map D.str) none (some (p : Int))).length + 1 ≤ sizeLine ∧ _
    rw [cut_to]
    refine ⟨by rw [List.length_take]; unfold sizeLine; omega, ?_⟩
    show ((ls.map D.str).take p ++ [D.str (Txt.join " " ws)]).length + (DL.cutD (ls.map D.str) (some ((p : Int) + 1)) none).length ≤ sizeLine ∧ E.nx [_, some (.own (((ls.map D.str).take p ++ [D.str (Txt.join " " ws)]) ++ DL.cutD (ls.map D.str) (some ((p : Int) + 1)) none)), _, _, _, _, _, _, _, _, _]
    rw [cut_from1]
    refine ⟨by rw [List.length_append, List.length_take, List.length_drop, List.length_singleton, List.length_map]; unfold sizeLine; omega, ?_⟩
    have k := q (ls.take p ++ [Txt.join " " ws] ++ ls.drop (p + 1)) (.own _) (some (.own (ws.map D.str))) ((hl.mono (Nat.le_refl n) hLM).put (join_ln hw hm) p (p + 1) (Nat.le_succ p)) (.inr rfl)
    rw [List.map_append, List.map_append, List.map_take, List.map_drop] at k
    exact k
theorem way_lines {E : DEn} {n L : Nat} {ls ws : List Str} {r1 : Nv} {p o a : Nat} {w : Int} {y2 y8 y9 y10 : Option Nv} (hl : okWs n L ls) (hr : wEnt ls r1) (hn : n ≤ 20000) (hL : L ≤ 20000) (hw4 : w = 0 ∨ w = 1 ∨ w = 2 ∨ w = 3)
    (q : ∀ vs r y8 y9 y10, okWs (4 * n + 1) L vs → wEnt vs r → E.nx [some .pool, some r, y2, some (.val (.int p)), some (.val (.int o)), some (.own (ws.map D.str)), some (.val (.int a)), some (.val (.int w)), y8, y9, y10]) :
    c_way E [some .pool, some r1, y2, some (.val (.int p)), some (.val (.int o)), some (.own (ws.map D.str)), some (.val (.int a)), some (.val (.int w)), y8, y9, y10] := by
  have hl1 := hl.1
  have el : eqD (.int 0) (.int 0) = true := by rw [eqD_int]; rfl
  obtain ⟨v1, e1, k1⟩ := cut_strs ls none (some (p : Int))
  obtain ⟨v2, e2, k2⟩ := cut_strs ls (some ((p : Int) + 1)) none
  obtain ⟨v3, e3, k3⟩ := cut_strs ls (some (o : Int)) (some ((o : Int) + 1))
  obtain ⟨v4, e4, k4⟩ := cut_strs ls (some (p : Int)) none
  obtain ⟨v5, e5, k5⟩ := cut_strs ls (some ((p : Int) + 1)) (some ((p : Int) + 2))
  obtain ⟨v6, e6, k6⟩ := cut_strs ls (some (p : Int)) (some ((p : Int) + 1))
  obtain ⟨v7, e7, k7⟩ := cut_strs ls (some ((p : Int) + 2)) none
  have k1 := k1 n L hl
  have k2 := k2 n L hl
  have k3 := k3 n L hl
  have k4 := k4 n L hl
  have k5 := k5 n L hl
  have k6 := k6 n L hl
  have k7 := k7 n L hl
  have l1 := k1.1
  have l2 := k2.1
  have l3 := k3.1
  have l4 := k4.1
  have l5 := k5.1
  have l6 := k6.1
  have l7 := k7.1
  have em : okWs 1 L [("" : Str)] := ⟨Nat.le_refl _, fun w hw => by rw [List.mem_singleton.mp hw]; exact ⟨Nat.zero_le _, fun c hc => by cases hc⟩⟩
  rcases hr with rfl | rfl
  all_goals
    rcases hw4 with rfl | rfl | rfl | rfl
    · walk_at "go"
      show (DL.cutD (ls.map D.str) none (some (p : Int))).length + (DL.cutD (ls.map D.str) (some ((p : Int) + 1)) none).length ≤ sizeLine ∧ _
      rw [e1, e2]
      refine ⟨by rw [List.length_map, List.length_map]; unfold sizeLine; omega, ?_⟩
      have k := q (v1 ++ v2) (.own _) y8 y9 y10 ((k1.app k2).mono (by omega) (Nat.le_refl _)) (.inr rfl)
      rw [List.map_append] at k
      exact k
    · walk_at "go"
      show (DL.cutD (ls.map D.str) none (some (p : Int))).length + (DL.cutD (ls.map D.str) (some (o : Int)) (some ((o : Int) + 1))).length ≤ sizeLine ∧ _
      rw [e1, e3]
      refine ⟨by rw [List.length_map, List.length_map]; unfold sizeLine; omega, ?_⟩
      show (v1.map D.str ++ v3.map D.str).length + (DL.cutD (ls.map D.str) (some (p : Int)) none).length ≤ sizeLine ∧ E.nx [_, some (.own ((v1.map D.str ++ v3.map D.str) ++ DL.cutD (ls.map D.str) (some (p : Int)) none)), _, _, _, _, _, _, _, _, _]
      rw [e4]
      refine ⟨by rw [List.length_append, List.length_map, List.length_map, List.length_map]; unfold sizeLine; omega, ?_⟩
      have k := q (v1 ++ v3 ++ v4) (.own _) y8 y9 y10 (((k1.app k3).app k4).mono (by omega) (Nat.le_refl _)) (.inr rfl)
      rw [List.map_append, List.map_append] at k
      exact k
    · walk_at "go"
      show (DL.cutD (ls.map D.str) none (some (p : Int))).length + 1 ≤ sizeLine ∧ _
      rw [e1]
      refine ⟨by rw [List.length_map]; unfold sizeLine; omega, ?_⟩
      show (v1.map D.str ++ [D.str ""]).length + (DL.cutD (ls.map D.str) (some (p : Int)) none).length ≤ sizeLine ∧ E.nx [_, some (.own ((v1.map D.str ++ [D.str ""]) ++ DL.cutD (ls.map D.str) (some (p : Int)) none)), _, _, _, _, _, _, _, _, _]
      rw [e4]
      refine ⟨by rw [List.length_append, List.length_map, List.length_map, List.length_singleton]; unfold sizeLine; omega, ?_⟩
      have k := q (v1 ++ [("" : Str)] ++ v4) (.own _) y8 y9 y10 (((k1.app em).app k4).mono (by omega) (Nat.le_refl _)) (.inr rfl)
      rw [List.map_append, List.map_append] at k
      exact k
    · walk_at "go"
      show (DL.cutD (ls.map D.str) none (some (p : Int))).length + (DL.cutD (ls.map D.str) (some ((p : Int) + 1)) (some ((p : Int) + 2))).length ≤ sizeLine ∧ _
      rw [e1, e5]
      refine ⟨by rw [List.length_map, List.length_map]; unfold sizeLine; omega, ?_⟩
      show (v1.map D.str ++ v5.map D.str).length + (DL.cutD (ls.map D.str) (some (p : Int)) (some ((p : Int) + 1))).length ≤ sizeLine ∧ _
      rw [e6]
      refine ⟨by rw [List.length_append, List.length_map, List.length_map, List.length_map]; unfold sizeLine; omega, ?_⟩
      show ((v1.map D.str ++ v5.map D.str) ++ v6.map D.str).length + (DL.cutD (ls.map D.str) (some ((p : Int) + 2)) none).length ≤ sizeLine ∧ E.nx [_, some (.own (((v1.map D.str ++ v5.map D.str) ++ v6.map D.str) ++ DL.cutD (ls.map D.str) (some ((p : Int) + 2)) none)), _, _, _, _, _, _, _, _, _]
      rw [e7]
      refine ⟨by rw [List.length_append, List.length_append, List.length_map, List.length_map, List.length_map, List.length_map]; unfold sizeLine; omega, ?_⟩
      have k := q (v1 ++ v5 ++ v6 ++ v7) (.own _) y8 y9 y10 ((((k1.app k5).app k6).app k7).mono (by omega) (Nat.le_refl _)) (.inr rfl)
      rw [List.map_append, List.map_append, List.map_append] at k
      exact k
abbrev signsP : Str := "0123456789-+_ .abenost\t\n"
theorem signsP_ok : signsP.length = 24 ∧ ∀ c ∈ signsP.cps.toList, c < 128 := by decide +kernel
theorem way_words {E : DEn} {L : Nat} {ws : List Str} {r1 y2 : Option Nv} {p o a : Nat} {w : Int} {y8 y9 y10 : Option Nv} (hw : asc ws) (hm : ln ws ≤ L + 2) (ha : a < ws.length) (hL : L ≤ 3000) (hw4 : 4 ≤ w ∧ w < 10)
    (q : ∀ us y8 y9 y10, asc us → ln us ≤ 3 * L + 20 → E.nx [some .pool, r1, y2, some (.val (.int p)), some (.val (.int o)), some (.own (us.map D.str)), some (.val (.int a)), some (.val (.int w)), y8, y9, y10]) :
    c_way E [some .pool, r1, y2, some (.val (.int p)), some (.val (.int o)), some (.own (ws.map D.str)), some (.val (.int a)), some (.val (.int w)), y8, y9, y10] := by
  have hlen := ln_len ws
  have n0 : eqD (.int w) (.int 0) = false := by rw [eqD_int]; exact beq_eq_false_iff_ne.mpr (by omega)
  have n1 : eqD (.int w) (.int 1) = false := by rw [eqD_int]; exact beq_eq_false_iff_ne.mpr (by omega)
  have n2 : eqD (.int w) (.int 2) = false := by rw [eqD_int]; exact beq_eq_false_iff_ne.mpr (by omega)
  have n3 : eqD (.int w) (.int 3) = false := by rw [eqD_int]; exact beq_eq_false_iff_ne.mpr (by omega)
  have okw : ∀ v, okD (.int w) ∧ okD (.int v) := fun v => ⟨okD_int _, okD_int _⟩
  refine ⟨okw 0, s_ite0 n0 ⟨okw 1, s_ite0 n1 ⟨okw 2, s_ite0 n2 ⟨okw 3, s_ite0 n3 ⟨okw 4, ?_⟩⟩⟩⟩⟩
  have put : ∀ v : Str, (∀ c ∈ v.cps.toList, c < 128) → v.length ≤ 2 * L + 16 → ∀ k, a ≤ k → asc (ws.take a ++ [v] ++ ws.drop k) ∧ ln (ws.take a ++ [v] ++ ws.drop k) ≤ 3 * L + 20 := fun v h1 h2 k hk => ⟨((hw.take a).app (asc.one h1)).app (hw.drop k), by have := ln_put ws v hk; omega⟩
  have inw : ∀ v, (okW 11 v ∨ v ∈ ws) → (∀ c ∈ v.cps.toList, c < 128) ∧ v.length ≤ 2 * L + 16 := fun v h => by
    rcases h with h | h
    · have := h.1
      exact ⟨h.2, by omega⟩
    · have := ln_mem h
      exact ⟨hw v h, by omega⟩
  have hz : (ws.map D.str).length = ws.length := List.length_map ..
  show dIte (eqD (.int w) (.int 4)) _ _
  refine dIte_of (fun _ => ?_) fun _ => ?_
  · show (DL.cutD (ws.map D.str) none (some (a : Int))).length + (DL.cutD (ws.map D.str) (some ((a : Int) + 1)) none).length ≤ sizeLine ∧ E.nx [_, _, _, _, _, some (.own (DL.cutD (ws.map D.str) none (some (a : Int)) ++ DL.cutD (ws.map D.str) (some ((a : Int) + 1)) none)), _, _, _, _, _]
    rw [cut_to, cut_from1]
    refine ⟨by rw [List.length_take, List.length_drop, hz]; unfold sizeLine; omega, ?_⟩
    have k := q (ws.take a ++ ws.drop (a + 1)) y8 y9 y10 ((hw.take a).app (hw.drop (a + 1))) (Nat.le_trans (ln_out ws (Nat.le_succ a)) (by omega))
    rw [List.map_append, List.map_take, List.map_drop] at k
    exact k
  · refine ⟨okw 5, ?_⟩
    show dIte (eqD (.int w) (.int 5)) _ _
    refine dIte_of (fun _ => ?_) fun _ => ?_
    · refine ⟨rfl, ws, rfl, by omega, fun v hv => ?_⟩
      obtain ⟨v1, v2⟩ := inw v hv
      refine ⟨[.str v], rfl, by show 1 ≤ sizeLine; decide, ?_⟩
      show (DL.cutD (ws.map D.str) none (some (a : Int))).length + 1 ≤ sizeLine ∧ _
      rw [cut_to]
      refine ⟨by rw [List.length_take, hz]; unfold sizeLine; omega, ?_⟩
      show ((ws.map D.str).take a ++ [D.str v]).length + (DL.cutD (ws.map D.str) (some (a : Int)) none).length ≤ sizeLine ∧ E.nx [_, _, _, _, _, some (.own (((ws.map D.str).take a ++ [D.str v]) ++ DL.cutD (ws.map D.str) (some (a : Int)) none)), _, _, _, _, _]
      rw [cut_from]
      refine ⟨by rw [List.length_append, List.length_take, List.length_drop, List.length_singleton, hz]; unfold sizeLine; omega, ?_⟩
      obtain ⟨u1, u2⟩ := put v v1 v2 a (Nat.le_refl a)
      have k := q _ y8 y9 y10 u1 u2
      rw [List.map_append, List.map_append, List.map_take, List.map_drop] at k
      exact k
    · refine ⟨okw 6, ?_⟩
      show dIte (eqD (.int w) (.int 6)) _ _
      refine dIte_of (fun _ => ?_) fun _ => ?_
      · obtain ⟨own, ho⟩ : ∃ own, ws[a]? = some own := ⟨_, List.getElem?_eq_getElem ha⟩
        have hom := List.mem_of_getElem? ho
        have hol := ln_mem hom
        have j1 : okW (L + 1) own := ⟨by omega, hw own hom⟩
        clear hom
        have hat : atI (ws.map D.str) (a : Int) = some (.str own) := DL.atI_nat (by rw [List.getElem?_map, ho]; rfl)
        have jl := j1.1
        refine ⟨_, hat, ?_⟩
        refine ⟨by unfold sizeLine; omega, ?_⟩
        refine ⟨rfl, _, rfl, lg (m := own.length) (by omega), fun at_ ha1 ha2 => ?_⟩
        refine ⟨by unfold sizeLine; omega, ?_⟩
        have c1 := okW_cut j1 none (some at_)
        revert c1
        generalize cutS own none (some at_) = a1
        intro c1
        have c1l := c1.1
        refine ⟨by rw [signsP_ok.1]; decide, ?_⟩
        refine ⟨rfl, _, rfl, lg' (m := signsP.length) (by rw [signsP_ok.1]; decide) (by rw [signsP_ok.1]; decide), fun k2 hk4 hk5 => ?_⟩
        have hk5 : k2 < 24 := by
          have : ((signsP.length : Nat) : Int) = 24 := by rw [signsP_ok.1]; rfl
          rw [this] at hk5
          exact hk5
        obtain ⟨sn, rfl⟩ : ∃ sn : Nat, k2 = (sn : Int) := ⟨k2.toNat, by omega⟩
        have hsl : signsP.cps.toList.length = 24 := by rw [← str_len]; exact signsP_ok.1
        obtain ⟨sg, hsg⟩ : ∃ sg, signsP.cps.toList[sn]? = some sg := ⟨_, List.getElem?_eq_getElem (by rw [hsl]; omega)⟩
        have hsg2 := signsP_ok.2 sg (List.mem_of_getElem? hsg)
        have hsg3 := DL.atI_nat hsg
        refine ⟨sg, ⟨by rw [signsP_ok.1]; decide, hsg3⟩, ?_⟩
        have c2 : okW 1 ⟨#[sg]⟩ := ⟨Nat.le_refl _, fun c hc => by
          rw [List.mem_singleton.mp hc]
          exact hsg2⟩
        have c2l := c2.1
        have c3 := okW_add c1 c2
        have c3l := c3.1
        refine ⟨by unfold sizeLine; omega, ?_⟩
        revert c3
        generalize a1 ++ (⟨#[sg]⟩ : Str) = a3
        intro c3
        refine ⟨rfl, 2, rfl, ⟨by decide, by decide +kernel⟩, fun k6 hk6 hk7 => ?_⟩
        refine ⟨by unfold sizeLine; omega, ?_⟩
        have c3m := c3.1
        have c4 := okW_cut j1 (some (at_ + k6)) none
        have c4l := c4.1
        refine ⟨by unfold sizeLine; omega, ?_⟩
        have c5 := okW_add c3 c4
        revert c5
        generalize a3 ++ cutS own (some (at_ + k6)) none = a5
        intro c5
        refine ⟨[.str a5], rfl, by show 1 ≤ sizeLine; decide, ?_⟩
        show (DL.cutD (ws.map D.str) none (some (a : Int))).length + 1 ≤ sizeLine ∧ _
        rw [cut_to]
        refine ⟨by rw [List.length_take, hz]; unfold sizeLine; omega, ?_⟩
        show ((ws.map D.str).take a ++ [D.str a5]).length + (DL.cutD (ws.map D.str) (some ((a : Int) + 1)) none).length ≤ sizeLine ∧ E.nx [_, _, _, _, _, some (.own (((ws.map D.str).take a ++ [D.str a5]) ++ DL.cutD (ws.map D.str) (some ((a : Int) + 1)) none)), _, _, _, _, _]
        rw [cut_from1]
        refine ⟨by rw [List.length_append, List.length_take, List.length_drop, List.length_singleton, hz]; unfold sizeLine; omega, ?_⟩
        obtain ⟨u1, u2⟩ := put a5 c5.2 (by have := c5.1; omega) (a + 1) (Nat.le_succ a)
        have k := q _ (some (.val (.str a5))) (some (.val (.int at_))) (some (.val (.str signsP))) u1 u2
        rw [List.map_append, List.map_append, List.map_take, List.map_drop] at k
        exact k
      · refine ⟨rfl, ws, rfl, by omega, fun v hv => ?_⟩
        obtain ⟨v1, v2⟩ := inw v hv
        refine ⟨[.str v], rfl, by show 1 ≤ sizeLine; decide, ?_⟩
        show (DL.cutD (ws.map D.str) none (some (a : Int))).length + 1 ≤ sizeLine ∧ _
        rw [cut_to]
        refine ⟨by rw [List.length_take, hz]; unfold sizeLine; omega, ?_⟩
        show ((ws.map D.str).take a ++ [D.str v]).length + (DL.cutD (ws.map D.str) (some ((a : Int) + 1)) none).length ≤ sizeLine ∧ E.nx [_, _, _, _, _, some (.own (((ws.map D.str).take a ++ [D.str v]) ++ DL.cutD (ws.map D.str) (some ((a : Int) + 1)) none)), _, _, _, _, _]
        rw [cut_from1]
        refine ⟨by rw [List.length_append, List.length_take, List.length_drop, List.length_singleton, hz]; unfold sizeLine; omega, ?_⟩
        obtain ⟨u1, u2⟩ := put v v1 v2 (a + 1) (Nat.le_succ a)
        have k := q _ y8 y9 y10 u1 u2
        rw [List.map_append, List.map_append, List.map_take, List.map_drop] at k
        exact k
theorem sum_is_ln (ws : List Str) : (ws.map (·.length)).sum + ws.length * (" " : Str).length = ln ws := by
  have e : (" " : Str).length = 1 := by decide +kernel
  rw [e]
  induction ws with
  | nil => rfl
  | cons v ws ih =>
    show v.length + (ws.map (·.length)).sum + (ws.length + 1) * 1 = 1 + v.length + ln ws
    omega
theorem one_line {n L : Nat} {ls : List Str} (h : okWs n L ls) (p : Nat) : asc ((ls.drop p).take 1) ∧ ln ((ls.drop p).take 1) ≤ L + 1 := by
  have h2 : ∀ w ∈ ls.drop p, okW L w := fun w hw => h.2 w (List.mem_of_mem_drop hw)
  cases e : ls.drop p with
  | nil => exact ⟨(fun w hw => by cases hw), Nat.zero_le _⟩
  | cons w r =>
    rw [e] at h2
    have hw := h2 w (List.mem_cons_self ..)
    refine ⟨asc.one hw.2, ?_⟩
    show 1 + w.length + 0 ≤ L + 1
    have := hw.1
    omega
theorem chgP_step {E : DEn} {n L : Nat} {ls : List Str} {r1 : Nv} {y2 y3 y4 y5 y6 y7 y8 y9 y10 : Option Nv} (hl : okWs n L ls) (hr : wEnt ls r1) (hn : n ≤ 1000) (hL : L ≤ 1000)
    (q : ∀ vs r y3 y4 y5 y6 y7 y8 y9 y10, okWs (4 * n + 2) (3 * L + 20) vs → wEnt vs r → E.nx [some .pool, some r, y2, y3, y4, y5, y6, y7, y8, y9, y10]) :
    c_step E [some .pool, some r1, y2, y3, y4, y5, y6, y7, y8, y9, y10] := by
  have hl1 := hl.1
  have hz : (ls.map D.str).length = ls.length := List.length_map ..
  have fin : ∀ (p o : Nat) (y6 y7 : Option Nv) (t : Str) (r : Nv), wEnt ls r → okW (L + 1) t → (dSeq (dSet 6 (dCall F_draw (dCons (dKeep (dVar 0)) (dCons (dKeep (dCB mLen (dCons (dVar 5) dNil))) dNil))))
      (dSeq (dSet 7 (dCall F_draw (dCons (dKeep (dVar 0)) (dCons (dKeep (dC (.int 10))) dNil)))) (dSeq c_way c_tail))) E [some .pool, some r, y2, some (.val (.int p)), some (.val (.int o)), some (.own ((Txt.split t " ").map D.str)), y6, y7, y8, y9, y10] := by
    intro p o y6 y7 t r hr ht
    obtain ⟨s1, s2, s3⟩ := split_ln ht
    have s4 := ln_len (Txt.split t " ")
    have s5 := List.length_pos_iff.mpr s3
    revert s1 s2 s4 s5
    generalize Txt.split t " " = ws
    intro s1 s2 s4 s5
    refine ⟨rfl, _, rfl, lg' (m := (ws.map D.str).length) (by rw [List.length_map]; omega) (by rw [List.length_map]; omega), fun a h1 h2 => ?_⟩
    rw [List.length_map] at h2
    obtain ⟨a, rfl⟩ : ∃ k : Nat, a = (k : Int) := ⟨a.toNat, by omega⟩
    refine ⟨rfl, 10, rfl, ⟨by decide, by decide +kernel⟩, fun w h3 h4 => ?_⟩
    by_cases c : w < 4
    · refine way_lines hl hr (by omega) (by omega) (by omega) fun vs r y8 y9 y10 k1 k2 => ?_
      exact tail_ok (M := 3 * L + 20) (k1.mono (Nat.le_refl _) (by omega)) k2 s2 (by omega) (Nat.le_refl _) (by omega) (by omega) fun vs r y5 k3 k4 => q vs r _ _ _ _ _ _ _ _ k3 k4
    · refine way_words s2 s1 (by omega) (by omega) ⟨by omega, h4⟩ fun us y8 y9 y10 k1 k2 => ?_
      exact tail_ok (M := 3 * L + 20) (hl.mono (by omega : n ≤ 4 * n + 1) (by omega : L ≤ 3 * L + 20)) hr k1 k2 (Nat.le_refl _) (by omega) (by omega) fun vs r y5 k3 k4 => q vs r _ _ _ _ _ _ _ _ k3 k4
  rcases hr with rfl | rfl
  all_goals
    refine ⟨rfl, _, rfl, lg (m := (ls.map D.str).length) (by rw [hz]; omega), fun p h1 h2 => ?_⟩
    obtain ⟨p, rfl⟩ : ∃ k : Nat, p = (k : Int) := ⟨p.toNat, by omega⟩
    refine ⟨rfl, _, rfl, lg (m := (ls.map D.str).length) (by rw [hz]; omega), fun o h3 h4 => ?_⟩
    obtain ⟨o, rfl⟩ : ∃ k : Nat, o = (k : Int) := ⟨o.toNat, by omega⟩
    obtain ⟨j1, j2⟩ := one_line hl p
    have jt := join_ln j1 j2
    refine ⟨⟨_, rfl⟩, ?_⟩
    show ∃ ys, strsOf (DL.cutD (ls.map D.str) (some (p : Int)) (some ((p : Int) + 1))) = some ys ∧ _
    rw [cut_one, ← List.map_drop, ← List.map_take]
    refine ⟨_, strsOf_map _, by rw [sum_is_ln]; omega, ⟨_, rfl⟩, ⟨by decide +kernel, by have := jt.1; unfold sizeLine; omega⟩, ?_⟩
    exact fin p o y6 y7 _ _ (by first | exact .inl rfl | exact .inr rfl) jt
def F_chgP : FM := fun rs Qd => ∃ ls : List Str, rs = [.pool, .val (.lst (ls.map D.str))] ∧ okWs 45 80 ls ∧ ∀ vs, okWs 4000 3000 vs → Qd (.val (.lst (vs.map D.str))) ∧ Qd (.own (vs.map D.str))
def gn : Nat → Nat → Nat
  | 0, n => n
  | k + 1, n => gn k (4 * n + 2)
def gl : Nat → Nat → Nat
  | 0, L => L
  | k + 1, L => gl k (3 * L + 20)
theorem chgP_loop {E : DEn} (q : ∀ (vs : List Str) r y2 y3 y4 y5 y6 y7 y8 y9 y10, okWs 4000 3000 vs → wEnt vs r → E.nx [some .pool, some r, y2, y3, y4, y5, y6, y7, y8, y9, y10]) :
    ∀ (rg : List D) (ls : List Str) (n L : Nat) (r1 : Nv) (y2 y3 y4 y5 y6 y7 y8 y9 y10 : Option Nv), okWs n L ls → wEnt ls r1 → gn rg.length n ≤ 4000 → gl rg.length L ≤ 3000 →
    dLoop (dName 2) c_step E rg [some .pool, some r1, y2, y3, y4, y5, y6, y7, y8, y9, y10]
  | [], ls, n, L, r1, y2, y3, y4, y5, y6, y7, y8, y9, y10, h, hr, hn, hL => q ls r1 _ _ _ _ _ _ _ _ _ (h.mono hn hL) hr
  | d :: rg, ls, n, L, r1, y2, y3, y4, y5, y6, y7, y8, y9, y10, h, hr, hn, hL => by
    have hn2 : gn rg.length (4 * n + 2) ≤ 4000 := hn
    have hL2 : gl rg.length (3 * L + 20) ≤ 3000 := hL
    have g1 : ∀ k n, n ≤ gn k n := by
      intro k
      induction k with
      | zero => exact fun n => Nat.le_refl n
      | succ k ih => exact fun n => Nat.le_trans (by omega) (ih (4 * n + 2))
    have g2 : ∀ k L, L ≤ gl k L := by
      intro k
      induction k with
      | zero => exact fun n => Nat.le_refl n
      | succ k ih => exact fun n => Nat.le_trans (by omega) (ih (3 * n + 20))
    have := g1 rg.length (4 * n + 2)
    have := g2 rg.length (3 * L + 20)
    exact chgP_step (E := { E with nx := dLoop (dName 2) c_step E rg, ct := dLoop (dName 2) c_step E rg, bk := E.nx }) h hr (by omega) (by omega) (y2 := some (.val d)) fun vs r z3 z4 z5 z6 z7 z8 z9 z10 k1 k2 =>
      chgP_loop q rg vs (4 * n + 2) (3 * L + 20) r _ z3 z4 z5 z6 z7 z8 z9 z10 k1 k2 hn2 hL2
theorem chgP_body : ∀ rs Qd, F_chgP rs Qd → bodyF 11 (m_law_changed F_draw F_menu) rs Qd := by
  rintro rs Qd ⟨ls, rfl, hw, q⟩
  rw [chg_same]
  refine ⟨rfl, 4, rfl, ⟨by decide, by decide +kernel⟩, fun r h1 h2 => ?_⟩
  refine ⟨by omega, by omega, ?_⟩
  have hlen : (rangeD 0 r).length ≤ 3 := by
    unfold rangeD
    rw [List.length_map, List.length_range]
    omega
  refine chgP_loop (fun vs r y2 y3 y4 y5 y6 y7 y8 y9 y10 hv hr => ?_) (rangeD 0 r) ls 45 80 _ none none none none none none none none none hw (.inl rfl) ?_ ?_
  · obtain ⟨q1, q2⟩ := q vs hv
    rcases hr with rfl | rfl
    · exact q1
    · exact q2
  · have : ∀ k, k < 4 → gn k 45 ≤ 4000 := by decide +kernel
    exact this _ (by omega)
  · have : ∀ k, k < 4 → gl k 80 ≤ 3000 := by decide +kernel
    exact this _ (by omega)
end G
end

section
set_option Elab.async false
set_option linter.all false
set_option maxRecDepth 100000
set_option maxHeartbeats 4000000
namespace G
open PySem PySem.Spec PyProof.Rows L2 DL
local macro_rules | `(tactic| walk_at "ok1") => `(tactic| first | exact okD_int _ | exact okD_bl _ | exact okD_non | exact okD_str (by assumption) | assumption)
local macro_rules | `(tactic| walk_at "go1") => `(tactic| ((conv => whnf); first
  | refine s_iteT ?_ | refine s_iteF ?_
  | refine ⟨⟨by walk_at "ok1", by walk_at "ok1"⟩, ?_⟩
  | refine ⟨_, rfl, ?_⟩
  | refine ⟨rfl, ?_⟩
  | refine ⟨Nat.le_of_ble_eq_true rfl, ?_⟩
  | refine ⟨_, isB_tuple (by assumption), ?_⟩
  | refine ⟨_, isB_list (by assumption), ?_⟩
  | refine ⟨_, isB_bool (by assumption), ?_⟩
  | refine ⟨_, isB_int (by assumption), ?_⟩
  | refine ⟨_, isB_str (by assumption), ?_⟩
  | refine ⟨_, by assumption, ?_⟩
  | refine s_ite1 (by assumption) ?_ | refine s_ite0 (by assumption) ?_))
local macro_rules | `(tactic| walk_at "go") => `(tactic| repeat walk_at "go1")
def rowD (os : List (Option Nat)) : DL.D := .lst (os.map optN)
def okR (l : Nat) (os : List (Option Nat)) : Prop := os.length = l ∧ ∀ o ∈ os, okE o
theorem ent_loop {a1 a2 a3 a4 a5 a6 a7 a8 a9 a10 a11 a13 a14 : Option Nv} {Ql : En → List DL.D → Prop} : ∀ (rg : List DL.D) (acc : List (Option Nat)) (y : Option Nv), acc.length + rg.length ≤ 1000 → (∀ o ∈ acc, okE o) →
    (∀ os y, okR (acc.length + rg.length) os → Ql [some .pool, a1, a2, a3, a4, a5, a6, a7, a8, a9, a10, a11, y, a13, a14] (os.map optN)) →
    dLcL [12] (dName 12) dYes (dCall F_entry (dCons (dKeep (dVar 0)) dNil)) rg [some .pool, a1, a2, a3, a4, a5, a6, a7, a8, a9, a10, a11, y, a13, a14] (acc.map optN) Ql
  | [], acc, y, h, ho, q => q acc y ⟨rfl, ho⟩
  | d :: rg, acc, y, h, ho, q => by
    rw [List.length_cons] at h
    refine s_iteT ?_
    refine ⟨rfl, rfl, fun o hoo => ?_⟩
    have key := ent_loop (a1 := a1) (a2 := a2) (a3 := a3) (a4 := a4) (a5 := a5) (a6 := a6) (a7 := a7) (a8 := a8) (a9 := a9) (a10 := a10) (a11 := a11) (a13 := a13) (a14 := a14) (Ql := Ql) rg (acc ++ [o]) none (by rw [List.length_append, List.length_singleton]; omega) (fun x hx => by
      rcases List.mem_append.mp hx with hx | hx
      · exact ho x hx
      · rw [List.mem_singleton.mp hx]
        exact hoo) fun os y hn => q os y (by
      have e : (acc ++ [o]).length + rg.length = acc.length + (d :: rg).length := by rw [List.length_append, List.length_singleton, List.length_cons]; omega
      rw [e] at hn
      exact hn)
    rw [List.map_append] at key
    refine ⟨?_, key⟩
    rw [List.length_map]
    unfold sizeLine
    omega
theorem rng_len (l : Nat) : (rangeD 0 (l : Int)).length = l := by
  unfold rangeD
  rw [List.length_map, List.length_range]
  omega
/-! a row made by drawing -/
theorem row_made {a1 a3 a4 a5 a6 a7 a8 a9 a10 a11 a13 a14 : Option Nv} {l : Nat} (hl : l ≤ 100) {Q : En → R → Prop} (q : ∀ os, okR l os → Q [some .pool, a1, some (.val (.int (l : Int))), a3, a4, a5, a6, a7, a8, a9, a10, a11, none, a13, a14] (.own (os.map optN))) :
    dLc (dRng1 (dVar 2)) [12] (dName 12) dYes (dCall F_entry (dCons (dKeep (dVar 0)) dNil)) [some .pool, a1, some (.val (.int (l : Int))), a3, a4, a5, a6, a7, a8, a9, a10, a11, none, a13, a14] Q := by
  refine ⟨by omega, by omega, rfl, ?_⟩
  refine ent_loop (rangeD 0 (l : Int)) [] none (by rw [List.length_nil, rng_len]; omega) (fun o ho => by cases ho) fun os y ho => ?_
  rw [List.length_nil, rng_len, Nat.zero_add] at ho
  exact q os ho
theorem rowsP_loop {a1 a3 a4 a5 a6 a7 a8 a9 a10 a13 a14 : Option Nv} {l : Nat} (hl : l ≤ 100) {Ql : En → List DL.D → Prop} : ∀ (rg : List DL.D) (acc : List (List (Option Nat))) (y : Option Nv), acc.length + rg.length ≤ 1000 → (∀ o ∈ acc, okR l o) →
    (∀ (os : List (List (Option Nat))) y, os.length = acc.length + rg.length → (∀ o ∈ os, okR l o) → Ql [some .pool, a1, some (.val (.int (l : Int))), a3, a4, a5, a6, a7, a8, a9, a10, y, none, a13, a14] (os.map rowD)) →
    dLcL [11] (dName 11) dYes (dLc (dRng1 (dVar 2)) [12] (dName 12) dYes (dCall F_entry (dCons (dKeep (dVar 0)) dNil))) rg [some .pool, a1, some (.val (.int (l : Int))), a3, a4, a5, a6, a7, a8, a9, a10, y, none, a13, a14] (acc.map rowD) Ql
  | [], acc, y, h, ho, q => q acc y rfl ho
  | d :: rg, acc, y, h, ho, q => by
    rw [List.length_cons] at h
    refine s_iteT ?_
    refine row_made hl fun os hos => ?_
    have key := rowsP_loop (a1 := a1) (a3 := a3) (a4 := a4) (a5 := a5) (a6 := a6) (a7 := a7) (a8 := a8) (a9 := a9) (a10 := a10) (a13 := a13) (a14 := a14) hl (Ql := Ql) rg (acc ++ [os]) none (by rw [List.length_append, List.length_singleton]; omega) (fun x hx => by
      rcases List.mem_append.mp hx with hx | hx
      · exact ho x hx
      · rw [List.mem_singleton.mp hx]
        exact hos) fun os y hn => q os y (by rw [hn, List.length_append, List.length_singleton, List.length_cons]; omega)
    rw [List.map_append] at key
    refine ⟨?_, key⟩
    rw [List.length_map]
    unfold sizeLine
    omega
abbrev d_ring : DSM :=
  (dSeq (dSet 8 (dLc (dRng1 (dVar 2)) [13] (dName 13) dYes (dLc (dRng1 (dVar 1)) [11] (dName 11) dYes (dLc (dRng1 (dVar 2)) [12] (dName 12) dYes (dCall F_entry (dCons (dKeep (dVar 0)) dNil))))))
  (dSeq (dFor (dOver (dVar 8)) (dName 9)
  (dSet 4 (dOp mAdd (dVar 4) (dLc (dOver (dVar 9)) [14] (dName 14) dYes (dCall F_line (dCons (dKeep (dVar 14)) dNil))))))
  (dRet (dTup (dCons (dKeep (dVar 4)) (dCons (dKeep (dOp mAdd (dVar 5) (dLst (dCons (dKeep (dVar 8)) (dCons (dKeep (dLst dNil)) dNil))))) dNil))))))
abbrev d_tree : DSM :=
  (dSeq (dSet 8 (dLc (dRng1 (dVar 1)) [11] (dName 11) dYes (dLc (dRng1 (dVar 2)) [12] (dName 12) dYes (dCall F_entry (dCons (dKeep (dVar 0)) dNil)))))
  (dSeq (dSet 10 (dLc (dRng1 (dVar 2)) [12] (dName 12) dYes (dCall F_entry (dCons (dKeep (dVar 0)) dNil))))
  (dRet (dTup (dCons (dKeep (dOp mAdd (dOp mAdd (dVar 4) (dLc (dOver (dVar 8)) [14] (dName 14) dYes (dCall F_line (dCons (dKeep (dVar 14)) dNil)))) (dLst (dCons (dKeep (dCall F_line (dCons (dKeep (dVar 10)) dNil))) dNil)))) (dCons (dKeep (dOp mAdd (dVar 5) (dLst (dCons (dKeep (dVar 8)) (dCons (dKeep (dVar 10)) dNil))))) dNil))))))
abbrev d_rest : DSM := dSeq (dIfS (dTru (dVar 3)) d_ring dNext) d_tree
abbrev d_all : DSM :=
  (dSeq (dSet 4 (dLst (dCons (dKeep (dC (.str "none"))) dNil)))
  (dSeq (dSet 5 (dLst (dCons (dKeep (dC (.str "none"))) (dCons (dKeep (dC .non)) (dCons (dKeep (dLst dNil)) dNil)))))
  (dSeq (dIfS (dB (dOp mGtA (dCall F_draw (dCons (dKeep (dVar 0)) (dCons (dKeep (dC (.int 4))) dNil))) (dC (.int 0))))
  (dSeq (dSet 6 (dOp mIx (dTup (dCons (dKeep (dCall F_draw (dCons (dKeep (dVar 0)) (dCons (dKeep (dC (.int 9))) dNil)))) (dCons (dKeep (dOp mSub (dC (.int 999999999)) (dCall F_draw (dCons (dKeep (dVar 0)) (dCons (dKeep (dC (.int 3))) dNil))))) dNil))) (dCall F_draw (dCons (dKeep (dVar 0)) (dCons (dKeep (dC (.int 2))) dNil)))))
  (dSeq (dSet 7 (dLc (dRng1 (dVar 1)) [11] (dName 11) dYes (dCall F_draw (dCons (dKeep (dVar 0)) (dCons (dKeep (dVar 2)) dNil)))))
  (dSeq (dSet 4 (dLst (dCons (dKeep (dOp mAdd (dC (.str "best ")) (dCB mStr (dCons (dVar 6) dNil)))) (dCons (dKeep (dCall F_line (dCons (dKeep (dVar 7)) dNil))) dNil))))
  (dSet 5 (dLst (dCons (dKeep (dC (.str "best"))) (dCons (dKeep (dVar 6)) (dCons (dKeep (dVar 7)) dNil))))))))
  dNext) d_rest)))
theorem drawn_same : m_law_drawn F_draw F_line F_entry = d_all := rfl
theorem rowsP_made {a1 a3 a4 a5 a6 a7 a8 a9 a10 a13 a14 : Option Nv} {l c : Nat} (ha : a1 = some (.val (.int (c : Int)))) (hl : l ≤ 100) (hc : c ≤ 100) {Q : En → R → Prop} (q : ∀ os : List (List (Option Nat)), os.length = c → (∀ o ∈ os, okR l o) → Q [some .pool, a1, some (.val (.int (l : Int))), a3, a4, a5, a6, a7, a8, a9, a10, none, none, a13, a14] (.own (os.map rowD))) :
    dLc (dRng1 (dVar 1)) [11] (dName 11) dYes (dLc (dRng1 (dVar 2)) [12] (dName 12) dYes (dCall F_entry (dCons (dKeep (dVar 0)) dNil))) [some .pool, a1, some (.val (.int (l : Int))), a3, a4, a5, a6, a7, a8, a9, a10, none, none, a13, a14] Q := by
  subst ha
  refine ⟨by omega, by omega, rfl, ?_⟩
  refine rowsP_loop hl (rangeD 0 (c : Int)) [] none (by rw [List.length_nil, rng_len]; omega) (fun o ho => by cases ho) fun os y h1 h2 => ?_
  rw [List.length_nil, rng_len, Nat.zero_add] at h1
  exact q os h1 h2
def cubeD (os : List (List (Option Nat))) : DL.D := .lst (os.map rowD)
theorem cube_loop {a1 a3 a4 a5 a6 a7 a8 a9 a10 a14 : Option Nv} {l c : Nat} (ha : a1 = some (.val (.int (c : Int)))) (hl : l ≤ 100) (hc : c ≤ 100) {Ql : En → List DL.D → Prop} : ∀ (rg : List DL.D) (acc : List (List (List (Option Nat)))) (y : Option Nv), acc.length + rg.length ≤ 1000 → (∀ os ∈ acc, os.length = c ∧ ∀ o ∈ os, okR l o) →
    (∀ (os : List (List (List (Option Nat)))) y, os.length = acc.length + rg.length → (∀ o ∈ os, o.length = c ∧ ∀ x ∈ o, okR l x) → Ql [some .pool, a1, some (.val (.int (l : Int))), a3, a4, a5, a6, a7, a8, a9, a10, none, none, y, a14] (os.map cubeD)) →
    dLcL [13] (dName 13) dYes (dLc (dRng1 (dVar 1)) [11] (dName 11) dYes (dLc (dRng1 (dVar 2)) [12] (dName 12) dYes (dCall F_entry (dCons (dKeep (dVar 0)) dNil)))) rg [some .pool, a1, some (.val (.int (l : Int))), a3, a4, a5, a6, a7, a8, a9, a10, none, none, y, a14] (acc.map cubeD) Ql
  | [], acc, y, h, ho, q => q acc y rfl ho
  | d :: rg, acc, y, h, ho, q => by
    rw [List.length_cons] at h
    refine s_iteT ?_
    refine rowsP_made ha hl hc fun os h1 h2 => ?_
    have key := cube_loop (a1 := a1) (a3 := a3) (a4 := a4) (a5 := a5) (a6 := a6) (a7 := a7) (a8 := a8) (a9 := a9) (a10 := a10) (a14 := a14) ha hl hc (Ql := Ql) rg (acc ++ [os]) none (by rw [List.length_append, List.length_singleton]; omega) (fun x hx => by
      rcases List.mem_append.mp hx with hx | hx
      · exact ho x hx
      · rw [List.mem_singleton.mp hx]
        exact ⟨h1, h2⟩) fun os y hn => q os y (by rw [hn, List.length_append, List.length_singleton, List.length_cons]; omega)
    rw [List.map_append] at key
    refine ⟨?_, key⟩
    rw [List.length_map]
    unfold sizeLine
    omega
/-! the texts of rows -/
theorem txts_loop {a0 a1 a2 a3 a4 a5 a6 a7 a8 a9 a10 a11 a12 a13 : Option Nv} {l : Nat} (hl : l ≤ 8) {Ql : En → List DL.D → Prop} : ∀ (rows : List (List (Option Nat))) (acc : List Str) (n : Nat) (y : Option Nv), okWs n 80 acc → n + rows.length ≤ 1000 → (∀ o ∈ rows, okR l o) →
    (∀ ws y, okWs (n + rows.length) 80 ws → Ql [a0, a1, a2, a3, a4, a5, a6, a7, a8, a9, a10, a11, a12, a13, y] (ws.map D.str)) →
    dLcL [14] (dName 14) dYes (dCall F_line (dCons (dKeep (dVar 14)) dNil)) (rows.map rowD) [a0, a1, a2, a3, a4, a5, a6, a7, a8, a9, a10, a11, a12, a13, y] (acc.map D.str) Ql
  | [], acc, n, y, h, hn, ho, q => q acc y h
  | r :: rows, acc, n, y, h, hn, ho, q => by
    rw [List.length_cons] at hn
    obtain ⟨r1, r2⟩ := ho r (List.mem_cons_self ..)
    refine s_iteT ?_
    refine ⟨rfl, r, rfl, by omega, r2, fun t ht => ?_⟩
    have key := txts_loop (a0 := a0) (a1 := a1) (a2 := a2) (a3 := a3) (a4 := a4) (a5 := a5) (a6 := a6) (a7 := a7) (a8 := a8) (a9 := a9) (a10 := a10) (a11 := a11) (a12 := a12) (a13 := a13) hl (Ql := Ql) rows (acc ++ [t]) (n + 1) none (h.app ⟨Nat.le_refl 1, fun v hv => by
      rw [List.mem_singleton.mp hv]
      exact ⟨by have := ht.1; omega, ht.2⟩⟩) (by omega) (fun o hoo => ho o (List.mem_cons_of_mem _ hoo)) fun ws y hw => q ws y (by
      have e : n + (r :: rows).length = n + 1 + rows.length := by rw [List.length_cons]; omega
      rw [e]
      exact hw)
    rw [List.map_append] at key
    refine ⟨?_, key⟩
    rw [List.length_map]
    have := h.1
    unfold sizeLine
    omega
abbrev rowsV (os : List (List (Option Nat))) : DL.D := .lst (os.map rowD)
theorem d_tree_ok {E : DEn} {c l n : Nat} {hs : List Str} {ds : List DL.D} {y3 y6 y7 : Option Nv} (hc : c ≤ 8) (hl : l ≤ 8) (hh : okWs n 80 hs) (hn : n ≤ 2) (hd : ds.length ≤ 100) (q : ∀ env ls d, okWs 45 80 ls → E.rt env (.val (.tup [.lst (ls.map D.str), d]))) :
    d_tree E [some .pool, some (.val (.int (c : Int))), some (.val (.int (l : Int))), y3, some (.own (hs.map D.str)), some (.own ds), y6, y7, none, none, none, none, none, none, none] := by
  refine ⟨by omega, by omega, rfl, ?_⟩
  refine rowsP_loop (l := l) (by omega) (rangeD 0 (c : Int)) [] none (by rw [List.length_nil, rng_len]; omega) (fun o ho => by cases ho) fun os y h1 h2 => ?_
  rw [List.length_nil, rng_len, Nat.zero_add] at h1
  refine ⟨by omega, by omega, rfl, ?_⟩
  refine ent_loop (rangeD 0 (l : Int)) [] none (by rw [List.length_nil, rng_len]; omega) (fun o ho => by cases ho) fun es y h3 => ?_
  rw [List.length_nil, rng_len, Nat.zero_add] at h3
  refine ⟨rfl, ?_⟩
  refine txts_loop hl os [] 0 none ⟨Nat.le_refl _, fun w hw => by cases hw⟩ (by omega) h2 fun ws y hw => ?_
  have hh1 := hh.1
  have hw1 := hw.1
  refine ⟨by rw [List.length_map, List.length_map]; unfold sizeLine; omega, ?_⟩
  refine ⟨rfl, es, rfl, by have := h3.1; omega, h3.2, fun t ht => ?_⟩
  have he : okWs 1 80 [t] := ⟨Nat.le_refl 1, fun v hv => by
    rw [List.mem_singleton.mp hv]
    exact ⟨by have := ht.1; have := h3.1; omega, ht.2⟩⟩
  refine ⟨[.str t], rfl, by show 1 ≤ sizeLine; decide, ?_⟩
  refine ⟨by rw [List.length_append, List.length_map, List.length_map]; show _ + 1 ≤ _; unfold sizeLine; omega, ?_⟩
  refine ⟨[rowsV os, rowD es], rfl, by show 2 ≤ sizeLine; decide, ?_⟩
  refine ⟨by show ds.length + 2 ≤ sizeLine; unfold sizeLine; omega, ?_⟩
  refine ⟨_, rfl, by show 2 ≤ sizeLine; decide, ?_⟩
  have k := fun env d => q env (hs ++ ws ++ [t]) d (((hh.app hw).app he).mono (by omega) (Nat.le_refl _))
  have e : (hs ++ ws ++ [t]).map D.str = hs.map D.str ++ ws.map D.str ++ [D.str t] := by rw [List.map_append, List.map_append]; rfl
  simp only [e] at k
  exact k _ _
abbrev rf_bd : DSM := dSet 4 (dOp mAdd (dVar 4) (dLc (dOver (dVar 9)) [14] (dName 14) dYes (dCall F_line (dCons (dKeep (dVar 14)) dNil))))
theorem rf_loop {E : DEn} {a0 a1 a2 a3 a5 a6 a7 a8 a10 a11 a12 a13 : Option Nv} {l c : Nat} (hl : l ≤ 8) (hc : c ≤ 8) (q : ∀ ws y, okWs 45 80 ws → E.nx [a0, a1, a2, a3, some (.own (ws.map D.str)), a5, a6, a7, a8, y, a10, a11, a12, a13, none]) :
    ∀ (cs : List (List (List (Option Nat)))) (hs : List Str) (n : Nat) (y : Option Nv), okWs n 80 hs → n + cs.length * c ≤ 45 → (∀ os ∈ cs, os.length = c ∧ ∀ o ∈ os, okR l o) →
    dLoop (dName 9) rf_bd E (cs.map cubeD) [a0, a1, a2, a3, some (.own (hs.map D.str)), a5, a6, a7, a8, y, a10, a11, a12, a13, none]
  | [], hs, n, y, h, hn, ho => q hs y (h.mono (by omega) (Nat.le_refl _))
  | os :: cs, hs, n, y, h, hn, ho => by
    rw [List.length_cons, Nat.succ_mul] at hn
    obtain ⟨h1, h2⟩ := ho os (List.mem_cons_self ..)
    refine ⟨rfl, ?_⟩
    refine txts_loop hl os [] 0 none ⟨Nat.le_refl _, fun w hw => by cases hw⟩ (by omega) h2 fun ws y hw => ?_
    have hh1 := h.1
    have hw1 := hw.1
    refine ⟨by rw [List.length_map, List.length_map]; unfold sizeLine; omega, ?_⟩
    have key := rf_loop (E := E) (a0 := a0) (a1 := a1) (a2 := a2) (a3 := a3) (a5 := a5) (a6 := a6) (a7 := a7) (a8 := a8) (a10 := a10) (a11 := a11) (a12 := a12) (a13 := a13) hl hc q cs (hs ++ ws) (n + c) (some (.val (cubeD os))) ((h.app hw).mono (by omega) (Nat.le_refl _)) (by omega) (fun o hoo => ho o (List.mem_cons_of_mem _ hoo))
    rw [List.map_append] at key
    exact key
theorem d_ring_ok {E : DEn} {c l n : Nat} {hs : List Str} {ds : List DL.D} {y3 y6 y7 : Option Nv} (hc : c ≤ 4) (hl : l ≤ 8) (hh : okWs n 80 hs) (hn : n ≤ 2) (hd : ds.length ≤ 100) (q : ∀ env ls d, okWs 45 80 ls → E.rt env (.val (.tup [.lst (ls.map D.str), d]))) :
    d_ring E [some .pool, some (.val (.int (c : Int))), some (.val (.int (l : Int))), y3, some (.own (hs.map D.str)), some (.own ds), y6, y7, none, none, none, none, none, none, none] := by
  refine ⟨by omega, by omega, rfl, ?_⟩
  refine cube_loop (l := l) (c := c) rfl (by omega) (by omega) (rangeD 0 (l : Int)) [] none (by rw [List.length_nil, rng_len]; omega) (fun o ho => by cases ho) fun os y h1 h2 => ?_
  rw [List.length_nil, rng_len, Nat.zero_add] at h1
  refine rf_loop (l := l) (c := c) hl (by omega) (fun ws y hw => ?_) os hs n none hh (by rw [h1]; have := Nat.mul_le_mul hl hc; omega) h2
  refine ⟨[], rfl, by decide, ?_⟩
  refine ⟨[.lst (os.map cubeD), .lst []], rfl, by show 2 ≤ sizeLine; decide, ?_⟩
  refine ⟨by show ds.length + 2 ≤ sizeLine; unfold sizeLine; omega, ?_⟩
  refine ⟨_, rfl, by show 2 ≤ sizeLine; decide, ?_⟩
  exact q _ ws _ hw
def F_drawn : FM := fun rs Qd => ∃ (c l : Nat) (b : Bool), rs = [.pool, .val (.int (c : Int)), .val (.int (l : Int)), .val (.bl b)] ∧ c ≤ 4 ∧ 1 ≤ l ∧ l ≤ 8 ∧ ∀ ls d, okWs 45 80 ls → Qd (.val (.tup [.lst (ls.map D.str), d]))
theorem lits_okW : okW 80 "none" ∧ okW 5 "best " := ⟨⟨by decide +kernel, by decide +kernel⟩, ⟨by decide +kernel, by decide +kernel⟩⟩
theorem own_loop {a1 a3 a4 a5 a6 a7 a8 a9 a10 a12 a13 a14 : Option Nv} {l : Nat} (hl : 1 ≤ l ∧ l ≤ 8) {Ql : En → List DL.D → Prop} : ∀ (rg : List DL.D) (acc : List (Option Nat)) (y : Option Nv), acc.length + rg.length ≤ 100 → (∀ o ∈ acc, okE o) →
    (∀ os y, okR (acc.length + rg.length) os → Ql [some .pool, a1, some (.val (.int (l : Int))), a3, a4, a5, a6, a7, a8, a9, a10, y, a12, a13, a14] (os.map optN)) →
    dLcL [11] (dName 11) dYes (dCall F_draw (dCons (dKeep (dVar 0)) (dCons (dKeep (dVar 2)) dNil))) rg [some .pool, a1, some (.val (.int (l : Int))), a3, a4, a5, a6, a7, a8, a9, a10, y, a12, a13, a14] (acc.map optN) Ql
  | [], acc, y, h, ho, q => q acc y ⟨rfl, ho⟩
  | d :: rg, acc, y, h, ho, q => by
    rw [List.length_cons] at h
    refine s_iteT ?_
    refine ⟨rfl, _, rfl, lg' (m := l) (by omega) (by omega), fun r h1 h2 => ?_⟩
    obtain ⟨r, rfl⟩ : ∃ k : Nat, r = (k : Int) := ⟨r.toNat, by omega⟩
    have key := own_loop (a1 := a1) (a3 := a3) (a4 := a4) (a5 := a5) (a6 := a6) (a7 := a7) (a8 := a8) (a9 := a9) (a10 := a10) (a12 := a12) (a13 := a13) (a14 := a14) hl (Ql := Ql) rg (acc ++ [some r]) none (by rw [List.length_append, List.length_singleton]; omega) (fun x hx => by
      rcases List.mem_append.mp hx with hx | hx
      · exact ho x hx
      · rw [List.mem_singleton.mp hx]
        intro n hn
        cases hn
        omega) fun os y hn => q os y (by
      have e : (acc ++ [some r]).length + rg.length = acc.length + (d :: rg).length := by rw [List.length_append, List.length_singleton, List.length_cons]; omega
      rw [e] at hn
      exact hn)
    rw [List.map_append] at key
    refine ⟨?_, key⟩
    rw [List.length_map]
    unfold sizeLine
    omega
theorem drawn_body : ∀ rs Qd, F_drawn rs Qd → bodyF 15 (m_law_drawn F_draw F_line F_entry) rs Qd := by
  rintro rs Qd ⟨c, l, b, rfl, hc, hl0, hl, q⟩
  rw [drawn_same]
  have fin : ∀ (hs : List Str) (n : Nat) (ds : List DL.D) (y6 y7 : Option Nv), okWs n 80 hs → n ≤ 2 → ds.length ≤ 100 →
      d_rest { nx := fun _ => Qd (.val .non), rt := fun _ r => Qd r } [some .pool, some (.val (.int (c : Int))), some (.val (.int (l : Int))), some (.val (.bl b)), some (.own (hs.map D.str)), some (.own ds), y6, y7, none, none, none, none, none, none, none] := by
    intro hs n ds y6 y7 h1 h2 h3
    refine ⟨b, rfl, ?_⟩
    cases b with
    | true => exact s_iteT (d_ring_ok hc hl h1 h2 h3 fun _ ls d => q ls d)
    | false => exact s_iteF (d_tree_ok (by omega) hl h1 h2 h3 fun _ ls d => q ls d)
  refine ⟨[.str "none"], rfl, by show 1 ≤ sizeLine; decide, ?_⟩
  refine ⟨[], rfl, by decide, ?_⟩
  refine ⟨[.str "none", .non, .lst []], rfl, by show 3 ≤ sizeLine; decide, ?_⟩
  refine ⟨rfl, 4, rfl, ⟨by decide, by decide +kernel⟩, fun k k1 k2 => ?_⟩
  show dIte (decide ((0 : Int) < k)) _ _
  refine dIte_of (fun _ => ?_) fun _ => ?_
  · refine ⟨rfl, 9, rfl, ⟨by decide, by decide +kernel⟩, fun x x1 x2 => ?_⟩
    refine ⟨rfl, 3, rfl, ⟨by decide, by decide +kernel⟩, fun z z1 z2 => ?_⟩
    refine ⟨_, rfl, by show 2 ≤ sizeLine; decide, ?_⟩
    refine ⟨rfl, 2, rfl, ⟨by decide, by decide +kernel⟩, fun u u1 u2 => ?_⟩
    obtain ⟨m, hm, hx⟩ : ∃ m : Nat, m < 10 ^ 9 ∧ atI ([.int x, .int ((999999999 : Int) - z)] : List DL.D) u = some (.int (m : Int)) := by
      have : u = 0 ∨ u = 1 := by omega
      rcases this with rfl | rfl
      · refine ⟨x.toNat, by omega, ?_⟩
        rw [show ((x.toNat : Nat) : Int) = x by omega]
        exact DL.atI_nat (k := 0) rfl
      · refine ⟨((999999999 : Int) - z).toNat, by omega, ?_⟩
        rw [show ((((999999999 : Int) - z).toNat : Nat) : Int) = 999999999 - z by omega]
        exact DL.atI_nat (k := 1) rfl
    refine ⟨_, hx, ?_⟩
    clear hx
    refine ⟨by omega, by omega, rfl, ?_⟩
    refine own_loop ⟨hl0, hl⟩ (rangeD 0 (c : Int)) [] none (by rw [List.length_nil, rng_len]; omega) (fun o ho => by cases ho) fun os y ho => ?_
    rw [List.length_nil, rng_len, Nat.zero_add] at ho
    have w1 := num_okW hm
    have w2 := okW_add lits_okW.2 w1
    refine ⟨num_log hm, ?_⟩
    refine ⟨by show ("best " : Str).length + (numW m).length ≤ sizeLine; have := lits_okW.2.1; have := w1.1; unfold sizeLine; omega, ?_⟩
    refine ⟨rfl, os, rfl, by have := ho.1; omega, ho.2, fun t ht => ?_⟩
    refine ⟨[.str ("best " ++ numW m), .str t], rfl, by show 2 ≤ sizeLine; decide, ?_⟩
    refine ⟨[.str "best", .int (m : Int), .lst (os.map optN)], rfl, by show 3 ≤ sizeLine; decide, ?_⟩
    refine fin ["best " ++ numW m, t] 2 _ _ _ ⟨Nat.le_refl 2, fun w hw => ?_⟩ (Nat.le_refl 2) (by show 3 ≤ 100; decide)
    rcases List.mem_cons.mp hw with rfl | hw
    · exact ⟨by have := w2.1; omega, w2.2⟩
    · rw [List.mem_singleton.mp hw]
      exact ⟨by have := ht.1; have := ho.1; omega, ht.2⟩
  · exact fin ["none"] 1 _ _ _ ⟨Nat.le_refl 1, fun w hw => by rw [List.mem_singleton.mp hw]; exact lits_okW.1⟩ (by decide) (by show 3 ≤ 100; decide)
end G
end

section
set_option Elab.async false
set_option linter.all false
set_option maxRecDepth 100000
set_option maxHeartbeats 4000000
namespace DL
open PySem PySem.Spec PyProof.Rows L2
/-! ### data that == may look at -/
def okK (k : Nat) (d : D) : Prop := isDat d = true ∧ (toPy d).canLay0 = true ∧ (toPy d).depth ≤ k
theorem okK.ok {k : Nat} {d : D} (h : okK k d) (hk : k ≤ 64) : okD d := ⟨h.1, by
  unfold SeqAt.shaped
  rw [h.2.1, Bool.true_and]
  exact decide_eq_true (Nat.le_trans h.2.2 hk)⟩
theorem okK.mono {k j : Nat} {d : D} (h : okK k d) (hk : k ≤ j) : okK j d := ⟨h.1, h.2.1, Nat.le_trans h.2.2 hk⟩
theorem okK_all {k : Nat} : ∀ {l : List D}, (∀ d ∈ l, okK k d) → isDats l = true ∧ PyData.canLayAll0 (toPys l) = true ∧ PyData.depthAll (toPys l) ≤ k
  | [], _ => ⟨rfl, by rw [toPys]; rfl, by rw [toPys]; exact Nat.zero_le _⟩
  | d :: l, h => by
    obtain ⟨a1, a2, a3⟩ := h d (List.mem_cons_self ..)
    obtain ⟨b1, b2, b3⟩ := okK_all (fun x hx => h x (List.mem_cons_of_mem _ hx))
    refine ⟨by rw [isDats, a1, b1]; rfl, ?_, ?_⟩
    · rw [toPys, PyData.canLayAll0, a2, b2]
      rfl
    · rw [toPys, PyData.depthAll]
      exact Nat.max_le.mpr ⟨a3, b3⟩
theorem okK_lst {k : Nat} {l : List D} (h : ∀ d ∈ l, okK k d) : okK (k + 1) (.lst l) := by
  obtain ⟨b1, b2, b3⟩ := okK_all h
  refine ⟨by rw [isDat]; exact b1, ?_, ?_⟩
  · rw [toPy, PyData.canLay0]
    exact b2
  · rw [toPy, PyData.depth]
    exact Nat.succ_le_succ b3
theorem okK_tup {k : Nat} {l : List D} (h : ∀ d ∈ l, okK k d) : okK (k + 1) (.tup l) := by
  obtain ⟨b1, b2, b3⟩ := okK_all h
  refine ⟨by rw [isDat]; exact b1, ?_, ?_⟩
  · rw [toPy, PyData.canLay0]
    exact b2
  · rw [toPy, PyData.depth]
    exact Nat.succ_le_succ b3
theorem okK_int (i : Int) : okK 0 (.int i) := ⟨by rw [isDat], by rw [toPy]; rfl, by rw [toPy]; exact Nat.le_refl _⟩
theorem okK_non : okK 0 .non := ⟨by rw [isDat], by rw [toPy]; rfl, by rw [toPy]; exact Nat.le_refl _⟩
theorem okK_bl (b : Bool) : okK 0 (.bl b) := ⟨by rw [isDat], by rw [toPy]; rfl, by rw [toPy]; exact Nat.le_refl _⟩
theorem okK_str {x : Str} (h : PyData.canLay0 (.str x) = true) : okK 0 (.str x) := ⟨by rw [isDat], by rw [toPy]; exact h, by rw [toPy]; exact Nat.le_refl _⟩
end DL
end

section
set_option Elab.async false
set_option linter.all false
set_option maxRecDepth 100000
set_option maxHeartbeats 4000000
namespace G
open PySem PySem.Spec PyProof.Rows L2 DL
local macro_rules | `(tactic| walk_at "ok1") => `(tactic| first | exact okD_int _ | exact okD_bl _ | exact okD_non | exact okD_str (by assumption) | assumption)
local macro_rules | `(tactic| walk_at "go1") => `(tactic| ((conv => whnf); first
  | refine s_iteT ?_ | refine s_iteF ?_
  | refine ⟨⟨by walk_at "ok1", by walk_at "ok1"⟩, ?_⟩
  | refine ⟨_, rfl, ?_⟩
  | refine ⟨rfl, ?_⟩
  | refine ⟨Nat.le_of_ble_eq_true rfl, ?_⟩
  | refine ⟨_, isB_tuple (by assumption), ?_⟩
  | refine ⟨_, isB_list (by assumption), ?_⟩
  | refine ⟨_, isB_bool (by assumption), ?_⟩
  | refine ⟨_, isB_int (by assumption), ?_⟩
  | refine ⟨_, isB_str (by assumption), ?_⟩
  | refine ⟨_, by assumption, ?_⟩
  | refine s_ite1 (by assumption) ?_ | refine s_ite0 (by assumption) ?_))
local macro_rules | `(tactic| walk_at "go") => `(tactic| repeat walk_at "go1")
/-! ### the first line that is wrong -/
def entOk (w : Str) : Bool := w == "-" || (digsF 9 w).isSome
def rowOk (l : Nat) (t : Str) : Bool := (Txt.split t " ").all entOk && (Txt.split t " ").length == l
def labW (l : Nat) (w : Str) : Bool := match digsF 1 w with
  | some d => decide (d < l)
  | none => false
def labOk (c l : Nat) (t : Str) : Bool := (Txt.split t " ").all (labW l) && (Txt.split t " ").length == c
def bestW : List Str → Bool
  | [a, b] => a == "best" && (digsF 9 b).isSome
  | _ => false
def bestOk (t : Str) : Bool := bestW (Txt.split t " ")
def badRows (l : Nat) : Nat → List Str → Nat → Option Nat
  | _, [], 0 => none
  | n, [], _ + 1 => some n
  | n, _ :: _, 0 => some n
  | n, t :: ts, k + 1 => if rowOk l t then badRows l (n + 1) ts k else some n
def badF (c l rows : Nat) : List Str → Option Nat
  | [] => some 0
  | t :: ts => if Txt.split t " " = [("none" : Str)] then badRows l 1 ts rows else if bestOk t then (match ts with
      | [] => some 1
      | u :: us => if labOk c l u then badRows l 2 us rows else some 1) else some 0
abbrev flt_c : DTM := (dAnd (dB (dOp mNe (dVar 10) (dC (.str "-")))) (dB (dOp mIs (dCall F_digs (dCons (dKeep (dVar 10)) (dCons (dKeep (dC (.int 9))) dNil))) (dC .non))))
theorem flt_loop {a0 a1 a2 a3 a4 a5 a6 a7 a8 a9 : Option Nv} {Ql : En → List DL.D → Prop} : ∀ (ws acc : List Str) (y : Option Nv), acc.length + ws.length ≤ 5000 → asc ws → (∀ w ∈ ws, w.length ≤ 5000) →
    (∀ y, Ql [a0, a1, a2, a3, a4, a5, a6, a7, a8, a9, y] ((acc ++ ws.filter fun w => !entOk w).map D.str)) →
    dLcL [10] (dName 10) flt_c (dVar 10) (ws.map D.str) [a0, a1, a2, a3, a4, a5, a6, a7, a8, a9, y] (acc.map D.str) Ql
  | [], acc, y, h, ha, hl, q => by
    have q := q y
    rw [List.filter_nil, List.append_nil] at q
    exact q
  | w :: ws, acc, y, h, ha, hl, q => by
    rw [List.length_cons] at h
    have hw := ha w (List.mem_cons_self ..)
    have hwl := hl w (List.mem_cons_self ..)
    have ok : PyData.canLay0 (.str w) = true := okW_lay (L := 5000) ⟨hwl, hw⟩
    have okd := okD_str ok
    have okdash : okD (.str "-") := okD_str (by decide +kernel)
    have ih := fun acc h q => flt_loop (a0 := a0) (a1 := a1) (a2 := a2) (a3 := a3) (a4 := a4) (a5 := a5) (a6 := a6) (a7 := a7) (a8 := a8) (a9 := a9) (Ql := Ql) ws acc none h (fun v hv => ha v (List.mem_cons_of_mem _ hv)) (fun v hv => hl v (List.mem_cons_of_mem _ hv)) q
    refine ⟨⟨okd, okdash⟩, ?_⟩
    show dIte (!eqD (.str w) (.str "-")) _ _
    rw [eqD_str]
    have skip : entOk w = true → dLcL [10] (dName 10) flt_c (dVar 10) (ws.map D.str) [a0, a1, a2, a3, a4, a5, a6, a7, a8, a9, none] (acc.map D.str) Ql := fun e => ih acc (by omega) fun y => by
      have q := q y
      rw [List.filter_cons, e] at q
      exact q
    by_cases c : w = "-"
    · subst c
      rw [beq_self_eq_true]
      exact s_iteF (s_iteF (skip (by decide +kernel)))
    · have e : (w == "-") = false := beq_eq_false_iff_ne.mpr c
      rw [e]
      refine s_iteT ?_
      refine ⟨rfl, w, 9, rfl, by decide, by unfold sizeLine; omega, ok, ?_⟩
      have e2 : entOk w = (digsF 9 w).isSome := by
        unfold entOk
        rw [e, Bool.false_or]
      cases hd : digsF 9 w with
      | some d =>
        refine ⟨false, rfl, s_iteF (skip ?_)⟩
        rw [e2, hd]
        rfl
      | none =>
        refine ⟨true, rfl, s_iteT ?_⟩
        refine ⟨by rw [List.length_map]; unfold sizeLine; omega, ?_⟩
        have k := ih (acc ++ [w]) (by rw [List.length_append, List.length_singleton]; omega) fun y => by
          have q := q y
          rw [List.filter_cons, e2, hd] at q
          rw [List.append_assoc]
          exact q
        rw [List.map_append] at k
        exact k
abbrev b_head : DSM :=
  (dSeq (dSet 8 (dOp mIx (dTup (dCons (dKeep (dOp mAdd (dVar 1) (dC (.int 1)))) (dCons (dKeep (dOp mMul (dVar 1) (dVar 2))) dNil))) (dCB mInt (dCons (dVar 3) dNil))))
  (dSeq (dSet 4 (dOp mRep (dLst (dCons (dKeep (dC (.str "row"))) dNil)) (dVar 8)))
  (dIfS (dB (dOp mNe (dVar 6) (dLst (dCons (dKeep (dC (.str "none"))) dNil))))
  (dSeq (dSet 4 (dOp mAdd (dLst (dCons (dKeep (dC (.str "labels"))) dNil)) (dVar 4)))
  (dIfS (dOr (dB (dOp mNe (dCB mLen (dCons (dVar 6) dNil)) (dC (.int 2)))) (dOr (dB (dOp mNe (dOp mIx (dVar 6) (dC (.int 0))) (dC (.str "best")))) (dB (dOp mIs (dCall F_digs (dCons (dKeep (dOp mIx (dVar 6) (dC (.int 1)))) (dCons (dKeep (dC (.int 9))) dNil))) (dC .non)))))
  (dRet (dVar 5))
  dNext))
  dNext)))
abbrev b_lab : DSM :=
  (dSeq (dSet 9 (dLc (dOver (dVar 6)) [10] (dName 10) dYes (dCall F_digs (dCons (dKeep (dVar 10)) (dCons (dKeep (dC (.int 1))) dNil)))))
  (dIfS (dOr (dB (dOp mIn (dC .non) (dVar 9))) (dOr (dB (dOp mNe (dCB mLen (dCons (dVar 9) dNil)) (dVar 1))) (dB (dOp mGeA (dCB mMax1 (dCons (dVar 9) dNil)) (dVar 2)))))
  (dRet (dVar 5))
  dNext))
abbrev b_row : DSM :=
  (dSeq (dSet 9 (dLc (dOver (dVar 6)) [10] (dName 10) (dAnd (dB (dOp mNe (dVar 10) (dC (.str "-")))) (dB (dOp mIs (dCall F_digs (dCons (dKeep (dVar 10)) (dCons (dKeep (dC (.int 9))) dNil))) (dC .non)))) (dVar 10)))
  (dIfS (dOr (dB (dOp mGtA (dCB mLen (dCons (dVar 9) dNil)) (dC (.int 0)))) (dB (dOp mNe (dCB mLen (dCons (dVar 6) dNil)) (dVar 2))))
  (dRet (dVar 5))
  dNext))
abbrev b_body : DSM :=
  (dSeq (dIfS (dB (dOp mEq (dCB mLen (dCons (dVar 4) dNil)) (dC (.int 0))))
  (dRet (dVar 5))
  dNext)
  (dSeq (dSet 6 (dM1 mSplit (dOp mIx (dVar 0) (dVar 5)) (dC (.str " "))))
  (dSeq (dSetP 7 (dPopF 4))
  (dIfS (dB (dOp mEq (dVar 7) (dC (.str "head")))) b_head
  (dIfS (dB (dOp mEq (dVar 7) (dC (.str "labels")))) b_lab b_row)))))
abbrev b_end : DSM :=
  (dSeq (dIfS (dB (dOp mGtA (dCB mLen (dCons (dVar 4) dNil)) (dC (.int 0))))
  (dRet (dCB mLen (dCons (dVar 0) dNil)))
  dNext)
  (dRet (dC .non)))
theorem bad_same : m_law_bad F_digs = dSeq (dSet 4 (dLst (dCons (dKeep (dC (.str "head"))) dNil))) (dSeq (dFor (dRng1 (dCB mLen (dCons (dVar 0) dNil))) (dName 5) b_body) b_end) := rfl
theorem lab_loop {a0 a1 a2 a3 a4 a5 a6 a7 a8 a9 : Option Nv} {Ql : En → List DL.D → Prop} : ∀ (ws : List Str) (acc : List (Option Nat)) (y : Option Nv), acc.length + ws.length ≤ 5000 → asc ws → (∀ w ∈ ws, w.length ≤ 5000) →
    (∀ y, Ql [a0, a1, a2, a3, a4, a5, a6, a7, a8, a9, y] ((acc ++ ws.map (digsF 1)).map optN)) →
    dLcL [10] (dName 10) dYes (dCall F_digs (dCons (dKeep (dVar 10)) (dCons (dKeep (dC (.int 1))) dNil))) (ws.map D.str) [a0, a1, a2, a3, a4, a5, a6, a7, a8, a9, y] (acc.map optN) Ql
  | [], acc, y, h, ha, hl, q => by
    have q := q y
    rw [List.map_nil, List.append_nil] at q
    exact q
  | w :: ws, acc, y, h, ha, hl, q => by
    rw [List.length_cons] at h
    have hw := ha w (List.mem_cons_self ..)
    have hwl := hl w (List.mem_cons_self ..)
    have ok : PyData.canLay0 (.str w) = true := okW_lay (L := 5000) ⟨hwl, hw⟩
    refine s_iteT ?_
    refine ⟨rfl, w, 1, rfl, by decide, by unfold sizeLine; omega, ok, ?_⟩
    refine ⟨by rw [List.length_map]; unfold sizeLine; omega, ?_⟩
    have k := lab_loop (a0 := a0) (a1 := a1) (a2 := a2) (a3 := a3) (a4 := a4) (a5 := a5) (a6 := a6) (a7 := a7) (a8 := a8) (a9 := a9) (Ql := Ql) ws (acc ++ [digsF 1 w]) none (by rw [List.length_append, List.length_singleton]; omega) (fun v hv => ha v (List.mem_cons_of_mem _ hv)) (fun v hv => hl v (List.mem_cons_of_mem _ hv)) fun y => by
      have q := q y
      rw [List.map_cons] at q
      rw [List.append_assoc]
      exact q
    rw [List.map_append] at k
    exact k
theorem filter_all (ws : List Str) : (decide ((0 : Int) < ((((ws.filter fun w => !entOk w).map D.str).length : Nat) : Int))) = !ws.all entOk := by
  rw [List.length_map]
  induction ws with
  | nil => rfl
  | cons w ws ih =>
    rw [List.filter_cons, List.all_cons]
    cases h : entOk w with
    | true => exact ih
    | false =>
      show decide ((0 : Int) < (((w :: ws.filter fun w => !entOk w).length : Nat) : Int)) = true
      rw [List.length_cons]
      exact decide_eq_true (by omega)
theorem row_ok {E : DEn} {a0 a1 a3 a4 a7 y8 y9 : Option Nv} {l i : Nat} {ws : List Str} (ha : asc ws) (hm : ln ws ≤ 5000) (hr : (ws.all entOk && ws.length == l) = true → ∀ y6 y9, E.nx [a0, a1, some (.val (.int (l : Int))), a3, a4, some (.val (.int (i : Int))), y6, a7, y8, y9, none])
    (hf : (ws.all entOk && ws.length == l) = false → ∀ env, E.rt env (.val (.int (i : Int)))) :
    b_row E [a0, a1, some (.val (.int (l : Int))), a3, a4, some (.val (.int (i : Int))), some (.own (ws.map D.str)), a7, y8, y9, none] := by
  have h1 := ln_len ws
  refine ⟨rfl, ?_⟩
  refine flt_loop ws [] none (by rw [List.length_nil]; omega) ha (fun w hw => by have := ln_mem hw; omega) fun y => ?_
  rw [List.nil_append]
  show dIte (decide ((0 : Int) < ((((ws.filter fun w => !entOk w).map D.str).length : Nat) : Int))) _ _
  rw [filter_all]
  cases h : ws.all entOk with
  | false => 
    refine s_iteT (s_iteT (hf ?_ _))
    rw [h]
    rfl
  | true =>
    refine s_iteF ?_
    rw [h, Bool.true_and] at hr hf
    refine ⟨⟨okD_int _, okD_int _⟩, ?_⟩
    show dIte (!eqD (.int (((ws.map D.str).length : Nat) : Int)) (.int (l : Int))) _ _
    rw [eqD_int, List.length_map]
    cases h2 : ws.length == l with
    | true =>
      have e : (((ws.length : Nat) : Int) == (l : Int)) = true := by rw [beq_iff_eq] at h2 ⊢; omega
      rw [e]
      exact s_iteF (hr h2 _ _)
    | false =>
      have e : (((ws.length : Nat) : Int) == (l : Int)) = false := by rw [beq_eq_false_iff_ne] at h2 ⊢; omega
      rw [e]
      exact s_iteT (hf h2 _)
theorem non_in (os : List (Option Nat)) : inD .non (os.map optN) = os.any (·.isNone) := by
  unfold inD
  rw [List.any_map]
  congr 1
  funext o
  cases o with
  | none => rfl
  | some n => simp [optN, eqD, toPy, PyData.eqv]
theorem ints_of : ∀ ns : List Nat, intsOf ((ns.map some).map optN) = some (ns.map fun n : Nat => (n : Int))
  | [] => rfl
  | n :: ns => by
    have ih := ints_of ns
    show (intsOf ((ns.map some).map optN)).map ((n : Int) :: ·) = _
    rw [ih]
    rfl
theorem okD_opts (os : List (Option Nat)) : okD (.lst (os.map optN)) := (okK_lst (k := 0) fun d hd => by
  obtain ⟨o, _, rfl⟩ := List.mem_map.mp hd
  cases o with
  | none => exact okK_non
  | some n => exact okK_int _).ok (by decide)
theorem all_some : ∀ os : List (Option Nat), os.any (·.isNone) = false → ∃ ns : List Nat, os = ns.map some
  | [], _ => ⟨[], rfl⟩
  | none :: os, h => by simp at h
  | some n :: os, h => by
    obtain ⟨ns, rfl⟩ := all_some os (by simpa using h)
    exact ⟨n :: ns, rfl⟩
theorem lab_ok {E : DEn} {a0 a2 a3 a4 a7 y8 y9 : Option Nv} {c l i : Nat} {ws : List Str} (ha : asc ws) (hne : ws ≠ []) (hm : ln ws ≤ 5000) (hl : a2 = some (.val (.int (l : Int)))) (hr : (ws.all (labW l) && ws.length == c) = true → ∀ y6 y9, E.nx [a0, some (.val (.int (c : Int))), a2, a3, a4, some (.val (.int (i : Int))), y6, a7, y8, y9, none])
    (hf : (ws.all (labW l) && ws.length == c) = false → ∀ env, E.rt env (.val (.int (i : Int)))) :
    b_lab E [a0, some (.val (.int (c : Int))), a2, a3, a4, some (.val (.int (i : Int))), some (.own (ws.map D.str)), a7, y8, y9, none] := by
  subst hl
  have h1 := ln_len ws
  refine ⟨rfl, ?_⟩
  refine lab_loop ws [] none (by rw [List.length_nil]; omega) ha (fun w hw => by have := ln_mem hw; omega) fun y => ?_
  rw [List.nil_append]
  refine ⟨⟨okD_non, okD_opts _⟩, ?_⟩
  show dIte (inD .non ((ws.map (digsF 1)).map optN)) _ _
  rw [non_in]
  cases h : (ws.map (digsF 1)).any (·.isNone) with
  | true =>
    refine s_iteT (s_iteT (hf ?_ _))
    have : ws.all (labW l) = false := by
      rw [List.any_map, List.any_eq_true] at h
      obtain ⟨w, hw, hn⟩ := h
      rw [List.all_eq_false]
      refine ⟨w, hw, ?_⟩
      have hn : (digsF 1 w).isNone = true := hn
      rw [Option.isNone_iff_eq_none] at hn
      unfold labW
      rw [hn]
      exact Bool.false_ne_true
    rw [this]
    rfl
  | false =>
    refine s_iteF ?_
    obtain ⟨ns, e⟩ := all_some _ h
    have elen : ns.length = ws.length := by
      have := congrArg List.length e
      rw [List.length_map, List.length_map] at this
      exact this.symm
    have eall : ws.all (labW l) = ns.all fun n => decide (n < l) := by
      have : ws.all (labW l) = (ws.map (digsF 1)).all fun o => match o with
        | some d => decide (d < l)
        | none => false := by rw [List.all_map]; rfl
      rw [this, e, List.all_map]
      rfl
    rw [eall] at hr hf
    rw [e]
    refine ⟨⟨okD_int _, okD_int _⟩, ?_⟩
    show dIte (!eqD (.int ((((ns.map some).map optN).length : Nat) : Int)) (.int (c : Int))) _ _
    rw [eqD_int, List.length_map, List.length_map, elen]
    cases h2 : ws.length == c with
    | false =>
      have e3 : (((ws.length : Nat) : Int) == (c : Int)) = false := by rw [beq_eq_false_iff_ne] at h2 ⊢; omega
      rw [e3]
      exact s_iteT (s_iteT (hf (by rw [h2, Bool.and_false]) _))
    | true =>
      have e3 : (((ws.length : Nat) : Int) == (c : Int)) = true := by rw [beq_iff_eq] at h2 ⊢; omega
      rw [e3]
      refine s_iteF ?_
      rw [h2, Bool.and_true] at hr hf
      have hpos := List.length_pos_iff.mpr hne
      refine ⟨_, ints_of ns, by rw [List.length_map]; omega, fun m hm1 hm2 => ?_⟩
      show dIte (decide ((l : Int) ≤ m)) _ _
      obtain ⟨n, hn, rfl⟩ := List.mem_map.mp hm1
      cases h3 : ns.all fun n => decide (n < l) with
      | true =>
        have := of_decide_eq_true (List.all_eq_true.mp h3 n hn)
        rw [decide_eq_false (by omega)]
        exact s_iteF (hr h3 _ _)
      | false =>
        obtain ⟨k, hk, hk2⟩ := List.all_eq_false.mp h3
        have hk3 : ¬ k < l := fun z => hk2 (decide_eq_true z)
        have := hm2 (k : Int) (List.mem_map.mpr ⟨k, hk, rfl⟩)
        rw [decide_eq_true (by omega)]
        exact s_iteT (hf h3 _)
theorem eqD_strs (ws vs : List Str) : eqD (.lst (ws.map D.str)) (.lst (vs.map D.str)) = (ws == vs) := by
  have key : ∀ ws vs : List Str, PyData.eqvAll (toPys (ws.map D.str)) (toPys (vs.map D.str)) = (ws == vs) := by
    intro ws
    induction ws with
    | nil =>
      intro vs
      cases vs with
      | nil => rfl
      | cons v vs => rfl
    | cons w ws ih =>
      intro vs
      cases vs with
      | nil => rfl
      | cons v vs =>
        rw [List.map_cons, List.map_cons, toPys, toPys, PyData.eqvAll, ih, toPy, toPy]
        simp [PyData.eqv]
  unfold eqD
  rw [toPy, toPy, PyData.eqv]
  exact key ws vs
theorem okD_ws {ws : List Str} (h : asc ws) (hl : ∀ w ∈ ws, w.length ≤ 5000) : okD (.lst (ws.map D.str)) := (okK_lst (k := 0) fun d hd => by
  obtain ⟨w, hw, rfl⟩ := List.mem_map.mp hd
  exact okK_str (okW_lay (L := 5000) ⟨hl w hw, h w hw⟩)).ok (by decide)
theorem rep_flat (d : DL.D) : ∀ k : Nat, (List.replicate k [d]).flatten = List.replicate k d
  | 0 => rfl
  | k + 1 => by
    rw [List.replicate_succ, List.flatten_cons, rep_flat d k]
    rfl
abbrev b_h2 : DSM :=
  (dIfS (dB (dOp mNe (dVar 6) (dLst (dCons (dKeep (dC (.str "none"))) dNil))))
  (dSeq (dSet 4 (dOp mAdd (dLst (dCons (dKeep (dC (.str "labels"))) dNil)) (dVar 4)))
  (dIfS (dOr (dB (dOp mNe (dCB mLen (dCons (dVar 6) dNil)) (dC (.int 2)))) (dOr (dB (dOp mNe (dOp mIx (dVar 6) (dC (.int 0))) (dC (.str "best")))) (dB (dOp mIs (dCall F_digs (dCons (dKeep (dOp mIx (dVar 6) (dC (.int 1)))) (dCons (dKeep (dC (.int 9))) dNil))) (dC .non)))))
  (dRet (dVar 5))
  dNext))
  dNext)
abbrev b_h3 : DSM :=
  (dIfS (dOr (dB (dOp mNe (dCB mLen (dCons (dVar 6) dNil)) (dC (.int 2)))) (dOr (dB (dOp mNe (dOp mIx (dVar 6) (dC (.int 0))) (dC (.str "best")))) (dB (dOp mIs (dCall F_digs (dCons (dKeep (dOp mIx (dVar 6) (dC (.int 1)))) (dCons (dKeep (dC (.int 9))) dNil))) (dC .non)))))
  (dRet (dVar 5))
  dNext)
theorem head_ok {E : DEn} {a0 a7 y8 y9 : Option Nv} {c l i rows : Nat} {b : Bool} {ds : List DL.D} {ws : List Str} (ha : asc ws) (hm : ln ws ≤ 5000) (hc : c ≤ 10) (hl : l ≤ 10) (hrows : rows = if b = true then c * l else c + 1)
    (h1 : ws = [("none" : Str)] → ∀ y6 y8, E.nx [a0, some (.val (.int (c : Int))), some (.val (.int (l : Int))), some (.val (.bl b)), some (.own (List.replicate rows (.str "row"))), some (.val (.int (i : Int))), y6, a7, y8, y9, none])
    (h2 : ws ≠ [("none" : Str)] → bestW ws = true → ∀ y6 y8, E.nx [a0, some (.val (.int (c : Int))), some (.val (.int (l : Int))), some (.val (.bl b)), some (.own (.str "labels" :: List.replicate rows (.str "row"))), some (.val (.int (i : Int))), y6, a7, y8, y9, none])
    (h3 : ws ≠ [("none" : Str)] → bestW ws = false → ∀ env, E.rt env (.val (.int (i : Int)))) :
    b_head E [a0, some (.val (.int (c : Int))), some (.val (.int (l : Int))), some (.val (.bl b)), some (.own ds), some (.val (.int (i : Int))), some (.own (ws.map D.str)), a7, y8, y9, none] := by
  have hl1 := ln_len ws
  have hr : rows ≤ 100 := by
    subst hrows
    split
    · exact Nat.le_trans (Nat.mul_le_mul hc hl) (by decide)
    · omega
  refine ⟨.inl ⟨by omega, by omega⟩, ?_⟩
  refine ⟨_, rfl, by show 2 ≤ sizeLine; decide, ?_⟩
  have hx : atI ([.int ((c : Int) + 1), .int ((c : Int) * (l : Int))] : List DL.D) (if b = true then 1 else 0) = some (.int (rows : Int)) := by
    subst hrows
    cases b with
    | true => exact DL.atI_nat (k := 1) rfl
    | false => exact DL.atI_nat (k := 0) rfl
  refine ⟨_, hx, ?_⟩
  refine ⟨[.str "row"], rfl, by show 1 ≤ sizeLine; decide, ?_⟩
  refine ⟨⟨by omega, by omega, by show 1 * ((rows : Int)).toNat ≤ sizeLine; unfold sizeLine; omega⟩, ?_⟩
  show b_h2 E [a0, some (.val (.int (c : Int))), some (.val (.int (l : Int))), some (.val (.bl b)), some (.own (List.replicate rows [DL.D.str "row"]).flatten), some (.val (.int (i : Int))), some (.own (ws.map D.str)), a7, some (.val (.int (rows : Int))), y9, none]
  rw [rep_flat]
  have hwl : ∀ w ∈ ws, w.length ≤ 5000 := fun w hw => by have := ln_mem hw; omega
  have none_ok : okD (.lst ([("none" : Str)].map D.str)) := okD_ws (asc.one (by decide +kernel)) fun w hw => by rw [List.mem_singleton.mp hw]; decide +kernel
  refine ⟨[.str "none"], rfl, by show 1 ≤ sizeLine; decide, ?_⟩
  refine ⟨⟨okD_ws ha hwl, none_ok⟩, ?_⟩
  show dIte (!eqD (.lst (ws.map D.str)) (.lst ([("none" : Str)].map D.str))) _ _
  rw [eqD_strs]
  by_cases hn : ws = [("none" : Str)]
  · subst hn
    rw [beq_self_eq_true]
    exact s_iteF (h1 rfl _ _)
  · have e : (ws == [("none" : Str)]) = false := beq_eq_false_iff_ne.mpr hn
    rw [e]
    refine s_iteT ?_
    refine ⟨[.str "labels"], rfl, by show 1 ≤ sizeLine; decide, ?_⟩
    refine ⟨by show 1 + (List.replicate rows (DL.D.str "row")).length ≤ sizeLine; rw [List.length_replicate]; unfold sizeLine; omega, ?_⟩
    show b_h3 E [a0, some (.val (.int (c : Int))), some (.val (.int (l : Int))), some (.val (.bl b)), some (.own (.str "labels" :: List.replicate rows (.str "row"))), some (.val (.int (i : Int))), some (.own (ws.map D.str)), a7, some (.val (.int (rows : Int))), y9, none]
    refine ⟨⟨okD_int _, okD_int _⟩, ?_⟩
    show dIte (!eqD (.int (((ws.map D.str).length : Nat) : Int)) (.int 2)) _ _
    rw [eqD_int, List.length_map]
    by_cases h2l : ws.length = 2
    · have e3 : (((ws.length : Nat) : Int) == 2) = true := by rw [beq_iff_eq]; omega
      rw [e3]
      refine s_iteF ?_
      obtain ⟨a, d, rfl⟩ : ∃ a d, ws = [a, d] := by
        match ws, h2l with
        | [a, d], _ => exact ⟨a, d, rfl⟩
      have ma := ha a (List.mem_cons_self ..)
      have md := ha d (List.mem_cons_of_mem _ (List.mem_cons_self ..))
      have la := hwl a (List.mem_cons_self ..)
      have ld := hwl d (List.mem_cons_of_mem _ (List.mem_cons_self ..))
      have oa : PyData.canLay0 (.str a) = true := okW_lay (L := 5000) ⟨la, ma⟩
      have od : PyData.canLay0 (.str d) = true := okW_lay (L := 5000) ⟨ld, md⟩
      refine ⟨_, DL.atI_nat (k := 0) rfl, ?_⟩
      refine ⟨⟨okD_str oa, okD_str (by decide +kernel)⟩, ?_⟩
      show dIte (!eqD (.str a) (.str "best")) _ _
      rw [eqD_str]
      cases hb : a == ("best" : Str) with
      | false =>
        refine s_iteT (s_iteT (h3 hn ?_ _))
        show (a == ("best" : Str) && (digsF 9 d).isSome) = false
        rw [hb, Bool.false_and]
      | true =>
        refine s_iteF ?_
        refine ⟨_, DL.atI_nat (k := 1) rfl, ?_⟩
        refine ⟨rfl, d, 9, rfl, by decide, by unfold sizeLine; omega, od, ?_⟩
        cases hd : digsF 9 d with
        | none =>
          refine ⟨true, rfl, s_iteT (h3 hn ?_ _)⟩
          show (a == ("best" : Str) && (digsF 9 d).isSome) = false
          rw [hd, Option.isSome_none, Bool.and_false]
        | some x =>
          refine ⟨false, rfl, s_iteF (h2 hn ?_ _ _)⟩
          show (a == ("best" : Str) && (digsF 9 d).isSome) = true
          rw [hd, hb]
          rfl
    · have e3 : (((ws.length : Nat) : Int) == 2) = false := by rw [beq_eq_false_iff_ne]; omega
      rw [e3]
      refine s_iteT (s_iteT (h3 hn ?_ _))
      unfold bestW
      split
      · rename_i a d
        exact absurd rfl h2l
      · rfl
theorem body_pre {E : DEn} {a1 a2 a3 y6 y7 y8 y9 : Option Nv} {all : List Str} {i : Nat} {t : Str} {d : DL.D} {ds : List DL.D} (hi : all[i]? = some t) (ht : okW 4000 t)
    (q : ∀ y6 , y6 = some (.own ((Txt.split t " ").map D.str)) → (dIfS (dB (dOp mEq (dVar 7) (dC (.str "head")))) b_head (dIfS (dB (dOp mEq (dVar 7) (dC (.str "labels")))) b_lab b_row)) E
      [some (.val (.lst (all.map D.str))), a1, a2, a3, some (.own ds), some (.val (.int (i : Int))), y6, some (.val d), y8, y9, none]) :
    b_body E [some (.val (.lst (all.map D.str))), a1, a2, a3, some (.own (d :: ds)), some (.val (.int (i : Int))), y6, y7, y8, y9, none] := by
  refine ⟨⟨okD_int _, okD_int _⟩, ?_⟩
  show dIte (eqD (.int (((d :: ds).length : Nat) : Int)) (.int 0)) _ _
  rw [eqD_int]
  have e : ((((d :: ds).length : Nat) : Int) == 0) = false := by
    rw [beq_eq_false_iff_ne, List.length_cons]
    omega
  rw [e]
  refine s_iteF ?_
  refine ⟨_, DL.atI_nat (by rw [List.getElem?_map, hi]; rfl), ?_⟩
  refine ⟨⟨_, rfl⟩, ⟨by decide +kernel, by have := ht.1; unfold sizeLine; omega⟩, ?_⟩
  exact q _ rfl
theorem row_lits : okD (.str "row") ∧ okD (.str "head") ∧ okD (.str "labels") := ⟨okD_str (by decide +kernel), okD_str (by decide +kernel), okD_str (by decide +kernel)⟩
theorem lits_ne : (("row" : Str) == "head") = false ∧ (("row" : Str) == "labels") = false ∧ (("labels" : Str) == "head") = false := by decide +kernel
theorem rowsB_loop {E : DEn} {a1 a3 y8 : Option Nv} {l : Nat} {all : List Str} (hw : ∀ t ∈ all, okW 4000 t) : ∀ (ts : List Str) (i k : Nat) (y5 y6 y7 y9 : Option Nv), ts = all.drop i → i + ts.length = all.length →
    (∀ n env, badRows l i ts k = some n → E.rt env (.val (.int (n : Int)))) →
    (∀ k' y5 y6 y7 y9, badRows l i ts k = badRows l all.length [] k' → E.nx [some (.val (.lst (all.map D.str))), a1, some (.val (.int (l : Int))), a3, some (.own (List.replicate k' (.str "row"))), y5, y6, y7, y8, y9, none]) →
    dLoop (dName 5) b_body E ((List.range' i ts.length).map fun k : Nat => DL.D.int (k : Int)) [some (.val (.lst (all.map D.str))), a1, some (.val (.int (l : Int))), a3, some (.own (List.replicate k (.str "row"))), y5, y6, y7, y8, y9, none]
  | [], i, k, y5, y6, y7, y9, e, hl, hr, q => q k y5 y6 y7 y9 (by rw [← hl]; rfl)
  | t :: ts, i, k, y5, y6, y7, y9, e, hl, hr, q => by
    have hi : all[i]? = some t := by
      have := congrArg (·[0]?) e
      simpa using this.symm
    have ht := hw t (List.mem_of_getElem? hi)
    cases k with
    | zero =>
      refine ⟨⟨okD_int _, okD_int _⟩, ?_⟩
      refine s_iteT ?_
      exact hr i _ rfl
    | succ k =>
      rw [badRows] at hr q
      refine body_pre hi ht fun y6 hy6 => ?_
      subst hy6
      refine ⟨⟨row_lits.1, row_lits.2.1⟩, ?_⟩
      show dIte (eqD (.str "row") (.str "head")) _ _
      rw [eqD_str, lits_ne.1]
      refine s_iteF ⟨⟨row_lits.1, row_lits.2.2⟩, ?_⟩
      show dIte (eqD (.str "row") (.str "labels")) _ _
      rw [eqD_str, lits_ne.2.1]
      refine s_iteF ?_
      obtain ⟨s1, s2, s3⟩ := split_ln ht
      refine row_ok s2 (by omega) (fun h y6 y9 => ?_) (fun h env => ?_)
      · have h' : rowOk l t = true := h
        rw [h'] at hr q
        exact rowsB_loop hw ts (i + 1) k _ y6 _ y9 (by rw [← List.drop_drop, ← e]; rfl) (by rw [List.length_cons] at hl; omega) hr q
      · have h' : rowOk l t = false := h
        rw [h'] at hr
        exact hr i env rfl
def F_bad : FM := fun rs Qd => ∃ (ts : List Str) (c l : Nat) (b : Bool), rs = [.val (.lst (ts.map D.str)), .val (.int (c : Int)), .val (.int (l : Int)), .val (.bl b)] ∧ c ≤ 10 ∧ l ≤ 10 ∧ ts.length ≤ 10000 ∧ (∀ t ∈ ts, okW 4000 t) ∧
  Qd (.val (optN (badF c l (if b = true then c * l else c + 1) ts)))
theorem badF_cons (c l rows : Nat) (t : Str) (ts : List Str) : badF c l rows (t :: ts) = if Txt.split t " " = [("none" : Str)] then badRows l 1 ts rows else if bestOk t = true then (match ts with
      | [] => some 1
      | u :: us => if labOk c l u = true then badRows l 2 us rows else some 1) else some 0 := by
  cases ts <;> rfl
theorem end_ok {Qd : R → Prop} {a1 a2 a3 y5 y6 y7 y8 y9 : Option Nv} {all : List Str} {ds : List DL.D} (q : Qd (.val (if ds.length = 0 then .non else .int (all.length : Nat)))) :
    b_end { nx := fun _ => Qd (.val .non), rt := fun _ r => Qd r } [some (.val (.lst (all.map D.str))), a1, a2, a3, some (.own ds), y5, y6, y7, y8, y9, none] := by
  show dIte (decide ((0 : Int) < ((ds.length : Nat) : Int))) _ _
  by_cases h : ds.length = 0
  · rw [if_pos h] at q
    rw [decide_eq_false (by omega)]
    exact s_iteF q
  · rw [if_neg h] at q
    rw [decide_eq_true (by omega)]
    refine s_iteT ?_
    show Qd (.val (.int (((all.map D.str).length : Nat) : Int)))
    rw [List.length_map]
    exact q
theorem bad_body : ∀ rs Qd, F_bad rs Qd → bodyF 11 (m_law_bad F_digs) rs Qd := by
  rintro rs Qd ⟨all, c, l, b, rfl, hc, hl, hn, hw, q⟩
  rw [bad_same]
  refine ⟨[.str "head"], rfl, by show 1 ≤ sizeLine; decide, ?_⟩
  have hz : (all.map D.str).length = all.length := List.length_map ..
  have er : rangeD 0 (((all.map D.str).length : Nat) : Int) = (List.range' 0 all.length).map fun k : Nat => DL.D.int (k : Int) := by
    rw [rangeD_nat, hz, List.range_eq_range']
  refine ⟨by rw [hz]; omega, by rw [hz]; omega, ?_⟩
  show dLoop (dName 5) b_body _ (rangeD 0 (((all.map D.str).length : Nat) : Int)) _
  rw [er]
  have rest : ∀ (ts : List Str) (i k : Nat) (a8 : Option Nv) (y5 y6 y7 y9 : Option Nv), ts = all.drop i → i + ts.length = all.length → badF c l (if b = true then c * l else c + 1) all = badRows l i ts k →
      dLoop (dName 5) b_body { nx := b_end { nx := fun _ => Qd (.val .non), rt := fun _ r => Qd r }, rt := fun _ r => Qd r } ((List.range' i ts.length).map fun k : Nat => DL.D.int (k : Int)) [some (.val (.lst (all.map D.str))), some (.val (.int (c : Int))), some (.val (.int (l : Int))), some (.val (.bl b)), some (.own (List.replicate k (.str "row"))), y5, y6, y7, a8, y9, none] := by
    intro ts i k a8 y5 y6 y7 y9 e1 e2 e3
    rw [e3] at q
    refine rowsB_loop hw ts i k y5 y6 y7 y9 e1 e2 (fun n env h => ?_) (fun k' y5 y6 y7 y9 h => ?_)
    · rw [h] at q
      exact q
    · refine end_ok ?_
      rw [List.length_replicate]
      rw [h] at q
      cases k' with
      | zero => exact q
      | succ k' => exact q
  clear er hz
  cases all with
  | nil => exact end_ok (ds := [.str "head"]) q
  | cons t ts =>
    have ht := hw t (List.mem_cons_self ..)
    obtain ⟨s1, s2, s3⟩ := split_ln ht
    refine body_pre (i := 0) (d := .str "head") (ds := []) rfl ht fun y6 hy6 => ?_
    subst hy6
    refine ⟨⟨row_lits.2.1, row_lits.2.1⟩, ?_⟩
    show dIte (eqD (.str "head") (.str "head")) _ _
    rw [eqD_str, beq_self_eq_true]
    refine s_iteT ?_
    refine head_ok (i := 0) s2 (by omega) hc hl rfl (fun h y6 y8 => ?_) (fun h h2 y6 y8 => ?_) (fun h h2 env => ?_)
    · refine rest ts 1 _ y8 _ y6 _ _ rfl (by rw [List.length_cons]; omega) ?_
      rw [badF_cons, if_pos h]
    · have hb : bestOk t = true := h2
      cases ts with
      | nil =>
        refine end_ok ?_
        rw [badF, if_neg h, hb] at q
        exact q
      | cons u us =>
        have hu := hw u (List.mem_cons_of_mem _ (List.mem_cons_self ..))
        obtain ⟨r1, r2, r3⟩ := split_ln hu
        refine body_pre (i := 1) (d := .str "labels") (ds := List.replicate _ (.str "row")) rfl hu fun y6 hy6 => ?_
        subst hy6
        refine ⟨⟨row_lits.2.2, row_lits.2.1⟩, ?_⟩
        show dIte (eqD (.str "labels") (.str "head")) _ _
        rw [eqD_str, lits_ne.2.2]
        refine s_iteF ⟨⟨row_lits.2.2, row_lits.2.2⟩, ?_⟩
        show dIte (eqD (.str "labels") (.str "labels")) _ _
        rw [eqD_str, beq_self_eq_true]
        refine s_iteT ?_
        refine lab_ok (i := 1) r2 r3 (by omega) rfl (fun hlab y6 y9 => ?_) (fun hlab env => ?_)
        · have hlab' : labOk c l u = true := hlab
          refine rest us 2 _ y8 _ y6 _ _ rfl (by rw [List.length_cons, List.length_cons]; omega) ?_
          rw [badF, if_neg h, hb]
          show (if labOk c l u = true then badRows l 2 us _ else some 1) = _
          rw [hlab']
          rfl
        · have hlab' : labOk c l u = false := hlab
          rw [badF, if_neg h, hb] at q
          have q : Qd (.val (optN (if labOk c l u = true then badRows l 2 us (if b = true then c * l else c + 1) else some 1))) := q
          rw [hlab'] at q
          exact q
    · have hb : bestOk t = false := h2
      rw [badF_cons, if_neg h, hb] at q
      exact q
end G
end

section
set_option Elab.async false
set_option linter.all false
set_option maxRecDepth 100000
set_option maxHeartbeats 4000000
namespace G
open PySem PySem.Spec PyProof.Rows L2 DL
local macro_rules | `(tactic| walk_at "ok1") => `(tactic| first | exact okD_int _ | exact okD_bl _ | exact okD_non | exact okD_str (by assumption) | assumption)
local macro_rules | `(tactic| walk_at "go1") => `(tactic| ((conv => whnf); first
  | refine s_iteT ?_ | refine s_iteF ?_
  | refine ⟨⟨by walk_at "ok1", by walk_at "ok1"⟩, ?_⟩
  | refine ⟨_, rfl, ?_⟩
  | refine ⟨rfl, ?_⟩
  | refine ⟨Nat.le_of_ble_eq_true rfl, ?_⟩
  | refine ⟨_, isB_tuple (by assumption), ?_⟩
  | refine ⟨_, isB_list (by assumption), ?_⟩
  | refine ⟨_, isB_bool (by assumption), ?_⟩
  | refine ⟨_, isB_int (by assumption), ?_⟩
  | refine ⟨_, isB_str (by assumption), ?_⟩
  | refine ⟨_, by assumption, ?_⟩
  | refine s_ite1 (by assumption) ?_ | refine s_ite0 (by assumption) ?_))
local macro_rules | `(tactic| walk_at "go") => `(tactic| repeat walk_at "go1")
/-! ### the lines, and which is next -/
abbrev lns : List Str := ["lines", "at"]
def lfx (C dx : Addr) (ts : List Str) (n : Nat) : FxL := .ins C dx lns [.lst (ts.map D.str), .int n]
theorem ll_l (a b : DL.D) : lookF "lines" lns [a, b] = some a := by
  show (if ("lines" : Str) == "lines" then some a else _) = _
  rw [if_pos (by decide +kernel)]
theorem ll_a (a b : DL.D) : lookF "at" lns [a, b] = some b := by
  show (if ("at" : Str) == "lines" then some a else if ("at" : Str) == "at" then some b else _) = _
  rw [if_neg (by decide +kernel), if_pos (by decide +kernel)]
theorem ln_no : DL.noF "need" lns = true ∧ DL.noF "take" lns = true ∧ DL.noF "head" lns = true ∧ DL.noF "labels_told" lns = true ∧ DL.noF "rows" lns = true ∧ DL.noF "row" lns = true ∧ DL.noF "finish" lns = true := by decide +kernel
theorem lp_ns : putNs "at" lns = lns := by decide +kernel
theorem lp_ds (a b d : DL.D) : putDs "at" d lns [a, b] = [a, d] := by
  show (if ("lines" : Str) == "at" then _ else a :: if ("at" : Str) == "at" then [d] else _) = _
  rw [if_neg (by decide +kernel), if_pos (by decide +kernel)]
theorem lp1_ns : putNs "at" ["lines"] = lns := by decide +kernel
theorem lp1_ds (a d : DL.D) : putDs "at" d ["lines"] [a] = [a, d] := by
  show (if ("lines" : Str) == "at" then _ else a :: [d]) = _
  rw [if_neg (by decide +kernel)]
def lOk (ts : List Str) : Prop := ts.length ≤ 10000 ∧ ∀ t ∈ ts, okW 4000 t
theorem small_at {n : Nat} (h : n ≤ 100000) : SmallD (.int (n : Int)) := .int _ (by
  show n.log2 < 1000
  by_cases c : n = 0
  · rw [c]
    decide
  · have := (Nat.log2_lt (n := n) (k := 18) c).mpr (by omega)
    omega)
def F_need (a : Ad) : FMM := fun rs l Qd Qx => ∃ (dx : Addr) (ts : List Str) (n : Nat) (b : Bool), rs = [.val (.bl b)] ∧ l = lfx a.Lines dx ts n ∧ n ≤ 100000 ∧ (b = true → Qd (.val .non) l) ∧ (b = false → Qx ⟨a.x_BadPaper, "at", .int n⟩)
theorem need_body (a : Ad) : ∀ rs l Qd Qx, F_need a rs l Qd Qx → bodyM 2 (m_Lines_need a) rs l Qd Qx := by
  rintro rs l Qd Qx ⟨dx, ts, n, b, rfl, rfl, hn, q1, q2⟩ p
  unfold m_Lines_need
  show dIfS _ _ _ _ [some (.fix p (lfx a.Lines dx ts n)), some (.val (.bl b))]
  refine ⟨b, rfl, ?_⟩
  cases b with
  | true => exact s_iteF ⟨_, rfl, q1 rfl⟩
  | false =>
    refine s_iteT ?_
    refine ⟨rfl, _, ll_a _ _, ?_⟩
    exact ⟨small_at hn, q2 rfl⟩
/-- the words of the next line -/
def F_take (a : Ad) : FMM := fun rs l Qd Qx => ∃ (dx : Addr) (ts : List Str) (n : Nat), rs = [] ∧ l = lfx a.Lines dx ts n ∧ n ≤ ts.length ∧ lOk ts ∧ (∀ t, ts[n]? = some t → Qd (.val (.lst ((Txt.split t " ").map D.str))) l) ∧ (ts[n]? = none → Qx ⟨a.x_BadPaper, "at", .int n⟩)
theorem take_body (a : Ad) {F : FMM} (hF : ∀ rs l Q Qx, F_need a rs l Q Qx → F rs l Q Qx) : ∀ rs l Qd Qx, F_take a rs l Qd Qx → bodyM 1 (m_Lines_take a F) rs l Qd Qx := by
  rintro rs l Qd Qx ⟨dx, ts, n, rfl, rfl, hn, hw, q1, q2⟩ p
  unfold m_Lines_take
  show dSeq _ _ _ [some (.fix p (lfx a.Lines dx ts n))]
  refine ⟨rfl, ln_no.1, ?_⟩
  refine ⟨rfl, _, ll_a _ _, ?_⟩
  refine ⟨rfl, _, ll_l _ _, ?_⟩
  refine ⟨rfl, hF _ _ _ _ ⟨dx, ts, n, _, rfl, rfl, Nat.le_trans hn (Nat.le_trans hw.1 (by decide)), fun hb => ?_, fun hb => q2 ?_⟩⟩
  · have hb := of_decide_eq_true hb
    rw [List.length_map] at hb
    have hi : n < ts.length := by omega
    have e := List.getElem?_eq_getElem hi
    have ht := hw.2 _ (List.mem_of_getElem? e)
    refine ⟨rfl, _, ll_l _ _, ?_⟩
    refine ⟨rfl, _, ll_a _ _, ?_⟩
    refine ⟨_, DL.atI_nat (by rw [List.getElem?_map, e]; rfl), ?_⟩
    refine ⟨⟨_, rfl⟩, ⟨by decide +kernel, by have := ht.1; unfold sizeLine; omega⟩, ?_⟩
    exact ⟨_, rfl, q1 _ e⟩
  · have hb := of_decide_eq_false hb
    rw [List.length_map] at hb
    rw [List.getElem?_eq_none_iff]
    omega
def F_finish (a : Ad) : FMM := fun rs l Qd Qx => ∃ (dx : Addr) (ts : List Str) (n : Nat), rs = [] ∧ l = lfx a.Lines dx ts n ∧ n ≤ ts.length ∧ lOk ts ∧ (n = ts.length → Qd (.val .non) l) ∧ (n < ts.length → Qx ⟨a.x_BadPaper, "at", .int n⟩)
theorem finish_body (a : Ad) {F : FMM} (hF : ∀ rs l Q Qx, F_need a rs l Q Qx → F rs l Q Qx) : ∀ rs l Qd Qx, F_finish a rs l Qd Qx → bodyM 1 (m_Lines_finish a F) rs l Qd Qx := by
  rintro rs l Qd Qx ⟨dx, ts, n, rfl, rfl, hn, hw, q1, q2⟩ p
  unfold m_Lines_finish
  show dDropP _ _ [some (.fix p (lfx a.Lines dx ts n))]
  refine ⟨rfl, ln_no.1, ?_⟩
  refine ⟨rfl, _, ll_a _ _, ?_⟩
  refine ⟨rfl, _, ll_l _ _, ?_⟩
  refine ⟨⟨okD_int _, okD_int _⟩, ?_⟩
  have e : eqD (.int (n : Int)) (.int ((ts.map D.str).length : Nat)) = decide (n = ts.length) := by
    rw [eqD_int, List.length_map]
    by_cases c : n = ts.length
    · rw [decide_eq_true c, beq_iff_eq]
      omega
    · rw [decide_eq_false c, beq_eq_false_iff_ne]
      omega
  refine ⟨rfl, hF _ _ _ _ ⟨dx, ts, n, _, rfl, rfl, Nat.le_trans hn (Nat.le_trans hw.1 (by decide)), fun hb => ?_, fun hb => q2 ?_⟩⟩
  · have hb : eqD (.int (n : Int)) (.int ((ts.map D.str).length : Nat)) = true := hb
    rw [e] at hb
    exact ⟨_, rfl, q1 (of_decide_eq_true hb)⟩
  · have hb : eqD (.int (n : Int)) (.int ((ts.map D.str).length : Nat)) = false := hb
    rw [e] at hb
    have := of_decide_eq_false hb
    omega
def F_linit (a : Ad) : FMM := fun rs l Qd Qx => ∃ (dx : Addr) (ts : List Str), rs = [.val (.lst (ts.map D.str))] ∧ l = .ins a.Lines dx [] [] ∧ Qd (.val .non) (lfx a.Lines dx ts 0)
theorem linit_body (a : Ad) : ∀ rs l Qd Qx, F_linit a rs l Qd Qx → bodyM 2 (m_Lines_initdd a) rs l Qd Qx := by
  rintro rs l Qd Qx ⟨dx, ts, rfl, rfl, q⟩ p
  unfold m_Lines_initdd
  show dSeq _ _ _ [some (.fix p (.ins a.Lines dx [] [])), some (.val (.lst (ts.map D.str)))]
  walk_at "go"
  exact q
end G
end

section
set_option Elab.async false
set_option linter.all false
set_option maxRecDepth 100000
set_option maxHeartbeats 4000000
namespace G
open PySem PySem.Spec PyProof.Rows L2 DL
local macro_rules | `(tactic| walk_at "ok1") => `(tactic| first | exact okD_int _ | exact okD_bl _ | exact okD_non | exact okD_str (by assumption) | assumption)
local macro_rules | `(tactic| walk_at "go1") => `(tactic| ((conv => whnf); first
  | refine s_iteT ?_ | refine s_iteF ?_
  | refine ⟨⟨by walk_at "ok1", by walk_at "ok1"⟩, ?_⟩
  | refine ⟨_, rfl, ?_⟩
  | refine ⟨rfl, ?_⟩
  | refine ⟨Nat.le_of_ble_eq_true rfl, ?_⟩
  | refine ⟨_, isB_tuple (by assumption), ?_⟩
  | refine ⟨_, isB_list (by assumption), ?_⟩
  | refine ⟨_, isB_bool (by assumption), ?_⟩
  | refine ⟨_, isB_int (by assumption), ?_⟩
  | refine ⟨_, isB_str (by assumption), ?_⟩
  | refine ⟨_, by assumption, ?_⟩
  | refine s_ite1 (by assumption) ?_ | refine s_ite0 (by assumption) ?_))
local macro_rules | `(tactic| walk_at "go") => `(tactic| repeat walk_at "go1")
/-! ### a word that is a number -/
def F_isnum : FM := fun rs Qd => ∃ w : Str, rs = [.val (.str w)] ∧ okW 4000 w ∧ Qd (.val (.bl (digsF 9 w).isSome))
theorem sign_loop {a0 : Option Nv} {Ql : En → List DL.D → Prop} : ∀ (l : List Nat) (acc : List Bool) (y : Option Nv), acc.length + l.length ≤ 5000 → (∀ y, Ql [a0, y] ((acc ++ l.map fun c => decide (48 ≤ c ∧ c ≤ 57)).map D.bl)) →
    dLcL [1] (dName 1) dYes (dOp mInS (dVar 1) (dC (.str "0123456789"))) (l.map fun c => DL.D.str ⟨#[c]⟩) [a0, y] (acc.map D.bl) Ql
  | [], acc, y, h, q => by
    have q := q y
    rw [List.map_nil, List.append_nil] at q
    exact q
  | c :: l, acc, y, h, q => by
    rw [List.length_cons] at h
    refine s_iteT ?_
    refine ⟨c, rfl, ?_⟩
    have e : decide (c ∈ (("0123456789" : Str)).cps.toList) = decide (48 ≤ c ∧ c ≤ 57) := by
      have e1 : (("0123456789" : Str)).cps.toList = [48, 49, 50, 51, 52, 53, 54, 55, 56, 57] := by decide +kernel
      rw [e1]
      refine decide_eq_decide.mpr ?_
      simp only [List.mem_cons, List.not_mem_nil, or_false]
      omega
    refine ⟨by rw [List.length_map]; unfold sizeLine; omega, ?_⟩
    have key := sign_loop (a0 := a0) (Ql := Ql) l (acc ++ [decide (48 ≤ c ∧ c ≤ 57)]) none (by rw [List.length_append, List.length_singleton]; omega) fun y => by
      have q := q y
      rw [List.map_cons] at q
      rw [List.append_assoc]
      exact q
    rw [List.map_append] at key
    show dLcL [1] (dName 1) dYes _ (l.map fun c => DL.D.str ⟨#[c]⟩) [a0, none] (acc.map D.bl ++ [.bl (decide (c ∈ (("0123456789" : Str)).cps.toList))]) Ql
    rw [e]
    exact key
theorem all_bls : ∀ l : List Bool, blsOf (l.map D.bl) = some l
  | [] => rfl
  | b :: l => by
    have ih := all_bls l
    show (blsOf (l.map D.bl)).map (b :: ·) = _
    rw [ih]
    rfl
theorem isnum_body : ∀ rs Qd, F_isnum rs Qd → bodyF 2 m_is_number rs Qd := by
  rintro rs Qd ⟨w, rfl, hw, q⟩
  unfold m_is_number
  show dSeq _ _ _ [some (.val (.str w)), none]
  have hs : w.length ≤ sizeLine := by have := hw.1; unfold sizeLine; omega
  have fail : digsF 9 w = none → Qd (.val (.bl false)) := fun h => by
    rw [h] at q
    exact q
  refine ⟨hs, ?_⟩
  show dIte (decide ((1 : Int) ≤ (w.length : Int))) _ _
  refine dIte_of (fun h1 => ?_) fun h1 => ?_
  · have h1 := of_decide_eq_true h1
    show dIte (!decide ((w.length : Int) ≤ 9)) _ _
    by_cases h2 : w.length ≤ 9
    · rw [decide_eq_true (by omega)]
      refine s_iteF ⟨rfl, ?_⟩
      show dLcL _ _ _ _ (charsD w) _ _ _
      refine sign_loop w.cps.toList [] none (by rw [List.length_nil, ← str_len]; omega) fun y => ?_
      rw [List.nil_append]
      refine ⟨_, all_bls _, ?_⟩
      refine ⟨_, rfl, ?_⟩
      show dIte (!((w.cps.toList.map fun c => decide (48 ≤ c ∧ c ≤ 57)).all id)) _ _
      have eall : ((w.cps.toList.map fun c => decide (48 ≤ c ∧ c ≤ 57)).all id) = w.cps.toList.all fun c => decide (48 ≤ c) && decide (c ≤ 57) := by
        rw [List.all_map]
        congr 1
        funext c
        show decide (48 ≤ c ∧ c ≤ 57) = _
        exact Bool.decide_and _ _
      rw [eall]
      cases hall : w.cps.toList.all fun c => decide (48 ≤ c) && decide (c ≤ 57) with
      | false =>
        refine s_iteT (fail (digs_no fun z => ?_))
        have z2 := z.2
        unfold isCanon at z2
        rw [hall] at z2
        cases z2
      | true =>
        refine s_iteF ?_
        have hpos : 0 < w.cps.toList.length := by rw [← str_len]; omega
        cases hc : w.cps.toList with
        | nil =>
          rw [hc] at hpos
          exact absurd hpos (by decide)
        | cons c r =>
          have lw : w.length = r.length + 1 := by rw [str_len, hc, List.length_cons]
          have ew : w = ⟨#[48]⟩ ↔ c = 48 ∧ r = [] := by
            constructor
            · intro z
              have := congrArg TL.tl z
              have : w.cps.toList = [48] := this
              rw [hc] at this
              exact ⟨(List.cons.inj this).1, (List.cons.inj this).2⟩
            · rintro ⟨rfl, rfl⟩
              exact TL.ext_tl hc
          have z0 : ("0" : Str) = ⟨#[48]⟩ := TL.ext_tl (by decide +kernel)
          have hwl : PyData.canLay0 (.str w) = true := okW_lay hw
          refine ⟨⟨okD_str hwl, okD_str (by decide +kernel)⟩, ?_⟩
          show dIte (eqD (.str w) (.str "0")) _ _
          rw [eqD_str, z0]
          have ecan : isCanon w.cps.toList = (c != 48 || r.isEmpty) := by
            unfold isCanon
            rw [hall, Bool.true_and, hc]
          have eq2 : (digsF 9 w).isSome = (c != 48 || r.isEmpty) := by
            unfold digsF
            rw [decide_eq_true h2, Bool.true_and, ecan]
            cases (c != 48 || r.isEmpty) <;> rfl
          rw [eq2] at q
          by_cases hz : w = ⟨#[48]⟩
          · obtain ⟨h3, h4⟩ := ew.mp hz
            have e : (w == (⟨#[48]⟩ : Str)) = true := beq_iff_eq.mpr hz
            rw [e]
            refine s_iteT ?_
            rw [h4, List.isEmpty_nil, Bool.or_true] at q
            exact q
          · have e : (w == (⟨#[48]⟩ : Str)) = false := beq_eq_false_iff_ne.mpr hz
            rw [e]
            refine s_iteF ?_
            have hat : atI w.cps.toList ((0 : Nat) : Int) = some c := DL.atI_nat (by rw [hc]; rfl)
            refine ⟨c, ⟨hs, hat⟩, ?_⟩
            have hc1 := List.all_eq_true.mp hall c (by rw [hc]; exact List.mem_cons_self ..)
            rw [Bool.and_eq_true, decide_eq_true_eq, decide_eq_true_eq] at hc1
            have z1 : okW 1 ⟨#[c]⟩ := ⟨Nat.le_refl _, fun d hd => by
              rw [List.mem_singleton.mp hd]
              omega⟩
            refine ⟨⟨okD_str (okW_lay z1), okD_str (by decide +kernel)⟩, ?_⟩
            show Qd (.val (.bl (!eqD (.str ⟨#[c]⟩) (.str "0"))))
            rw [eqD_str, z0]
            have e2 : (!((⟨#[c]⟩ : Str) == ⟨#[48]⟩)) = (c != 48 || r.isEmpty) := by
              by_cases h48 : c = 48
              · subst h48
                have hr : r ≠ [] := fun z => hz (ew.mpr ⟨rfl, z⟩)
                have : r.isEmpty = false := by
                  cases r with
                  | nil => exact absurd rfl hr
                  | cons _ _ => rfl
                rw [this, beq_self_eq_true]
                rfl
              · have e3 : ((⟨#[c]⟩ : Str) == ⟨#[48]⟩) = false := by
                  rw [beq_eq_false_iff_ne]
                  intro z
                  have := congrArg TL.tl z
                  have : [c] = [48] := this
                  exact h48 (List.cons.inj this).1
                rw [e3, bne_iff_ne.mpr h48]
                rfl
            rw [e2]
            exact q
    · rw [decide_eq_false (by omega)]
      exact s_iteT (s_iteT (fail (digs_no fun z => h2 z.1)))
  · have h1 := of_decide_eq_false h1
    refine s_iteT (s_iteT (fail (digs_no fun z => ?_)))
    have := List.length_pos_iff.mpr (canon_ne z.2)
    rw [← str_len] at this
    omega
end G
end

section
set_option Elab.async false
set_option linter.all false
set_option maxRecDepth 100000
set_option maxHeartbeats 4000000
namespace DL
open PySem PySem.Spec PyProof.Rows L2
/-! ### comprehensions by a function -/
theorem lc_map (i : Nat) (m : DM) (f : DL.D → DL.D) (env0 : En) {Ql : En → List DL.D → Prop} : ∀ (ds acc : List DL.D) (y : Option Nv), acc.length + ds.length ≤ sizeLine →
    (∀ d ∈ ds, ∀ Q : En → R → Prop, Q (env0.set i (some (.val d))) (.val (f d)) → dKeep m (env0.set i (some (.val d))) Q) → (∀ y, Ql (env0.set i y) (acc ++ ds.map f)) →
    dLcL [i] (dName i) dYes m ds (env0.set i y) acc Ql
  | [], acc, y, _, _, q => by
    have q := q y
    rw [List.map_nil, List.append_nil] at q
    exact q
  | d :: ds, acc, y, h, hm, q => by
    rw [List.length_cons] at h
    have ih := lc_map i m f env0 (Ql := Ql) ds (acc ++ [f d]) none (by rw [List.length_append, List.length_singleton]; omega) (fun e he => hm e (List.mem_cons_of_mem _ he)) fun y => by
      have q := q y
      rw [List.map_cons] at q
      rw [List.append_assoc]
      exact q
    have key := hm d (List.mem_cons_self ..) (fun env3 q => match q with
        | .val x => acc.length < sizeLine ∧ dLcL [i] (dName i) dYes m ds (wipeD env3 [i]) (acc ++ [x]) Ql
        | _ => False)
    show dIte true (dKeep m ((env0.set i y).set i (some (.val d))) _) _
    refine s_iteT ?_
    rw [List.set_set]
    refine key ⟨by omega, ?_⟩
    show dLcL [i] (dName i) dYes m ds ((env0.set i (some (.val d))).set i none) (acc ++ [f d]) Ql
    rw [List.set_set]
    exact ih
/-- with a test -/
theorem lc_filter (i : Nat) (t : DTM) (p : DL.D → Bool) (m : DM) (f : DL.D → DL.D) (env0 : En) {Ql : En → List DL.D → Prop} : ∀ (ds acc : List DL.D) (y : Option Nv), acc.length + ds.length ≤ sizeLine →
    (∀ d ∈ ds, ∀ Q : En → Bool → Prop, Q (env0.set i (some (.val d))) (p d) → t (env0.set i (some (.val d))) Q) →
    (∀ d ∈ ds, p d = true → ∀ Q : En → R → Prop, Q (env0.set i (some (.val d))) (.val (f d)) → dKeep m (env0.set i (some (.val d))) Q) → (∀ y, Ql (env0.set i y) (acc ++ (ds.filter p).map f)) →
    dLcL [i] (dName i) t m ds (env0.set i y) acc Ql
  | [], acc, y, _, _, _, q => by
    have q := q y
    rw [List.filter_nil, List.map_nil, List.append_nil] at q
    exact q
  | d :: ds, acc, y, h, ht, hm, q => by
    rw [List.length_cons] at h
    have ih := fun acc h q => lc_filter i t p m f env0 (Ql := Ql) ds acc none h (fun e he => ht e (List.mem_cons_of_mem _ he)) (fun e he => hm e (List.mem_cons_of_mem _ he)) q
    show t ((env0.set i y).set i (some (.val d))) _
    rw [List.set_set]
    refine ht d (List.mem_cons_self ..) _ ?_
    cases hp : p d with
    | true =>
      refine s_iteT ?_
      refine hm d (List.mem_cons_self ..) hp _ ⟨by omega, ?_⟩
      show dLcL [i] (dName i) t m ds ((env0.set i (some (.val d))).set i none) (acc ++ [f d]) Ql
      rw [List.set_set]
      refine ih _ (by rw [List.length_append, List.length_singleton]; omega) fun y => ?_
      have q := q y
      rw [List.filter_cons, hp, if_pos rfl, List.map_cons] at q
      rw [List.append_assoc]
      exact q
    | false =>
      refine s_iteF ?_
      show dLcL [i] (dName i) t m ds ((env0.set i (some (.val d))).set i none) acc Ql
      rw [List.set_set]
      refine ih _ (by omega) fun y => ?_
      have q := q y
      rw [List.filter_cons, hp, if_neg Bool.false_ne_true] at q
      exact q
end DL
end

section
set_option Elab.async false
set_option linter.all false
set_option maxRecDepth 100000
set_option maxHeartbeats 4000000
namespace G
open PySem PySem.Spec PyProof.Rows L2 DL
local macro_rules | `(tactic| walk_at "ok1") => `(tactic| first | exact okD_int _ | exact okD_bl _ | exact okD_non | exact okD_str (by assumption) | assumption)
local macro_rules | `(tactic| walk_at "go1") => `(tactic| ((conv => whnf); first
  | refine s_iteT ?_ | refine s_iteF ?_
  | refine ⟨⟨by walk_at "ok1", by walk_at "ok1"⟩, ?_⟩
  | refine ⟨_, rfl, ?_⟩
  | refine ⟨rfl, ?_⟩
  | refine ⟨Nat.le_of_ble_eq_true rfl, ?_⟩
  | refine ⟨_, isB_tuple (by assumption), ?_⟩
  | refine ⟨_, isB_list (by assumption), ?_⟩
  | refine ⟨_, isB_bool (by assumption), ?_⟩
  | refine ⟨_, isB_int (by assumption), ?_⟩
  | refine ⟨_, isB_str (by assumption), ?_⟩
  | refine ⟨_, by assumption, ?_⟩
  | refine s_ite1 (by assumption) ?_ | refine s_ite0 (by assumption) ?_))
local macro_rules | `(tactic| walk_at "go") => `(tactic| repeat walk_at "go1")
/-! ### a row of numbers -/
def entN (w : Str) : Option Nat := if w = "-" then none else digsF 9 w
def entD (w : Str) : DL.D := optN (entN w)
def prow (t : Str) : DL.D := .lst ((Txt.split t " ").map entD)
theorem dash_lay : PyData.canLay0 (.str "-") = true := by decide +kernel
theorem words_ok {t : Str} (h : okW 4000 t) : ∀ w ∈ Txt.split t " ", okW 4000 w := fun w hw => ⟨Nat.le_trans (split_part t w hw).1 h.1, fun c hc => h.2 c ((split_part t w hw).2 c hc)⟩
theorem words_len {t : Str} (h : okW 4000 t) : (Txt.split t " ").length ≤ 5000 := by
  have := (split_ln h).1
  have := ln_len (Txt.split t " ")
  omega
def F_row (a : Ad) : FMM := fun rs l Qd Qx => ∃ (dx : Addr) (ts : List Str) (n k : Nat), rs = [.val (.int (k : Int))] ∧ l = lfx a.Lines dx ts n ∧ n ≤ ts.length ∧ lOk ts ∧
  (∀ t, ts[n]? = some t → rowOk k t = true → Qd (.val (prow t)) (lfx a.Lines dx ts (n + 1))) ∧ ((∀ t, ts[n]? = some t → rowOk k t = false) → Qx ⟨a.x_BadPaper, "at", .int n⟩)
def onS (f : Str → DL.D) : DL.D → DL.D
  | .str w => f w
  | d => d
theorem map_onS (ws : List Str) (f : Str → DL.D) : (ws.map D.str).map (onS f) = ws.map f := by
  rw [List.map_map]
  rfl
theorem ent_int {w : Str} (h : entOk w = true) (c : w ≠ "-") : ∃ v, digsF 9 w = some v := by
  unfold entOk at h
  rw [beq_eq_false_iff_ne.mpr c, Bool.false_or] at h
  exact Option.isSome_iff_exists.mp h
theorem int_of {v : Nat} {w : Str} (h : digsF 9 w = some v) {Q : R → Prop} (q : Q (.val (.int (v : Int)))) : mInt [.str w] Q := by
  obtain ⟨h1, h2, h3, h4⟩ := digsF_some h
  rw [← h4] at q
  exact ⟨_, ⟨digs_int h3 (by omega), by omega⟩, q⟩
theorem map_strs {α : Type} (ws : List Str) (f : DL.D → α) : (ws.map D.str).map f = ws.map fun w => f (.str w) := List.map_map ..
theorem row_body (a : Ad) {FI : FM} {FT FN : FMM} (hI : ∀ rs Q, F_isnum rs Q → FI rs Q) (hT : ∀ rs l Q Qx, F_take a rs l Q Qx → FT rs l Q Qx) (hN : ∀ rs l Q Qx, F_need a rs l Q Qx → FN rs l Q Qx) : ∀ rs l Qd Qx, F_row a rs l Qd Qx → bodyM 4 (m_Lines_row a FI FT FN) rs l Qd Qx := by
  rintro rs l Qd Qx ⟨dx, ts, n, k, rfl, rfl, hn, hw, q1, q2⟩ p
  unfold m_Lines_row
  show dSeq _ _ _ [some (.fix p (lfx a.Lines dx ts n)), some (.val (.int (k : Int))), none, none]
  refine ⟨rfl, ln_no.2.1, ?_⟩
  refine ⟨rfl, hT _ _ _ _ ⟨dx, ts, n, rfl, rfl, hn, hw, fun t ht => ?_, fun hb => q2 fun t ht => by rw [hb] at ht; cases ht⟩⟩
  have htl := hw.2 t (List.mem_of_getElem? ht)
  have hws := words_ok htl
  have hwl := words_len htl
  have e1 : rowOk k t = ((Txt.split t " ").all entOk && (Txt.split t " ").length == k) := rfl
  have q1 := q1 t ht
  have q2 : rowOk k t = false → Qx ⟨a.x_BadPaper, "at", .int n⟩ := fun h => q2 fun t' ht' => by
    rw [ht] at ht'
    cases ht'
    exact h
  unfold prow at q1
  rw [e1] at q1 q2
  generalize Txt.split t " " = ws at *
  clear e1 htl
  have key : ∀ b : Bool, (ws.all entOk && ws.length == k) = b → dMethM a.Lines 0 "need" FN (fun env Q => Q env [.val (.bl b)]) [some (.fix p (lfx a.Lines dx ts n)), some (.val (.int (k : Int))), some (.val (.lst (ws.map D.str))), none] (fun env' _ => (dSeq (dAugA a.Lines 0 "at" (fun x y => x + y) (dC (.int 1)))
  (dRet (dKeep (dLc (dOver (dVar 2)) [3] (dName 3) dYes (dIf (dB (dOp mEq (dVar 3) (dC (.str "-")))) (dC .non) (dCB mInt (dCons (dVar 3) dNil)))))))
      { nx := fun env => ∃ l', Has env 0 (Nv.fix p l') ∧ Qd (R.val D.non) l', rt := fun env r => ∃ l', Has env 0 (Nv.fix p l') ∧ Qd r l', xc := Qx } env') Qx := by
    rintro b hb
    refine ⟨rfl, ln_no.1, rfl, hN _ _ _ _ ⟨dx, ts, n, b, rfl, rfl, Nat.le_trans hn (Nat.le_trans hw.1 (by decide)), fun h => ?_, fun h => q2 (by rw [hb, h])⟩⟩
    subst h
    have q1 := q1 hb
    rw [Bool.and_eq_true] at hb
    refine ⟨rfl, _, ll_a _ _, ?_⟩
    refine ⟨rfl, by decide, ?_⟩
    rw [lp_ns, lp_ds]
    have nx : ((n : Int) + 1) = ((n + 1 : Nat) : Int) := by omega
    show dRet (dKeep (dLc (dOver (dVar 2)) [3] (dName 3) dYes (dIf (dB (dOp mEq (dVar 3) (dC (.str "-")))) (dC .non) (dCB mInt (dCons (dVar 3) dNil))))) _ [some (.fix p (.ins a.Lines dx lns [.lst (ts.map D.str), .int ((n : Int) + 1)])), some (.val (.int (k : Int))), some (.val (.lst (ws.map D.str))), none]
    rw [nx]
    refine ⟨rfl, ?_⟩
    refine lc_map 3 _ (onS entD) [some (.fix p (.ins a.Lines dx lns [.lst (ts.map D.str), .int ((n + 1 : Nat) : Int)])), some (.val (.int (k : Int))), some (.val (.lst (ws.map D.str))), none] (ws.map D.str) [] none (by rw [List.length_map, List.length_nil]; unfold sizeLine; omega) (fun d hd Q q => ?_) fun y => ?_
    · obtain ⟨w, hwm, rfl⟩ := List.mem_map.mp hd
      have hok := List.all_eq_true.mp hb.1 w hwm
      have hl : PyData.canLay0 (.str w) = true := okW_lay (hws w hwm)
      refine ⟨⟨okD_str hl, okD_str dash_lay⟩, ?_⟩
      show dIte (eqD (.str w) (.str "-")) _ _
      rw [eqD_str]
      by_cases c : w = "-"
      · have e : (w == ("-" : Str)) = true := beq_iff_eq.mpr c
        rw [e]
        refine s_iteT ?_
        have e2 : onS entD (.str w) = .non := by
          show optN (if w = "-" then none else digsF 9 w) = .non
          rw [if_pos c]
          rfl
        rw [e2] at q
        exact q
      · have e : (w == ("-" : Str)) = false := beq_eq_false_iff_ne.mpr c
        rw [e]
        refine s_iteF ?_
        obtain ⟨v, hv⟩ := ent_int hok c
        have e2 : onS entD (.str w) = .int (v : Int) := by
          show optN (if w = "-" then none else digsF 9 w) = _
          rw [if_neg c, hv]
          rfl
        rw [e2] at q
        exact int_of hv q
    · rw [List.nil_append, map_onS]
      exact ⟨_, rfl, q1⟩
  refine ⟨rfl, ln_no.1, ?_⟩
  refine ⟨⟨okD_int _, okD_int _⟩, ?_⟩
  have e : eqD (.int ((ws.map D.str).length : Nat)) (.int (k : Int)) = (ws.length == k) := by
    rw [eqD_int, List.length_map]
    by_cases c : ws.length = k
    · rw [beq_iff_eq.mpr c, beq_iff_eq]
      omega
    · rw [beq_eq_false_iff_ne.mpr c, beq_eq_false_iff_ne]
      omega
  show dIte (eqD (.int ((ws.map D.str).length : Nat)) (.int (k : Int))) _ _
  rw [e]
  cases hlen : ws.length == k with
  | false => exact s_iteF (key false (by rw [hlen, Bool.and_false])).2.2
  | true =>
    refine s_iteT ?_
    refine ⟨rfl, ?_⟩
    refine lc_map 3 _ (onS fun w => .bl (entOk w)) [some (.fix p (lfx a.Lines dx ts n)), some (.val (.int (k : Int))), some (.val (.lst (ws.map D.str))), none] (ws.map D.str) [] none (by rw [List.length_map, List.length_nil]; unfold sizeLine; omega) (fun d hd Q q => ?_) fun y => ?_
    · obtain ⟨w, hwm, rfl⟩ := List.mem_map.mp hd
      have hl : PyData.canLay0 (.str w) = true := okW_lay (hws w hwm)
      refine ⟨⟨okD_str hl, okD_str dash_lay⟩, ?_⟩
      have q : Q _ (.val (.bl (w == "-" || (digsF 9 w).isSome))) := q
      show dIte (eqD (.str w) (.str "-")) _ _
      rw [eqD_str]
      by_cases c : w = "-"
      · have e : (w == ("-" : Str)) = true := beq_iff_eq.mpr c
        rw [e, Bool.true_or] at q
        rw [e]
        exact s_iteT q
      · have e : (w == ("-" : Str)) = false := beq_eq_false_iff_ne.mpr c
        rw [e, Bool.false_or] at q
        rw [e]
        exact s_iteF ⟨rfl, hI _ _ ⟨w, rfl, hws w hwm, q⟩⟩
    · rw [List.nil_append, map_onS]
      have eb : (ws.map fun w => DL.D.bl (entOk w)) = (ws.map entOk).map D.bl := by rw [List.map_map]; rfl
      rw [eb]
      refine ⟨_, blsOf_map _, ?_⟩
      have ea : (ws.map entOk).all id = ws.all entOk := by rw [List.all_map]; rfl
      rw [ea]
      exact (key (ws.all entOk) (by rw [hlen, Bool.and_true])).2.2
end G
end

section
set_option Elab.async false
set_option linter.all false
set_option maxRecDepth 100000
set_option maxHeartbeats 4000000
namespace G
open PySem PySem.Spec PyProof.Rows L2 DL
local macro_rules | `(tactic| walk_at "ok1") => `(tactic| first | exact okD_int _ | exact okD_bl _ | exact okD_non | exact okD_str (by assumption) | assumption)
local macro_rules | `(tactic| walk_at "go1") => `(tactic| ((conv => whnf); first
  | refine s_iteT ?_ | refine s_iteF ?_
  | refine ⟨⟨by walk_at "ok1", by walk_at "ok1"⟩, ?_⟩
  | refine ⟨_, rfl, ?_⟩
  | refine ⟨rfl, ?_⟩
  | refine ⟨Nat.le_of_ble_eq_true rfl, ?_⟩
  | refine ⟨_, isB_tuple (by assumption), ?_⟩
  | refine ⟨_, isB_list (by assumption), ?_⟩
  | refine ⟨_, isB_bool (by assumption), ?_⟩
  | refine ⟨_, isB_int (by assumption), ?_⟩
  | refine ⟨_, isB_str (by assumption), ?_⟩
  | refine ⟨_, by assumption, ?_⟩
  | refine s_ite1 (by assumption) ?_ | refine s_ite0 (by assumption) ?_))
local macro_rules | `(tactic| walk_at "go") => `(tactic| repeat walk_at "go1")
/-! ### a row of labels -/
theorem labW9_none {k : Nat} {w : Str} (h : digsF 9 w = none) : labW k w = false := by
  unfold labW
  cases e : digsF 1 w with
  | none => rfl
  | some d =>
    obtain ⟨h1, h2, h3, h4⟩ := digsF_some e
    rw [digs_yes (by omega) h3] at h
    cases h
theorem labW9_some {k v : Nat} {w : Str} (hk : k ≤ 10) (h : digsF 9 w = some v) : labW k w = decide (v < k) := by
  obtain ⟨h1, h2, h3, h4⟩ := digsF_some h
  unfold labW
  by_cases c : w.length ≤ 1
  · rw [digs_yes c h3, h4]
  · rw [digs_no fun z => c z.1]
    refine (decide_eq_false fun z => c ?_).symm
    have := digsF_num (n := v) (most := 1) (by omega) (by decide)
    rw [h1]
    exact (digsF_some this).2.1
def labD (w : Str) : DL.D := optN (digsF 9 w)
def labs (t : Str) : DL.D := .lst ((Txt.split t " ").map labD)
def F_labs (a : Ad) : FMM := fun rs l Qd Qx => ∃ (dx : Addr) (ts : List Str) (n c k : Nat), rs = [.val (.int (c : Int)), .val (.int (k : Int))] ∧ l = lfx a.Lines dx ts n ∧ n ≤ ts.length ∧ lOk ts ∧ k ≤ 10 ∧
  (∀ t, ts[n]? = some t → labOk c k t = true → Qd (.val (labs t)) (lfx a.Lines dx ts (n + 1))) ∧ ((∀ t, ts[n]? = some t → labOk c k t = false) → Qx ⟨a.x_BadPaper, "at", .int n⟩)
theorem labs_body (a : Ad) {FI : FM} {FT FN : FMM} (hI : ∀ rs Q, F_isnum rs Q → FI rs Q) (hT : ∀ rs l Q Qx, F_take a rs l Q Qx → FT rs l Q Qx) (hN : ∀ rs l Q Qx, F_need a rs l Q Qx → FN rs l Q Qx) : ∀ rs l Qd Qx, F_labs a rs l Qd Qx → bodyM 5 (m_Lines_labels_told a FI FT FN) rs l Qd Qx := by
  rintro rs l Qd Qx ⟨dx, ts, n, c, k, rfl, rfl, hn, hw, hk, q1, q2⟩ p
  unfold m_Lines_labels_told
  show dSeq _ _ _ [some (.fix p (lfx a.Lines dx ts n)), some (.val (.int (c : Int))), some (.val (.int (k : Int))), none, none]
  refine ⟨rfl, ln_no.2.1, ?_⟩
  refine ⟨rfl, hT _ _ _ _ ⟨dx, ts, n, rfl, rfl, hn, hw, fun t ht => ?_, fun hb => q2 fun t ht => by rw [hb] at ht; cases ht⟩⟩
  have htl := hw.2 t (List.mem_of_getElem? ht)
  have hws := words_ok htl
  have hwl := words_len htl
  have e1 : labOk c k t = ((Txt.split t " ").all (labW k) && (Txt.split t " ").length == c) := rfl
  have q1 := q1 t ht
  have q2 : labOk c k t = false → Qx ⟨a.x_BadPaper, "at", .int n⟩ := fun h => q2 fun t' ht' => by
    rw [ht] at ht'
    cases ht'
    exact h
  unfold labs at q1
  rw [e1] at q1 q2
  generalize Txt.split t " " = ws at *
  clear e1 htl
  have key : ∀ b : Bool, (ws.all (labW k) && ws.length == c) = b → dMethM a.Lines 0 "need" FN (fun env Q => Q env [.val (.bl b)]) [some (.fix p (lfx a.Lines dx ts n)), some (.val (.int (c : Int))), some (.val (.int (k : Int))), some (.val (.lst (ws.map D.str))), none] (fun env' _ => (dSeq (dAugA a.Lines 0 "at" (fun x y => x + y) (dC (.int 1)))
  (dRet (dKeep (dLc (dOver (dVar 3)) [4] (dName 4) dYes (dCB mInt (dCons (dVar 4) dNil))))))
      { nx := fun env => ∃ l', Has env 0 (Nv.fix p l') ∧ Qd (R.val D.non) l', rt := fun env r => ∃ l', Has env 0 (Nv.fix p l') ∧ Qd r l', xc := Qx } env') Qx := by
    rintro b hb
    refine ⟨rfl, ln_no.1, rfl, hN _ _ _ _ ⟨dx, ts, n, b, rfl, rfl, Nat.le_trans hn (Nat.le_trans hw.1 (by decide)), fun h => ?_, fun h => q2 (by rw [hb, h])⟩⟩
    subst h
    have q1 := q1 hb
    rw [Bool.and_eq_true] at hb
    refine ⟨rfl, _, ll_a _ _, ?_⟩
    refine ⟨rfl, by decide, ?_⟩
    rw [lp_ns, lp_ds]
    have nx : ((n : Int) + 1) = ((n + 1 : Nat) : Int) := by omega
    show dRet (dKeep (dLc (dOver (dVar 3)) [4] (dName 4) dYes (dCB mInt (dCons (dVar 4) dNil)))) _ [some (.fix p (.ins a.Lines dx lns [.lst (ts.map D.str), .int ((n : Int) + 1)])), some (.val (.int (c : Int))), some (.val (.int (k : Int))), some (.val (.lst (ws.map D.str))), none]
    rw [nx]
    refine ⟨rfl, ?_⟩
    refine lc_map 4 _ (onS labD) [some (.fix p (.ins a.Lines dx lns [.lst (ts.map D.str), .int ((n + 1 : Nat) : Int)])), some (.val (.int (c : Int))), some (.val (.int (k : Int))), some (.val (.lst (ws.map D.str))), none] (ws.map D.str) [] none (by rw [List.length_map, List.length_nil]; unfold sizeLine; omega) (fun d hd Q q => ?_) fun y => ?_
    · obtain ⟨w, hwm, rfl⟩ := List.mem_map.mp hd
      have hok := List.all_eq_true.mp hb.1 w hwm
      cases e : digsF 9 w with
      | none =>
        rw [labW9_none e] at hok
        cases hok
      | some v =>
        have e2 : onS labD (.str w) = .int (v : Int) := by
          show optN (digsF 9 w) = _
          rw [e]
          rfl
        rw [e2] at q
        exact int_of e q
    · rw [List.nil_append, map_onS]
      exact ⟨_, rfl, q1⟩
  refine ⟨rfl, ln_no.1, ?_⟩
  refine ⟨⟨okD_int _, okD_int _⟩, ?_⟩
  have e : eqD (.int ((ws.map D.str).length : Nat)) (.int (c : Int)) = (ws.length == c) := by
    rw [eqD_int, List.length_map]
    by_cases h : ws.length = c
    · rw [beq_iff_eq.mpr h, beq_iff_eq]
      omega
    · rw [beq_eq_false_iff_ne.mpr h, beq_eq_false_iff_ne]
      omega
  show dIte (eqD (.int ((ws.map D.str).length : Nat)) (.int (c : Int))) _ _
  rw [e]
  cases hlen : ws.length == c with
  | false => exact s_iteF (key false (by rw [hlen, Bool.and_false])).2.2
  | true =>
    refine s_iteT ?_
    refine ⟨rfl, ?_⟩
    refine lc_map 4 _ (onS fun w => .bl (labW k w)) [some (.fix p (lfx a.Lines dx ts n)), some (.val (.int (c : Int))), some (.val (.int (k : Int))), some (.val (.lst (ws.map D.str))), none] (ws.map D.str) [] none (by rw [List.length_map, List.length_nil]; unfold sizeLine; omega) (fun d hd Q q => ?_) fun y => ?_
    · obtain ⟨w, hwm, rfl⟩ := List.mem_map.mp hd
      have q : Q _ (.val (.bl (labW k w))) := q
      refine ⟨rfl, hI _ _ ⟨w, rfl, hws w hwm, ?_⟩⟩
      cases e : digsF 9 w with
      | none =>
        rw [labW9_none e] at q
        exact s_iteF q
      | some v =>
        rw [labW9_some hk e] at q
        refine s_iteT (int_of e ?_)
        show Q _ (.val (.bl (decide ((v : Int) < (k : Int)))))
        rw [show decide ((v : Int) < (k : Int)) = decide (v < k) from decide_eq_decide.mpr (by omega)]
        exact q
    · rw [List.nil_append, map_onS]
      have eb : (ws.map fun w => DL.D.bl (labW k w)) = (ws.map (labW k)).map D.bl := by rw [List.map_map]; rfl
      rw [eb]
      refine ⟨_, blsOf_map _, ?_⟩
      have ea : (ws.map (labW k)).all id = ws.all (labW k) := by rw [List.all_map]; rfl
      rw [ea]
      exact (key (ws.all (labW k)) (by rw [hlen, Bool.and_true])).2.2
/-! ### rows -/
/-- the first of so many rows that is wrong, or missing -/
def fb (k : Nat) : Nat → List Str → Option Nat
  | 0, _ => none
  | _ + 1, [] => some 0
  | m + 1, t :: ts => if rowOk k t = true then (fb k m ts).map (· + 1) else some 0
theorem bad_fb (k : Nat) : ∀ (m n j : Nat) (ts : List Str), badRows k n ts (m + j) = match fb k m ts with
    | some i => some (n + i)
    | none => badRows k (n + m) (ts.drop m) j
  | 0, n, j, ts => by
    rw [Nat.zero_add]
    rfl
  | m + 1, n, j, [] => by
    rw [show m + 1 + j = (m + j) + 1 by omega]
    rfl
  | m + 1, n, j, t :: ts => by
    rw [show m + 1 + j = (m + j) + 1 by omega, badRows, fb]
    by_cases h : rowOk k t = true
    · rw [if_pos h, if_pos h, bad_fb k m (n + 1) j ts]
      cases fb k m ts with
      | none =>
        show _ = badRows k (n + (m + 1)) (ts.drop m) j
        rw [show n + (m + 1) = n + 1 + m by omega]
      | some i =>
        show some (n + 1 + i) = some (n + (i + 1))
        rw [show n + (i + 1) = n + 1 + i by omega]
    · rw [if_neg h, if_neg h]
      rfl
theorem fb_len (k : Nat) : ∀ (m : Nat) (ts : List Str), fb k m ts = none → m ≤ ts.length ∧ ∀ t ∈ ts.take m, rowOk k t = true
  | 0, ts, _ => ⟨Nat.zero_le _, fun t h => by cases h⟩
  | m + 1, [], h => by cases h
  | m + 1, t :: ts, h => by
    rw [fb] at h
    by_cases c : rowOk k t = true
    · rw [if_pos c, Option.map_eq_none_iff] at h
      obtain ⟨h1, h2⟩ := fb_len k m ts h
      refine ⟨Nat.succ_le_succ h1, fun u hu => ?_⟩
      rw [List.take_succ_cons] at hu
      rcases List.mem_cons.mp hu with rfl | hu
      · exact c
      · exact h2 u hu
    · rw [if_neg c] at h
      cases h
def F_rows (a : Ad) : FMM := fun rs l Qd Qx => ∃ (dx : Addr) (ts : List Str) (n c k : Nat), rs = [.val (.int (c : Int)), .val (.int (k : Int))] ∧ l = lfx a.Lines dx ts n ∧ n ≤ ts.length ∧ lOk ts ∧ c ≤ 100 ∧
  (fb k c (ts.drop n) = none → Qd (.val (.lst (((ts.drop n).take c).map prow))) (lfx a.Lines dx ts (n + c))) ∧ (∀ j, fb k c (ts.drop n) = some j → Qx ⟨a.x_BadPaper, "at", .int ((n + j : Nat) : Int)⟩)
theorem rows_loopP (a : Ad) {FR : FMM} (hR : ∀ rs l Q Qx, F_row a rs l Q Qx → FR rs l Q Qx) {p dx : Addr} {ts : List Str} {k : Nat} {c : DL.D} {Q : En → List DL.D → Prop} {Qx : Xd → Prop} (hw : lOk ts) : ∀ (ds : List DL.D) (n : Nat) (acc : List DL.D), n ≤ ts.length → acc.length + ds.length ≤ 200 →
    (fb k ds.length (ts.drop n) = none → Q [some (.fix p (lfx a.Lines dx ts (n + ds.length))), some (.val c), some (.val (.int (k : Int))), none] (acc ++ ((ts.drop n).take ds.length).map prow)) →
    (∀ j, fb k ds.length (ts.drop n) = some j → Qx ⟨a.x_BadPaper, "at", .int ((n + j : Nat) : Int)⟩) →
    dLcPL [3] (dName 3) (dMethM a.Lines 0 "row" FR (dCons (dKeep (dVar 2)) dNil)) Q Qx ds [some (.fix p (lfx a.Lines dx ts n)), some (.val c), some (.val (.int (k : Int))), none] acc
  | [], n, acc, hn, hl, q, qx => by
    have q := q rfl
    rw [List.length_nil, List.take_zero, List.map_nil, List.append_nil] at q
    exact q
  | d :: ds, n, acc, hn, hl, q, qx => by
    rw [List.length_cons] at hl q qx
    refine ⟨rfl, ln_no.2.2.2.2.2.1, ?_⟩
    refine ⟨rfl, hR _ _ _ _ ⟨dx, ts, n, k, rfl, rfl, hn, hw, fun t ht hr => ?_, fun hb => ?_⟩⟩
    · have hlt : n < ts.length := (List.getElem?_eq_some_iff.mp ht).1
      have ed : ts.drop n = t :: ts.drop (n + 1) := by
        rw [List.drop_eq_getElem_cons hlt]
        congr 1
        have := (List.getElem?_eq_some_iff.mp ht).2
        exact this
      rw [ed, fb, if_pos hr, List.take_succ_cons, List.map_cons] at q
      rw [ed, fb, if_pos hr] at qx
      refine ⟨by unfold sizeLine; omega, ?_⟩
      refine rows_loopP a hR hw ds (n + 1) (acc ++ [prow t]) hlt (by rw [List.length_append, List.length_singleton]; omega) (fun h => ?_) fun j hj => ?_
      · have q := q (by rw [h]; rfl)
        rw [List.append_assoc, show n + 1 + ds.length = n + (ds.length + 1) by omega]
        exact q
      · have q := qx (j + 1) (by rw [hj]; rfl)
        rw [show n + 1 + j = n + (j + 1) by omega]
        exact q
    · refine qx 0 ?_
      cases e : ts.drop n with
      | nil => rfl
      | cons t r =>
        have ht : ts[n]? = some t := by
          have := congrArg (·[0]?) e
          simpa using this
        rw [fb, if_neg (by rw [hb t ht]; exact Bool.false_ne_true)]
theorem rows_body (a : Ad) {FR : FMM} (hR : ∀ rs l Q Qx, F_row a rs l Q Qx → FR rs l Q Qx) : ∀ rs l Qd Qx, F_rows a rs l Qd Qx → bodyM 4 (m_Lines_rows a FR) rs l Qd Qx := by
  rintro rs l Qd Qx ⟨dx, ts, n, c, k, rfl, rfl, hn, hw, hc, q, qx⟩ p
  unfold m_Lines_rows
  show dRetP _ _ [some (.fix p (lfx a.Lines dx ts n)), some (.val (.int (c : Int))), some (.val (.int (k : Int))), none]
  refine ⟨by omega, by omega, ?_⟩
  refine ⟨rfl, ?_⟩
  have el : (rangeD 0 (c : Int)).length = c := by
    unfold rangeD
    rw [List.length_map, List.length_range]
    omega
  refine rows_loopP a hR hw (rangeD 0 (c : Int)) n [] hn (by rw [el, List.length_nil]; omega) (fun h => ?_) fun j hj => ?_
  · rw [el] at h ⊢
    exact ⟨_, rfl, q h⟩
  · rw [el] at hj
    exact qx j hj
end G
end

section
set_option Elab.async false
set_option linter.all false
set_option maxRecDepth 100000
set_option maxHeartbeats 4000000
namespace G
open PySem PySem.Spec PyProof.Rows L2 DL
local macro_rules | `(tactic| walk_at "ok1") => `(tactic| first | exact okD_int _ | exact okD_bl _ | exact okD_non | exact okD_str (by assumption) | assumption)
local macro_rules | `(tactic| walk_at "go1") => `(tactic| ((conv => whnf); first
  | refine s_iteT ?_ | refine s_iteF ?_
  | refine ⟨⟨by walk_at "ok1", by walk_at "ok1"⟩, ?_⟩
  | refine ⟨_, rfl, ?_⟩
  | refine ⟨rfl, ?_⟩
  | refine ⟨Nat.le_of_ble_eq_true rfl, ?_⟩
  | refine ⟨_, isB_tuple (by assumption), ?_⟩
  | refine ⟨_, isB_list (by assumption), ?_⟩
  | refine ⟨_, isB_bool (by assumption), ?_⟩
  | refine ⟨_, isB_int (by assumption), ?_⟩
  | refine ⟨_, isB_str (by assumption), ?_⟩
  | refine ⟨_, by assumption, ?_⟩
  | refine s_ite1 (by assumption) ?_ | refine s_ite0 (by assumption) ?_))
local macro_rules | `(tactic| walk_at "go") => `(tactic| repeat walk_at "go1")
/-! ### the head -/
def costN (t : Str) : Option Nat := match Txt.split t " " with
  | [_, b] => digsF 9 b
  | _ => none
abbrev noneT (t : Str) : Prop := Txt.split t " " = [("none" : Str)]
def bestD (t u : Str) : DL.D := .tup [.str "best", optN (costN t), labs u]
def noneD : DL.D := .tup [.str "none", .non, .lst []]
def F_head (a : Ad) : FMM := fun rs l Qd Qx => ∃ (dx : Addr) (ts : List Str) (n c k : Nat), rs = [.val (.int (c : Int)), .val (.int (k : Int))] ∧ l = lfx a.Lines dx ts n ∧ n ≤ ts.length ∧ lOk ts ∧ k ≤ 10 ∧
  (ts[n]? = none → Qx ⟨a.x_BadPaper, "at", .int (n : Nat)⟩) ∧ ∀ t, ts[n]? = some t → (noneT t → Qd (.val noneD) (lfx a.Lines dx ts (n + 1))) ∧ (¬ noneT t → bestOk t = false → Qx ⟨a.x_BadPaper, "at", .int (n : Nat)⟩) ∧
    (¬ noneT t → bestOk t = true → (∀ u, ts[n + 1]? = some u → labOk c k u = true → Qd (.val (bestD t u)) (lfx a.Lines dx ts (n + 2))) ∧ ((∀ u, ts[n + 1]? = some u → labOk c k u = false) → Qx ⟨a.x_BadPaper, "at", .int ((n + 1 : Nat) : Int)⟩))
theorem head_body (a : Ad) {FI : FM} {FT FN FL : FMM} (hI : ∀ rs Q, F_isnum rs Q → FI rs Q) (hT : ∀ rs l Q Qx, F_take a rs l Q Qx → FT rs l Q Qx) (hN : ∀ rs l Q Qx, F_need a rs l Q Qx → FN rs l Q Qx) (hL : ∀ rs l Q Qx, F_labs a rs l Q Qx → FL rs l Q Qx) : ∀ rs l Qd Qx, F_head a rs l Qd Qx → bodyM 4 (m_Lines_head a FI FT FN FL) rs l Qd Qx := by
  rintro rs l Qd Qx ⟨dx, ts, n, c, k, rfl, rfl, hn, hw, hk, q0, q⟩ p
  unfold m_Lines_head
  show dSeq _ _ _ [some (.fix p (lfx a.Lines dx ts n)), some (.val (.int (c : Int))), some (.val (.int (k : Int))), none]
  refine ⟨rfl, ln_no.2.1, ?_⟩
  refine ⟨rfl, hT _ _ _ _ ⟨dx, ts, n, rfl, rfl, hn, hw, fun t ht => ?_, q0⟩⟩
  obtain ⟨q1, q2, q3⟩ := q t ht
  have hlt : n < ts.length := (List.getElem?_eq_some_iff.mp ht).1
  have htl := hw.2 t (List.mem_of_getElem? ht)
  have hws := words_ok htl
  have hwl := words_len htl
  have nx : ((n : Int) + 1) = ((n + 1 : Nat) : Int) := by omega
  have none_ok : okD (.lst ([("none" : Str)].map D.str)) := okD_ws (asc.one (by decide +kernel)) fun w hw => by rw [List.mem_singleton.mp hw]; decide +kernel
  have hasc : asc (Txt.split t " ") := (split_ln htl).2.1
  refine ⟨[.str "none"], rfl, by show 1 ≤ sizeLine; decide, ?_⟩
  refine ⟨⟨okD_ws hasc fun w hm => by have := (hws w hm).1; omega, none_ok⟩, ?_⟩
  show dIte (eqD (.lst ((Txt.split t " ").map D.str)) (.lst ([("none" : Str)].map D.str))) _ _
  rw [eqD_strs]
  by_cases hz : noneT t
  · have e : (Txt.split t " " == [("none" : Str)]) = true := beq_iff_eq.mpr hz
    rw [e]
    refine s_iteT ?_
    refine ⟨rfl, _, ll_a _ _, ?_⟩
    refine ⟨rfl, by decide, ?_⟩
    rw [lp_ns, lp_ds]
    refine ⟨_, rfl, by decide, ?_⟩
    refine ⟨_, rfl, by decide, ?_⟩
    refine ⟨_, rfl, ?_⟩
    have q1 := q1 hz
    unfold lfx at q1
    rw [← nx] at q1
    exact q1
  · have e : (Txt.split t " " == [("none" : Str)]) = false := beq_eq_false_iff_ne.mpr hz
    rw [e]
    refine s_iteF ?_
    have key : ∀ b : Bool, bestOk t = b → dMethM a.Lines 0 "need" FN (fun env Q => Q env [.val (.bl b)]) [some (.fix p (lfx a.Lines dx ts n)), some (.val (.int (c : Int))), some (.val (.int (k : Int))), some (.val (.lst ((Txt.split t " ").map D.str)))] (fun env' _ => (dSeq (dAugA a.Lines 0 "at" (fun x y => x + y) (dC (.int 1)))
  (dRetP (dTupP (dConsP (dC (.str "best")) (dConsP (dCB mInt (dCons (dOp mIx (dVar 3) (dC (.int 1))) dNil)) (dEndP (dMethM a.Lines 0 "labels_told" FL (dCons (dKeep (dVar 1)) (dCons (dKeep (dVar 2)) dNil)))))))))
      { nx := fun env => ∃ l', Has env 0 (Nv.fix p l') ∧ Qd (R.val D.non) l', rt := fun env r => ∃ l', Has env 0 (Nv.fix p l') ∧ Qd r l', xc := Qx } env') Qx := by
      rintro b hb
      refine ⟨rfl, ln_no.1, rfl, hN _ _ _ _ ⟨dx, ts, n, b, rfl, rfl, Nat.le_trans hn (Nat.le_trans hw.1 (by decide)), fun h => ?_, fun h => q2 hz (by rw [hb, h])⟩⟩
      subst h
      obtain ⟨q4, q5⟩ := q3 hz hb
      have hb' : bestW (Txt.split t " ") = true := hb
      obtain ⟨w, d, hwd, v, hv⟩ : ∃ w d, Txt.split t " " = [w, d] ∧ ∃ v, digsF 9 d = some v := by
        unfold bestW at hb'
        split at hb'
        · rename_i w d e
          rw [Bool.and_eq_true] at hb'
          exact ⟨w, d, e, Option.isSome_iff_exists.mp hb'.2⟩
        · cases hb'
      have hcost : optN (costN t) = .int (v : Int) := by
        unfold costN
        rw [hwd]
        show optN (digsF 9 d) = _
        rw [hv]
        rfl
      refine ⟨rfl, _, ll_a _ _, ?_⟩
      refine ⟨rfl, by decide, ?_⟩
      rw [lp_ns, lp_ds]
      show dRetP (dTupP (dConsP (dC (.str "best")) (dConsP (dCB mInt (dCons (dOp mIx (dVar 3) (dC (.int 1))) dNil)) (dEndP (dMethM a.Lines 0 "labels_told" FL (dCons (dKeep (dVar 1)) (dCons (dKeep (dVar 2)) dNil))))))) _ [some (.fix p (.ins a.Lines dx lns [.lst (ts.map D.str), .int ((n : Int) + 1)])), some (.val (.int (c : Int))), some (.val (.int (k : Int))), some (.val (.lst ((Txt.split t " ").map D.str)))]
      rw [nx, hwd]
      refine ⟨_, DL.atI_nat (k := 1) rfl, ?_⟩
      refine int_of hv ?_
      refine ⟨rfl, ln_no.2.2.2.1, ?_⟩
      refine ⟨rfl, hL _ _ _ _ ⟨dx, ts, n + 1, c, k, rfl, rfl, hlt, hw, hk, fun u hu hl => ?_, q5⟩⟩
      refine ⟨by show 3 ≤ sizeLine; decide, ?_⟩
      have q4 := q4 u hu hl
      unfold bestD at q4
      rw [hcost] at q4
      exact ⟨_, rfl, q4⟩
    refine ⟨rfl, ln_no.1, ?_⟩
    refine ⟨⟨okD_int _, okD_int _⟩, ?_⟩
    show dIte (eqD (.int (((Txt.split t " ").map D.str).length : Nat)) (.int 2)) _ _
    rw [eqD_int, List.length_map]
    have fail : bestOk t = false → _ := fun h => (key false h).2.2
    by_cases h2 : (Txt.split t " ").length = 2
    · have e3 : (((Txt.split t " ").length : Int) == 2) = true := by rw [beq_iff_eq]; omega
      rw [e3]
      refine s_iteT ?_
      obtain ⟨w, d, hwd⟩ : ∃ w d, Txt.split t " " = [w, d] := by
        match hh : Txt.split t " ", h2 with
        | [w, d], _ => exact ⟨w, d, rfl⟩
      have hmw : okW 4000 w := hws w (by rw [hwd]; exact List.mem_cons_self ..)
      have hmd : okW 4000 d := hws d (by rw [hwd]; exact List.mem_cons_of_mem _ (List.mem_cons_self ..))
      have hbk : bestOk t = (w == "best" && (digsF 9 d).isSome) := by
        unfold bestOk
        rw [hwd]
        rfl
      have kt : ∀ b, bestOk t = b → _ := fun b h => (key b h).2.2
      have a0 : atI ((Txt.split t " ").map D.str) ((0 : Nat) : Int) = some (.str w) := DL.atI_nat (by rw [hwd]; rfl)
      have a1 : atI ((Txt.split t " ").map D.str) ((1 : Nat) : Int) = some (.str d) := DL.atI_nat (by rw [hwd]; rfl)
      refine ⟨_, a0, ?_⟩
      have hlw : PyData.canLay0 (.str w) = true := okW_lay hmw
      refine ⟨⟨okD_str hlw, okD_str (by decide +kernel)⟩, ?_⟩
      show dIte (eqD (.str w) (.str "best")) _ _
      rw [eqD_str]
      cases hbw : w == ("best" : Str) with
      | false => exact s_iteF (kt false (by rw [hbk, hbw, Bool.false_and]))
      | true =>
        refine s_iteT ?_
        refine ⟨_, a1, ?_⟩
        refine ⟨rfl, hI _ _ ⟨d, rfl, hmd, ?_⟩⟩
        exact kt _ (by rw [hbk, hbw, Bool.true_and])
    · have e3 : (((Txt.split t " ").length : Int) == 2) = false := by rw [beq_eq_false_iff_ne]; omega
      rw [e3]
      refine s_iteF (fail ?_)
      unfold bestOk bestW
      split
      · rename_i w d e
        rw [e] at h2
        exact absurd rfl h2
      · rfl
end G
end

section
set_option Elab.async false
set_option linter.all false
set_option maxRecDepth 100000
set_option maxHeartbeats 4000000
namespace G
open PySem PySem.Spec PyProof.Rows L2 DL
local macro_rules | `(tactic| walk_at "ok1") => `(tactic| first | exact okD_int _ | exact okD_bl _ | exact okD_non | exact okD_str (by assumption) | assumption)
local macro_rules | `(tactic| walk_at "go1") => `(tactic| ((conv => whnf); first
  | refine s_iteT ?_ | refine s_iteF ?_
  | refine ⟨⟨by walk_at "ok1", by walk_at "ok1"⟩, ?_⟩
  | refine ⟨_, rfl, ?_⟩
  | refine ⟨rfl, ?_⟩
  | refine ⟨Nat.le_of_ble_eq_true rfl, ?_⟩
  | refine ⟨_, isB_tuple (by assumption), ?_⟩
  | refine ⟨_, isB_list (by assumption), ?_⟩
  | refine ⟨_, isB_bool (by assumption), ?_⟩
  | refine ⟨_, isB_int (by assumption), ?_⟩
  | refine ⟨_, isB_str (by assumption), ?_⟩
  | refine ⟨_, by assumption, ?_⟩
  | refine s_ite1 (by assumption) ?_ | refine s_ite0 (by assumption) ?_))
local macro_rules | `(tactic| walk_at "go") => `(tactic| repeat walk_at "go1")
/-! ### lists of lists of numbers and None, copied -/
def plainL : Nat → DL.D → Prop
  | 0, d => d = .non ∨ ∃ i : Int, d = .int i
  | n + 1, d => (d = .non ∨ ∃ i : Int, d = .int i) ∨ ∃ l : List DL.D, d = .lst l ∧ l.length ≤ 1000 ∧ ∀ x ∈ l, plainL n x
def F_cop (n : Nat) : FM := fun rs Qd => ∃ l : List DL.D, rs = [.val (.lst l)] ∧ l.length ≤ 1000 ∧ (∀ x ∈ l, plainL n x) ∧ Qd (.own l)
theorem cop_body {F : FM} (n : Nat) (hF : ∀ j, j + 1 = n → ∀ rs Q, F_cop j rs Q → F rs Q) : ∀ rs Qd, F_cop n rs Qd → bodyF 2 (m_copied F) rs Qd := by
  rintro rs Qd ⟨l, rfl, hl, hp, q⟩
  unfold m_copied
  show dRet _ _ [some (.val (.lst l)), none]
  refine ⟨rfl, ?_⟩
  refine lc_map 1 _ id [some (.val (.lst l)), none] l [] none (by rw [List.length_nil]; unfold sizeLine; omega) (fun d hd Q q => ?_) fun y => ?_
  · have hd := hp d hd
    have q : Q [some (.val (.lst l)), some (.val d)] (.val d) := q
    have plain : (d = .non ∨ ∃ i : Int, d = .int i) → dKeep (dIf (dTru (dIsis [.list, .tuple] (dVar 1))) (dCall F (dCons (dKeep (dVar 1)) dNil)) (dVar 1)) [some (.val (.lst l)), some (.val d)] Q := fun h => by
      refine ⟨false, ?_, _, rfl, ?_⟩
      · rcases h with rfl | ⟨i, rfl⟩ <;> rfl
      · exact s_iteF q
    cases n with
    | zero => exact plain hd
    | succ n =>
      rcases hd with hd | ⟨x, rfl, hx, hxp⟩
      · exact plain hd
      · refine ⟨true, rfl, _, rfl, ?_⟩
        refine s_iteT ?_
        exact ⟨rfl, hF n rfl _ _ ⟨x, rfl, hx, hxp, q⟩⟩
  · rw [List.nil_append, List.map_id]
    exact q
abbrev fns : List Str := ["kind", "cost", "labels", "numbers", "ends"]
def foundD (a : Ad) (k c l n e : DL.D) : DL.D := .ins a.Found fns [k, c, l, n, e]
def F_finit (a : Ad) : FMM := fun rs l Qd Qx => ∃ (dx : Addr) (k c : DL.D) (x y z : List DL.D), rs = [.val k, .val c, .val (.lst x), .val (.lst y), .val (.lst z)] ∧ l = .ins a.Found dx [] [] ∧ (x.length ≤ 1000 ∧ ∀ d ∈ x, plainL 2 d) ∧ (y.length ≤ 1000 ∧ ∀ d ∈ y, plainL 2 d) ∧ (z.length ≤ 1000 ∧ ∀ d ∈ z, plainL 2 d) ∧
  Qd (.val .non) (.ins a.Found dx fns [k, c, .lst x, .lst y, .lst z])
theorem put_more (f : Str) (d : DL.D) (ns : List Str) (ds : List DL.D) (h : ns.length = ds.length) (hf : (ns.all fun g => !(g == f)) = true) : putNs f ns = ns ++ [f] ∧ putDs f d ns ds = ds ++ [d] := by
  induction ns generalizing ds with
  | nil =>
    cases ds with
    | nil => exact ⟨rfl, rfl⟩
    | cons _ _ => cases h
  | cons g ns ih =>
    cases ds with
    | nil => cases h
    | cons x ds =>
      rw [List.all_cons, Bool.and_eq_true] at hf
      obtain ⟨h1, h2⟩ := ih ds (Nat.succ.inj h) hf.2
      have hg : (g == f) = false := by simpa using hf.1
      constructor
      · show (if (g == f) = true then _ else g :: putNs f ns) = _
        rw [if_neg (by rw [hg]; exact Bool.false_ne_true), h1]
        rfl
      · show (if (g == f) = true then _ else x :: putDs f d ns ds) = _
        rw [if_neg (by rw [hg]; exact Bool.false_ne_true), h2]
        rfl
abbrev f1 : List Str := ["kind"]
abbrev f2 : List Str := ["kind", "cost"]
abbrev f3 : List Str := ["kind", "cost", "labels"]
abbrev f4 : List Str := ["kind", "cost", "labels", "numbers"]
theorem finit_body (a : Ad) {F : FM} (hF : ∀ rs Q, F_cop 2 rs Q → F rs Q) : ∀ rs l Qd Qx, F_finit a rs l Qd Qx → bodyM 6 (m_Found_initdd a F) rs l Qd Qx := by
  rintro rs l Qd Qx ⟨dx, k, c, x, y, z, rfl, rfl, hx, hy, hz, q⟩ p
  unfold m_Found_initdd
  show dSeq _ _ _ [some (.fix p (.ins a.Found dx [] [])), some (.val k), some (.val c), some (.val (.lst x)), some (.val (.lst y)), some (.val (.lst z))]
  have n1 : putNs "kind" ([] : List Str) = f1 := rfl
  have d1 : putDs "kind" k [] [] = [k] := rfl
  have n2 : putNs "cost" f1 = f2 := (put_more "cost" c f1 [k] rfl (by decide +kernel)).1
  have d2 : putDs "cost" c f1 [k] = [k, c] := (put_more "cost" c f1 [k] rfl (by decide +kernel)).2
  have n3 : putNs "labels" f2 = f3 := (put_more "labels" (.lst x) f2 [k, c] rfl (by decide +kernel)).1
  have d3 : putDs "labels" (.lst x) f2 [k, c] = [k, c, .lst x] := (put_more "labels" (.lst x) f2 [k, c] rfl (by decide +kernel)).2
  have n4 : putNs "numbers" f3 = f4 := (put_more "numbers" (.lst y) f3 [k, c, .lst x] rfl (by decide +kernel)).1
  have d4 : putDs "numbers" (.lst y) f3 [k, c, .lst x] = [k, c, .lst x, .lst y] := (put_more "numbers" (.lst y) f3 [k, c, .lst x] rfl (by decide +kernel)).2
  have n5 : putNs "ends" f4 = fns := (put_more "ends" (.lst z) f4 [k, c, .lst x, .lst y] rfl (by decide +kernel)).1
  have d5 : putDs "ends" (.lst z) f4 [k, c, .lst x, .lst y] = [k, c, .lst x, .lst y, .lst z] := (put_more "ends" (.lst z) f4 [k, c, .lst x, .lst y] rfl (by decide +kernel)).2
  refine ⟨rfl, by decide, ?_⟩
  rw [n1, d1]
  refine ⟨rfl, by decide, ?_⟩
  rw [n2, d2]
  refine ⟨rfl, hF _ _ ⟨x, rfl, hx.1, hx.2, ?_⟩⟩
  refine ⟨rfl, by decide, ?_⟩
  rw [n3, d3]
  refine ⟨rfl, hF _ _ ⟨y, rfl, hy.1, hy.2, ?_⟩⟩
  refine ⟨rfl, by decide, ?_⟩
  rw [n4, d4]
  refine ⟨rfl, hF _ _ ⟨z, rfl, hz.1, hz.2, ?_⟩⟩
  refine ⟨rfl, by decide, ?_⟩
  rw [n5, d5]
  exact ⟨_, rfl, q⟩
end G
end

section
set_option Elab.async false
set_option linter.all false
set_option maxRecDepth 100000
set_option maxHeartbeats 4000000
namespace G
open PySem PySem.Spec PyProof.Rows L2 DL
local macro_rules | `(tactic| walk_at "ok1") => `(tactic| first | exact okD_int _ | exact okD_bl _ | exact okD_non | exact okD_str (by assumption) | assumption)
local macro_rules | `(tactic| walk_at "go1") => `(tactic| ((conv => whnf); first
  | refine s_iteT ?_ | refine s_iteF ?_
  | refine ⟨⟨by walk_at "ok1", by walk_at "ok1"⟩, ?_⟩
  | refine ⟨_, rfl, ?_⟩
  | refine ⟨rfl, ?_⟩
  | refine ⟨Nat.le_of_ble_eq_true rfl, ?_⟩
  | refine ⟨_, isB_tuple (by assumption), ?_⟩
  | refine ⟨_, isB_list (by assumption), ?_⟩
  | refine ⟨_, isB_bool (by assumption), ?_⟩
  | refine ⟨_, isB_int (by assumption), ?_⟩
  | refine ⟨_, isB_str (by assumption), ?_⟩
  | refine ⟨_, by assumption, ?_⟩
  | refine s_ite1 (by assumption) ?_ | refine s_ite0 (by assumption) ?_))
local macro_rules | `(tactic| walk_at "go") => `(tactic| repeat walk_at "go1")
/-! ### whole papers -/
def kindH : Option (Str × Str) → DL.D
  | none => .str "none"
  | some _ => .str "best"
def costH : Option (Str × Str) → DL.D
  | none => .non
  | some (t, _) => optN (costN t)
def toldH : Option (Str × Str) → List DL.D
  | none => []
  | some (_, u) => (Txt.split u " ").map labD
/-- the lines of a whole paper: its head, and m rows -/
def Lin (c k m : Nat) (hd : Option (Str × Str)) (rows ts : List Str) : Prop := rows.length = m ∧ (∀ t ∈ rows, rowOk k t = true) ∧ match hd with
  | none => ts = ("none" : Str) :: rows
  | some (t, u) => ¬ noneT t ∧ bestOk t = true ∧ labOk c k u = true ∧ ts = t :: u :: rows
theorem none_is {t : Str} (h : noneT t) : t = ("none" : Str) := by
  have e := join_of_split t
  rw [h] at e
  rw [← e]
  exact TL.ext_tl (by decide +kernel)
/-- what is behind the head, by the rest -/
theorem badRows_end (k : Nat) : ∀ (m n : Nat) (ts : List Str), badRows k n ts m = none → ts.length = m ∧ ∀ t ∈ ts, rowOk k t = true
  | 0, n, [], _ => ⟨rfl, fun t h => by cases h⟩
  | 0, n, _ :: _, h => by cases h
  | m + 1, n, [], h => by cases h
  | m + 1, n, t :: ts, h => by
    rw [badRows] at h
    by_cases c : rowOk k t = true
    · rw [if_pos c] at h
      obtain ⟨h1, h2⟩ := badRows_end k m (n + 1) ts h
      refine ⟨by rw [List.length_cons, h1], fun u hu => ?_⟩
      rcases List.mem_cons.mp hu with rfl | hu
      · exact c
      · exact h2 u hu
    · rw [if_neg c] at h
      cases h
theorem labs_plain (u : Str) (h : (Txt.split u " ").length ≤ 1000) : ((Txt.split u " ").map labD).length ≤ 1000 ∧ ∀ d ∈ (Txt.split u " ").map labD, plainL 2 d := by
  refine ⟨by rw [List.length_map]; exact h, fun d hd => ?_⟩
  obtain ⟨w, _, rfl⟩ := List.mem_map.mp hd
  unfold labD
  cases digsF 9 w with
  | none => exact .inl (.inl rfl)
  | some v => exact .inl (.inr ⟨_, rfl⟩)
theorem ent_plain (n : Nat) (w : Str) : plainL n (entD w) := by
  have : entD w = .non ∨ ∃ i : Int, entD w = .int i := by
    unfold entD
    cases entN w with
    | none => exact .inl rfl
    | some v => exact .inr ⟨_, rfl⟩
  cases n with
  | zero => exact this
  | succ n => exact .inl this
theorem row_len {k : Nat} {t : Str} (h : rowOk k t = true) : (Txt.split t " ").length = k := by
  unfold rowOk at h
  rw [Bool.and_eq_true, beq_iff_eq] at h
  exact h.2
theorem prow_plain {k n : Nat} {t : Str} (hk : k ≤ 1000) (h : rowOk k t = true) : plainL (n + 1) (prow t) := by
  refine .inr ⟨_, rfl, by rw [List.length_map, row_len h]; exact hk, fun d hd => ?_⟩
  obtain ⟨w, _, rfl⟩ := List.mem_map.mp hd
  exact ent_plain n w
theorem lab_len {c k : Nat} {t : Str} (h : labOk c k t = true) : (Txt.split t " ").length = c := by
  unfold labOk at h
  rw [Bool.and_eq_true, beq_iff_eq] at h
  exact h.2
theorem told_plain {c k m : Nat} {hd : Option (Str × Str)} {rows ts : List Str} (hc : c ≤ 1000) (h : Lin c k m hd rows ts) : (toldH hd).length ≤ 1000 ∧ ∀ d ∈ toldH hd, plainL 2 d := by
  obtain ⟨h1, h2, h3⟩ := h
  cases hd with
  | none => exact ⟨Nat.zero_le _, fun d hd => by cases hd⟩
  | some tu =>
    obtain ⟨t, u⟩ := tu
    exact labs_plain u (by rw [lab_len h3.2.2.1]; exact hc)
abbrev m_rtail (a : Ad) (FR FW FF FM' : FMM) : DSM :=
  (dSeq (dSetP 7 (dMethM a.Lines 3 "rows" FR (dCons (dKeep (dVar 0)) (dCons (dKeep (dVar 1)) dNil))))
  (dSeq (dSetP 8 (dMethM a.Lines 3 "row" FW (dCons (dKeep (dVar 1)) dNil)))
  (dSeq (dDropP (dMethM a.Lines 3 "finish" FF dNil))
  (dRet (dKeep (dMake a.Found FM' (dCons (dKeep (dVar 4)) (dCons (dKeep (dVar 5)) (dCons (dKeep (dVar 6)) (dCons (dKeep (dVar 7)) (dCons (dKeep (dVar 8)) dNil)))))))))))
theorem getElem_drop {ts : List Str} {n : Nat} {t : Str} (h : ts[n]? = some t) : ts.drop n = t :: ts.drop (n + 1) := by
  have hlt : n < ts.length := (List.getElem?_eq_some_iff.mp h).1
  rw [List.drop_eq_getElem_cons hlt]
  congr 1
  exact (List.getElem?_eq_some_iff.mp h).2
/-- behind the head of a tree's paper -/
theorem rtail_ok (a : Ad) {FR FW FF FM' : FMM} (hR : ∀ rs l Q Qx, F_rows a rs l Q Qx → FR rs l Q Qx) (hW : ∀ rs l Q Qx, F_row a rs l Q Qx → FW rs l Q Qx) (hF : ∀ rs l Q Qx, F_finish a rs l Q Qx → FF rs l Q Qx) (hM : ∀ rs l Q Qx, F_finit a rs l Q Qx → FM' rs l Q Qx)
    {Qd : R → Prop} {Qx : Xd → Prop} {c k h : Nat} {ts : List Str} {p dx : Addr} {kd cd : DL.D} {td : List DL.D} (hh : h ≤ ts.length) (hw : lOk ts) (hc : c ≤ 100) (hk : k ≤ 10) (ht : td.length ≤ 1000 ∧ ∀ d ∈ td, plainL 2 d)
    (q : badRows k h (ts.drop h) (c + 1) = none → Qd (.val (foundD a kd cd (.lst td) (.lst (((ts.drop h).take c).map prow)) (prow ((ts.drop h).getD c ""))))) (qx : ∀ n, badRows k h (ts.drop h) (c + 1) = some n → Qx ⟨a.x_BadPaper, "at", .int (n : Nat)⟩) :
    m_rtail a FR FW FF FM' { nx := fun _ => Qd (.val .non), rt := fun _ r => Qd r, xc := Qx } [some (.val (.int (c : Int))), some (.val (.int (k : Int))), some (.val (.lst (ts.map D.str))), some (.fix p (lfx a.Lines dx ts h)), some (.val kd), some (.val cd), some (.val (.lst td)), none, none] := by
  rw [bad_fb k c h 1] at q qx
  refine ⟨rfl, ln_no.2.2.2.2.1, ?_⟩
  refine ⟨rfl, hR _ _ _ _ ⟨dx, ts, h, c, k, rfl, rfl, hh, hw, hc, fun hfb => ?_, fun j hj => ?_⟩⟩
  · rw [hfb] at q qx
    obtain ⟨f1, f2⟩ := fb_len k c _ hfb
    rw [List.length_drop] at f1
    rw [List.drop_drop] at q qx
    refine ⟨rfl, ln_no.2.2.2.2.2.1, ?_⟩
    refine ⟨rfl, hW _ _ _ _ ⟨dx, ts, h + c, k, rfl, rfl, by omega, hw, fun t ht' hr => ?_, fun hb => ?_⟩⟩
    · have ed := getElem_drop ht'
      have hlt : h + c < ts.length := (List.getElem?_eq_some_iff.mp ht').1
      have q := q
      have qx := qx
      rw [ed] at q qx
      have e1 : badRows k (h + c) (t :: ts.drop (h + c + 1)) 1 = badRows k (h + c + 1) (ts.drop (h + c + 1)) 0 := by
        rw [badRows, if_pos hr]
      have q : badRows k (h + c + 1) (ts.drop (h + c + 1)) 0 = none → _ := fun z => q (by show badRows k (h + c) (t :: ts.drop (h + c + 1)) 1 = none; rw [e1]; exact z)
      have qx : ∀ n, badRows k (h + c + 1) (ts.drop (h + c + 1)) 0 = some n → Qx ⟨a.x_BadPaper, "at", .int (n : Nat)⟩ := fun n z => qx n (by show badRows k (h + c) (t :: ts.drop (h + c + 1)) 1 = some n; rw [e1]; exact z)
      have eg : (ts.drop h).getD c "" = t := by
        rw [List.getD_eq_getElem?_getD, List.getElem?_drop, ht']
        rfl
      rw [eg] at q
      refine ⟨rfl, ln_no.2.2.2.2.2.2, ?_⟩
      refine ⟨rfl, hF _ _ _ _ ⟨dx, ts, h + c + 1, rfl, rfl, hlt, hw, fun he => ?_, fun he => ?_⟩⟩
      · refine ⟨rfl, fun dx2 => hM _ _ _ _ ⟨dx2, kd, cd, td, _, _, rfl, rfl, ht, ?_, ?_, ?_⟩⟩
        · refine ⟨by rw [List.length_map, List.length_take]; omega, fun d hd => ?_⟩
          obtain ⟨u, hu, rfl⟩ := List.mem_map.mp hd
          exact prow_plain (n := 1) (by omega) (f2 u hu)
        · refine ⟨by rw [List.length_map, row_len hr]; omega, fun d hd => ?_⟩
          obtain ⟨u, hu, rfl⟩ := List.mem_map.mp hd
          exact ent_plain 2 u
        · exact ⟨rfl, q (by rw [List.drop_of_length_le (by omega)]; rfl)⟩
      · refine qx (h + c + 1) ?_
        obtain ⟨t2, ht2⟩ : ∃ t2, ts[h + c + 1]? = some t2 := ⟨_, List.getElem?_eq_getElem he⟩
        rw [getElem_drop ht2]
        rfl
    · refine qx (h + c) ?_
      cases e : ts.drop (h + c) with
      | nil => rfl
      | cons t r =>
        have ht : ts[h + c]? = some t := by
          have := congrArg (·[0]?) e
          simpa using this
        show badRows k (h + c) (t :: r) 1 = _
        rw [badRows, if_neg (by rw [hb t ht]; exact Bool.false_ne_true)]
  · rw [hj] at qx
    exact qx (h + j) rfl
def F_rp (a : Ad) : FME := fun rs Qd Qx => ∃ (c k : Nat) (ts : List Str), rs = [.val (.int (c : Int)), .val (.int (k : Int)), .val (.lst (ts.map D.str))] ∧ lOk ts ∧ c ≤ 100 ∧ k ≤ 10 ∧
  (∀ hd rows, Lin c k (c + 1) hd rows ts → Qd (.val (foundD a (kindH hd) (costH hd) (.lst (toldH hd)) (.lst ((rows.take c).map prow)) (prow (rows.getD c ""))))) ∧ (∀ n, badF c k (c + 1) ts = some n → Qx ⟨a.x_BadPaper, "at", .int (n : Nat)⟩)
theorem rp_body (a : Ad) {FH FR FW FF FI FM' : FMM} (hH : ∀ rs l Q Qx, F_head a rs l Q Qx → FH rs l Q Qx) (hR : ∀ rs l Q Qx, F_rows a rs l Q Qx → FR rs l Q Qx) (hW : ∀ rs l Q Qx, F_row a rs l Q Qx → FW rs l Q Qx) (hF : ∀ rs l Q Qx, F_finish a rs l Q Qx → FF rs l Q Qx) (hI : ∀ rs l Q Qx, F_linit a rs l Q Qx → FI rs l Q Qx) (hM : ∀ rs l Q Qx, F_finit a rs l Q Qx → FM' rs l Q Qx) :
    ∀ rs Qd Qx, F_rp a rs Qd Qx → bodyE 9 (m_read_paper a FH FR FW FF FI FM') rs Qd Qx := by
  rintro rs Qd Qx ⟨c, k, ts, rfl, hw, hc, hk, q, qx⟩
  unfold m_read_paper
  show dSeq _ _ _ [some (.val (.int (c : Int))), some (.val (.int (k : Int))), some (.val (.lst (ts.map D.str))), none, none, none, none, none, none]
  refine ⟨rfl, fun dx => hI _ _ _ _ ⟨dx, ts, rfl, rfl, fun p => ?_⟩⟩
  refine ⟨rfl, ln_no.2.2.1, ?_⟩
  refine ⟨rfl, hH _ _ _ _ ⟨dx, ts, 0, c, k, rfl, rfl, Nat.zero_le _, hw, hk, fun h0 => ?_, fun t ht => ⟨fun hz => ?_, fun hz hb => ?_, fun hz hb => ⟨fun u hu hl => ?_, fun hl => ?_⟩⟩⟩⟩
  · refine qx 0 ?_
    have : ts = [] := by
      rw [List.getElem?_eq_none_iff] at h0
      exact List.length_eq_zero_iff.mp (by omega)
    rw [this]
    rfl
  · have ed : ts = t :: ts.drop 1 := by
      have := getElem_drop ht
      rw [List.drop_zero] at this
      exact this
    have eb : badF c k (c + 1) ts = badRows k 1 (ts.drop 1) (c + 1) := by
      rw [ed, badF_cons, if_pos hz]
      rfl
    refine ⟨rfl, ?_⟩
    have hlen : 1 ≤ ts.length := by rw [ed, List.length_cons]; omega
    refine rtail_ok a hR hW hF hM hlen hw hc hk (td := []) ⟨Nat.zero_le _, fun d hd => by cases hd⟩ (fun h => ?_) fun n h => qx n (by rw [eb]; exact h)
    obtain ⟨h1, h2⟩ := badRows_end k _ _ _ h
    exact q none (ts.drop 1) ⟨h1, h2, by rw [← none_is hz]; exact ed⟩
  · refine qx 0 ?_
    have ed : ts = t :: ts.drop 1 := by
      have := getElem_drop ht
      rw [List.drop_zero] at this
      exact this
    rw [ed, badF_cons, if_neg hz, if_neg (by rw [hb]; exact Bool.false_ne_true)]
  · have ed : ts = t :: u :: ts.drop 2 := by
      have := getElem_drop ht
      rw [List.drop_zero, getElem_drop hu] at this
      exact this
    have eb : badF c k (c + 1) ts = badRows k 2 (ts.drop 2) (c + 1) := by
      rw [ed, badF_cons, if_neg hz, if_pos hb]
      show (if labOk c k u = true then _ else _) = _
      rw [if_pos hl]
      rfl
    refine ⟨rfl, ?_⟩
    have hlen : 2 ≤ ts.length := by rw [ed, List.length_cons, List.length_cons]; omega
    refine rtail_ok a hR hW hF hM hlen hw hc hk (td := (Txt.split u " ").map labD) (labs_plain u (by rw [lab_len hl]; omega)) (fun h => ?_) fun n h => qx n (by rw [eb]; exact h)
    obtain ⟨h1, h2⟩ := badRows_end k _ _ _ h
    exact q (some (t, u)) (ts.drop 2) ⟨h1, h2, hz, hb, hl, ed⟩
  · refine qx 1 ?_
    have ed : ts = t :: ts.drop 1 := by
      have := getElem_drop ht
      rw [List.drop_zero] at this
      exact this
    rw [ed, badF_cons, if_neg hz, if_pos hb]
    cases e : ts.drop 1 with
    | nil => rfl
    | cons u us =>
      have hu : ts[1]? = some u := by
        have := congrArg (·[0]?) e
        simpa using this
      show (if labOk c k u = true then _ else _) = _
      rw [if_neg (by rw [hl u hu]; exact Bool.false_ne_true)]
end G
end

section
set_option Elab.async false
set_option linter.all false
set_option maxRecDepth 100000
set_option maxHeartbeats 4000000
namespace G
open PySem PySem.Spec PyProof.Rows L2 DL
local macro_rules | `(tactic| walk_at "ok1") => `(tactic| first | exact okD_int _ | exact okD_bl _ | exact okD_non | exact okD_str (by assumption) | assumption)
local macro_rules | `(tactic| walk_at "go1") => `(tactic| ((conv => whnf); first
  | refine s_iteT ?_ | refine s_iteF ?_
  | refine ⟨⟨by walk_at "ok1", by walk_at "ok1"⟩, ?_⟩
  | refine ⟨_, rfl, ?_⟩
  | refine ⟨rfl, ?_⟩
  | refine ⟨Nat.le_of_ble_eq_true rfl, ?_⟩
  | refine ⟨_, isB_tuple (by assumption), ?_⟩
  | refine ⟨_, isB_list (by assumption), ?_⟩
  | refine ⟨_, isB_bool (by assumption), ?_⟩
  | refine ⟨_, isB_int (by assumption), ?_⟩
  | refine ⟨_, isB_str (by assumption), ?_⟩
  | refine ⟨_, by assumption, ?_⟩
  | refine s_ite1 (by assumption) ?_ | refine s_ite0 (by assumption) ?_))
local macro_rules | `(tactic| walk_at "go") => `(tactic| repeat walk_at "go1")
/-! ### a ring's paper -/
theorem fb_add (k : Nat) : ∀ (a b : Nat) (ts : List Str), fb k (a + b) ts = match fb k a ts with
    | some i => some i
    | none => (fb k b (ts.drop a)).map (· + a)
  | 0, b, ts => by
    rw [Nat.zero_add]
    show fb k b ts = (fb k b ts).map (· + 0)
    cases fb k b ts <;> rfl
  | a + 1, b, [] => by
    rw [show a + 1 + b = (a + b) + 1 by omega]
    rfl
  | a + 1, b, t :: ts => by
    rw [show a + 1 + b = (a + b) + 1 by omega, fb, fb]
    by_cases h : rowOk k t = true
    · rw [if_pos h, if_pos h, fb_add k a b ts]
      cases fb k a ts with
      | none =>
        show ((fb k b (ts.drop a)).map (· + a)).map (· + 1) = (fb k b (ts.drop a)).map (· + (a + 1))
        cases fb k b (ts.drop a) <;> rfl
      | some i => rfl
    · rw [if_neg h, if_neg h]
def chunkD (c : Nat) : Nat → List Str → List DL.D
  | 0, _ => []
  | m + 1, ts => .lst ((ts.take c).map prow) :: chunkD c m (ts.drop c)
theorem chunk_len (c : Nat) : ∀ (m : Nat) (ts : List Str), (chunkD c m ts).length = m
  | 0, _ => rfl
  | m + 1, ts => by
    show (chunkD c m (ts.drop c)).length + 1 = _
    rw [chunk_len c m]
theorem chunk_plain {c k : Nat} (hc : c ≤ 1000) (hk : k ≤ 1000) : ∀ (m : Nat) (ts : List Str), (∀ t ∈ ts, rowOk k t = true) → ∀ d ∈ chunkD c m ts, plainL 2 d
  | 0, _, _, d, h => by cases h
  | m + 1, ts, ha, d, h => by
    rcases List.mem_cons.mp h with rfl | h
    · refine .inr ⟨_, rfl, by rw [List.length_map, List.length_take]; omega, fun x hx => ?_⟩
      obtain ⟨t, ht, rfl⟩ := List.mem_map.mp hx
      exact prow_plain (n := 0) hk (ha t (List.mem_of_mem_take ht))
    · exact chunk_plain hc hk m (ts.drop c) (fun t ht => ha t (List.mem_of_mem_drop ht)) d h
theorem chunk_take (c : Nat) : ∀ (m : Nat) (ts : List Str), chunkD c m (ts.take (m * c)) = chunkD c m ts
  | 0, _ => rfl
  | m + 1, ts => by
    show DL.D.lst (((ts.take ((m + 1) * c)).take c).map prow) :: chunkD c m ((ts.take ((m + 1) * c)).drop c) = .lst ((ts.take c).map prow) :: chunkD c m (ts.drop c)
    have e1 : (ts.take ((m + 1) * c)).take c = ts.take c := by
      rw [List.take_take, Nat.min_eq_left]
      rw [Nat.succ_mul]
      all_goals omega
    have e2 : (ts.take ((m + 1) * c)).drop c = (ts.drop c).take (m * c) := by
      have em : (m + 1) * c - c = m * c := by
        rw [Nat.succ_mul]
        omega
      rw [List.drop_take, em]
    rw [e1, e2, chunk_take c m]
theorem ring_loop (a : Ad) {FR : FMM} (hR : ∀ rs l Q Qx, F_rows a rs l Q Qx → FR rs l Q Qx) {p dx : Addr} {ts : List Str} {c k : Nat} {a2 a4 a5 a6 a7 : Option Nv} {Q : En → List DL.D → Prop} {Qx : Xd → Prop} (hw : lOk ts) (hc : c ≤ 100) : ∀ (ds : List DL.D) (n : Nat) (acc : List DL.D), n ≤ ts.length → acc.length + ds.length ≤ 200 →
    (fb k (ds.length * c) (ts.drop n) = none → Q [some (.val (.int (c : Int))), some (.val (.int (k : Int))), a2, some (.fix p (lfx a.Lines dx ts (n + ds.length * c))), a4, a5, a6, a7, none] (acc ++ chunkD c ds.length (ts.drop n))) →
    (∀ j, fb k (ds.length * c) (ts.drop n) = some j → Qx ⟨a.x_BadPaper, "at", .int ((n + j : Nat) : Int)⟩) →
    dLcPL [8] (dName 8) (dMethM a.Lines 3 "rows" FR (dCons (dKeep (dVar 0)) (dCons (dKeep (dVar 1)) dNil))) Q Qx ds [some (.val (.int (c : Int))), some (.val (.int (k : Int))), a2, some (.fix p (lfx a.Lines dx ts n)), a4, a5, a6, a7, none] acc
  | [], n, acc, hn, hl, q, qx => by
    have q := q (by rw [List.length_nil, Nat.zero_mul]; rfl)
    rw [List.length_nil, Nat.zero_mul] at q
    rw [show chunkD c 0 (ts.drop n) = [] from rfl, List.append_nil] at q
    exact q
  | d :: ds, n, acc, hn, hl, q, qx => by
    rw [List.length_cons] at hl q qx
    have em : (ds.length + 1) * c = c + ds.length * c := by rw [Nat.succ_mul]; omega
    rw [em, fb_add] at q qx
    refine ⟨rfl, ln_no.2.2.2.2.1, ?_⟩
    refine ⟨rfl, hR _ _ _ _ ⟨dx, ts, n, c, k, rfl, rfl, hn, hw, hc, fun hfb => ?_, fun j hj => ?_⟩⟩
    · rw [hfb] at q qx
      have f1 := (fb_len k c _ hfb).1
      rw [List.length_drop] at f1
      rw [List.drop_drop] at q qx
      refine ⟨by unfold sizeLine; omega, ?_⟩
      refine ring_loop a hR hw hc ds (n + c) (acc ++ [.lst (((ts.drop n).take c).map prow)]) (by omega) (by rw [List.length_append, List.length_singleton]; omega) (fun h => ?_) fun j hj => ?_
      · have q := q (by show (fb k (ds.length * c) (ts.drop (n + c))).map (· + c) = none; rw [h]; rfl)
        rw [← Nat.add_assoc] at q
        rw [List.append_assoc]
        have e : chunkD c (ds.length + 1) (ts.drop n) = [.lst (((ts.drop n).take c).map prow)] ++ chunkD c ds.length (ts.drop (n + c)) := by
          show DL.D.lst (((ts.drop n).take c).map prow) :: chunkD c ds.length ((ts.drop n).drop c) = _
          rw [List.drop_drop]
          rfl
        rw [e] at q
        exact q
      · have q := qx (j + c) (by show (fb k (ds.length * c) (ts.drop (n + c))).map (· + c) = some (j + c); rw [hj]; rfl)
        rw [show n + (j + c) = n + c + j by omega] at q
        exact q
    · rw [hj] at qx
      exact qx j rfl
abbrev m_gtail (a : Ad) (FR FF FM' : FMM) : DSM :=
  (dSeq (dSetP 7 (dLcP (dRng1 (dVar 1)) [8] (dName 8) (dMethM a.Lines 3 "rows" FR (dCons (dKeep (dVar 0)) (dCons (dKeep (dVar 1)) dNil)))))
  (dSeq (dDropP (dMethM a.Lines 3 "finish" FF dNil))
  (dRet (dKeep (dMake a.Found FM' (dCons (dKeep (dVar 4)) (dCons (dKeep (dVar 5)) (dCons (dKeep (dVar 6)) (dCons (dKeep (dVar 7)) (dCons (dKeep (dLst dNil)) dNil))))))))))
theorem gtail_ok (a : Ad) {FR FF FM' : FMM} (hR : ∀ rs l Q Qx, F_rows a rs l Q Qx → FR rs l Q Qx) (hF : ∀ rs l Q Qx, F_finish a rs l Q Qx → FF rs l Q Qx) (hM : ∀ rs l Q Qx, F_finit a rs l Q Qx → FM' rs l Q Qx)
    {Qd : R → Prop} {Qx : Xd → Prop} {c k h : Nat} {ts : List Str} {p dx : Addr} {kd cd : DL.D} {td : List DL.D} (hh : h ≤ ts.length) (hw : lOk ts) (hc : c ≤ 100) (hk : k ≤ 10) (ht : td.length ≤ 1000 ∧ ∀ d ∈ td, plainL 2 d)
    (q : badRows k h (ts.drop h) (k * c) = none → Qd (.val (foundD a kd cd (.lst td) (.lst (chunkD c k (ts.drop h))) (.lst [])))) (qx : ∀ n, badRows k h (ts.drop h) (k * c) = some n → Qx ⟨a.x_BadPaper, "at", .int (n : Nat)⟩) :
    m_gtail a FR FF FM' { nx := fun _ => Qd (.val .non), rt := fun _ r => Qd r, xc := Qx } [some (.val (.int (c : Int))), some (.val (.int (k : Int))), some (.val (.lst (ts.map D.str))), some (.fix p (lfx a.Lines dx ts h)), some (.val kd), some (.val cd), some (.val (.lst td)), none, none] := by
  have e0 := bad_fb k (k * c) h 0 (ts.drop h)
  rw [Nat.add_zero] at e0
  rw [e0] at q qx
  refine ⟨by omega, by omega, ?_⟩
  refine ⟨rfl, ?_⟩
  have el : (rangeD 0 (k : Int)).length = k := by
    unfold rangeD
    rw [List.length_map, List.length_range]
    omega
  refine ring_loop a hR hw hc (rangeD 0 (k : Int)) h [] hh (by rw [el, List.length_nil]; omega) (fun hfb => ?_) fun j hj => ?_
  · rw [el] at hfb ⊢
    rw [hfb] at q qx
    obtain ⟨f1, f2⟩ := fb_len k _ _ hfb
    rw [List.length_drop] at f1
    rw [List.drop_drop] at q qx
    rw [List.nil_append]
    refine ⟨rfl, ln_no.2.2.2.2.2.2, ?_⟩
    refine ⟨rfl, hF _ _ _ _ ⟨dx, ts, h + k * c, rfl, rfl, by omega, hw, fun he => ?_, fun he => ?_⟩⟩
    · refine ⟨[], rfl, by decide, ?_⟩
      refine ⟨rfl, fun dx2 => hM _ _ _ _ ⟨dx2, kd, cd, td, _, [], rfl, rfl, ht, ?_, ?_, ?_⟩⟩
      · refine ⟨by rw [chunk_len]; omega, ?_⟩
        rw [← chunk_take]
        exact chunk_plain (by omega) (k := k) (by omega) k _ f2
      · exact ⟨Nat.zero_le _, fun d hd => by cases hd⟩
      · exact ⟨rfl, q (by rw [List.drop_of_length_le (by omega)]; rfl)⟩
    · refine qx (h + k * c) ?_
      obtain ⟨t2, ht2⟩ : ∃ t2, ts[h + k * c]? = some t2 := ⟨_, List.getElem?_eq_getElem he⟩
      rw [getElem_drop ht2]
      rfl
  · rw [el] at hj
    rw [hj] at qx
    exact qx (h + j) rfl
def F_rg (a : Ad) : FME := fun rs Qd Qx => ∃ (c k : Nat) (ts : List Str), rs = [.val (.int (c : Int)), .val (.int (k : Int)), .val (.lst (ts.map D.str))] ∧ lOk ts ∧ c ≤ 100 ∧ k ≤ 10 ∧
  (∀ hd rows, Lin c k (k * c) hd rows ts → Qd (.val (foundD a (kindH hd) (costH hd) (.lst (toldH hd)) (.lst (chunkD c k rows)) (.lst [])))) ∧ (∀ n, badF c k (k * c) ts = some n → Qx ⟨a.x_BadPaper, "at", .int (n : Nat)⟩)
theorem rg_body (a : Ad) {FH FR FF FI FM' : FMM} (hH : ∀ rs l Q Qx, F_head a rs l Q Qx → FH rs l Q Qx) (hR : ∀ rs l Q Qx, F_rows a rs l Q Qx → FR rs l Q Qx) (hF : ∀ rs l Q Qx, F_finish a rs l Q Qx → FF rs l Q Qx) (hI : ∀ rs l Q Qx, F_linit a rs l Q Qx → FI rs l Q Qx) (hM : ∀ rs l Q Qx, F_finit a rs l Q Qx → FM' rs l Q Qx) :
    ∀ rs Qd Qx, F_rg a rs Qd Qx → bodyE 9 (m_read_ring_paper a FH FR FF FI FM') rs Qd Qx := by
  rintro rs Qd Qx ⟨c, k, ts, rfl, hw, hc, hk, q, qx⟩
  unfold m_read_ring_paper
  show dSeq _ _ _ [some (.val (.int (c : Int))), some (.val (.int (k : Int))), some (.val (.lst (ts.map D.str))), none, none, none, none, none, none]
  refine ⟨rfl, fun dx => hI _ _ _ _ ⟨dx, ts, rfl, rfl, fun p => ?_⟩⟩
  refine ⟨rfl, ln_no.2.2.1, ?_⟩
  refine ⟨rfl, hH _ _ _ _ ⟨dx, ts, 0, c, k, rfl, rfl, Nat.zero_le _, hw, hk, fun h0 => ?_, fun t ht => ⟨fun hz => ?_, fun hz hb => ?_, fun hz hb => ⟨fun u hu hl => ?_, fun hl => ?_⟩⟩⟩⟩
  · refine qx 0 ?_
    have : ts = [] := by
      rw [List.getElem?_eq_none_iff] at h0
      exact List.length_eq_zero_iff.mp (by omega)
    rw [this]
    rfl
  · have ed : ts = t :: ts.drop 1 := by
      have := getElem_drop ht
      rw [List.drop_zero] at this
      exact this
    have eb : badF c k (k * c) ts = badRows k 1 (ts.drop 1) (k * c) := by
      rw [ed, badF_cons, if_pos hz]
      rfl
    refine ⟨rfl, ?_⟩
    have hlen : 1 ≤ ts.length := by rw [ed, List.length_cons]; omega
    refine gtail_ok a hR hF hM hlen hw hc hk (td := []) ⟨Nat.zero_le _, fun d hd => by cases hd⟩ (fun h => ?_) fun n h => qx n (by rw [eb]; exact h)
    obtain ⟨h1, h2⟩ := badRows_end k _ _ _ h
    exact q none (ts.drop 1) ⟨h1, h2, by rw [← none_is hz]; exact ed⟩
  · refine qx 0 ?_
    have ed : ts = t :: ts.drop 1 := by
      have := getElem_drop ht
      rw [List.drop_zero] at this
      exact this
    rw [ed, badF_cons, if_neg hz, if_neg (by rw [hb]; exact Bool.false_ne_true)]
  · have ed : ts = t :: u :: ts.drop 2 := by
      have := getElem_drop ht
      rw [List.drop_zero, getElem_drop hu] at this
      exact this
    have eb : badF c k (k * c) ts = badRows k 2 (ts.drop 2) (k * c) := by
      rw [ed, badF_cons, if_neg hz, if_pos hb]
      show (if labOk c k u = true then _ else _) = _
      rw [if_pos hl]
      rfl
    refine ⟨rfl, ?_⟩
    have hlen : 2 ≤ ts.length := by rw [ed, List.length_cons, List.length_cons]; omega
    refine gtail_ok a hR hF hM hlen hw hc hk (td := (Txt.split u " ").map labD) (labs_plain u (by rw [lab_len hl]; omega)) (fun h => ?_) fun n h => qx n (by rw [eb]; exact h)
    obtain ⟨h1, h2⟩ := badRows_end k _ _ _ h
    exact q (some (t, u)) (ts.drop 2) ⟨h1, h2, hz, hb, hl, ed⟩
  · refine qx 1 ?_
    have ed : ts = t :: ts.drop 1 := by
      have := getElem_drop ht
      rw [List.drop_zero] at this
      exact this
    rw [ed, badF_cons, if_neg hz, if_pos hb]
    cases e : ts.drop 1 with
    | nil => rfl
    | cons u us =>
      have hu : ts[1]? = some u := by
        have := congrArg (·[0]?) e
        simpa using this
      show (if labOk c k u = true then _ else _) = _
      rw [if_neg (by rw [hl u hu]; exact Bool.false_ne_true)]
/-! ### either -/
/-- what is read: of a tree, of a ring -/
def readD (a : Ad) (c k : Nat) (b : Bool) (hd : Option (Str × Str)) (rows : List Str) : DL.D := match b with
  | true => foundD a (kindH hd) (costH hd) (.lst (toldH hd)) (.lst (chunkD c k rows)) (.lst [])
  | false => foundD a (kindH hd) (costH hd) (.lst (toldH hd)) (.lst ((rows.take c).map prow)) (prow (rows.getD c ""))
abbrev manyR (c k : Nat) (b : Bool) : Nat := if b = true then c * k else c + 1
def F_lread (a : Ad) : FME := fun rs Qd Qx => ∃ (c k : Nat) (b : Bool) (ts : List Str), rs = [.val (.int (c : Int)), .val (.int (k : Int)), .val (.lst (ts.map D.str)), .val (.bl b)] ∧ lOk ts ∧ c ≤ 100 ∧ k ≤ 10 ∧
  (∀ hd rows, Lin c k (manyR c k b) hd rows ts → Qd (.val (readD a c k b hd rows))) ∧ (∀ n, badF c k (manyR c k b) ts = some n → Qx ⟨a.x_BadPaper, "at", .int (n : Nat)⟩)
theorem lread_body (a : Ad) {FG FP : FME} (hG : ∀ rs Q Qx, F_rg a rs Q Qx → FG rs Q Qx) (hP : ∀ rs Q Qx, F_rp a rs Q Qx → FP rs Q Qx) : ∀ rs Qd Qx, F_lread a rs Qd Qx → bodyE 4 (m_law_read FG FP) rs Qd Qx := by
  rintro rs Qd Qx ⟨c, k, b, ts, rfl, hw, hc, hk, q, qx⟩
  unfold m_law_read
  show dSeq _ _ _ [some (.val (.int (c : Int))), some (.val (.int (k : Int))), some (.val (.lst (ts.map D.str))), some (.val (.bl b))]
  refine ⟨b, rfl, ?_⟩
  cases b with
  | true =>
    refine s_iteT ?_
    have em : manyR c k true = k * c := Nat.mul_comm c k
    rw [em] at q qx
    exact ⟨rfl, hG _ _ _ ⟨c, k, ts, rfl, hw, hc, hk, fun hd rows h => q hd rows h, qx⟩⟩
  | false =>
    refine s_iteF ?_
    exact ⟨rfl, hP _ _ _ ⟨c, k, ts, rfl, hw, hc, hk, fun hd rows h => q hd rows h, qx⟩⟩
end G
end

section
set_option Elab.async false
set_option linter.all false
set_option maxRecDepth 100000
set_option maxHeartbeats 4000000
namespace G
open PySem PySem.Spec PyProof.Rows L2 DL
local macro_rules | `(tactic| walk_at "ok1") => `(tactic| first | exact okD_int _ | exact okD_bl _ | exact okD_non | exact okD_str (by assumption) | assumption)
local macro_rules | `(tactic| walk_at "go1") => `(tactic| ((conv => whnf); first
  | refine s_iteT ?_ | refine s_iteF ?_
  | refine ⟨⟨by walk_at "ok1", by walk_at "ok1"⟩, ?_⟩
  | refine ⟨_, rfl, ?_⟩
  | refine ⟨rfl, ?_⟩
  | refine ⟨Nat.le_of_ble_eq_true rfl, ?_⟩
  | refine ⟨_, isB_tuple (by assumption), ?_⟩
  | refine ⟨_, isB_list (by assumption), ?_⟩
  | refine ⟨_, isB_bool (by assumption), ?_⟩
  | refine ⟨_, isB_int (by assumption), ?_⟩
  | refine ⟨_, isB_str (by assumption), ?_⟩
  | refine ⟨_, by assumption, ?_⟩
  | refine s_ite1 (by assumption) ?_ | refine s_ite0 (by assumption) ?_))
local macro_rules | `(tactic| walk_at "go") => `(tactic| repeat walk_at "go1")
/-! ### a paper written -/
def wN : Option Nat → Str
  | none => "-"
  | some n => numW n
def rowL (os : List (Option Nat)) : Str := Txt.join " " (os.map wN)
theorem wN_okW {o : Option Nat} (h : okE o) : okW 9 (wN o) := by
  cases o with
  | none => exact dash_okW
  | some n => exact num_okW (h n rfl)
def F_wr : FM := fun rs Qd => ∃ o : Option Nat, rs = [.val (optN o)] ∧ okE o ∧ Qd (.val (.str (wN o)))
theorem wr_body : ∀ rs Qd, F_wr rs Qd → bodyF 1 m_written rs Qd := by
  rintro rs Qd ⟨o, rfl, ho, q⟩
  unfold m_written
  show dRet _ _ [some (.val (optN o))]
  cases o with
  | none =>
    refine ⟨true, rfl, ?_⟩
    exact s_iteT q
  | some n =>
    refine ⟨false, rfl, ?_⟩
    refine s_iteF ?_
    exact ⟨num_log (ho n rfl), q⟩
def F_rl : FM := fun rs Qd => ∃ os : List (Option Nat), rs = [.val (.lst (os.map optN))] ∧ os.length ≤ 1000 ∧ (∀ o ∈ os, okE o) ∧ Qd (.val (.str (rowL os)))
theorem rl_loop {F : FM} (hF : ∀ rs Q, F_wr rs Q → F rs Q) {a0 : Option Nv} {Ql : En → List DL.D → Prop} : ∀ (os : List (Option Nat)) (acc : List Str) (y : Option Nv), acc.length + os.length ≤ 2000 → (∀ o ∈ os, okE o) → (∀ y, Ql [a0, y] ((acc ++ os.map wN).map D.str)) →
    dLcL [1] (dName 1) dYes (dCall F (dCons (dKeep (dVar 1)) dNil)) (os.map optN) [a0, y] (acc.map D.str) Ql
  | [], acc, y, _, _, q => by
    have q := q y
    rw [List.map_nil, List.append_nil] at q
    exact q
  | o :: os, acc, y, h, ho, q => by
    rw [List.length_cons] at h
    refine s_iteT ?_
    refine ⟨rfl, hF _ _ ⟨o, rfl, ho o (List.mem_cons_self ..), ?_⟩⟩
    refine ⟨by rw [List.length_map]; unfold sizeLine; omega, ?_⟩
    have key := rl_loop hF (a0 := a0) (Ql := Ql) os (acc ++ [wN o]) none (by rw [List.length_append, List.length_singleton]; omega) (fun x hx => ho x (List.mem_cons_of_mem _ hx)) fun y => by
      have q := q y
      rw [List.map_cons] at q
      rw [List.append_assoc]
      exact q
    rw [List.map_append] at key
    exact key
theorem rl_body {F : FM} (hF : ∀ rs Q, F_wr rs Q → F rs Q) : ∀ rs Qd, F_rl rs Qd → bodyF 2 (m_row_line F) rs Qd := by
  rintro rs Qd ⟨os, rfl, hl, ho, q⟩
  unfold m_row_line
  show dRet _ _ [some (.val (.lst (os.map optN))), none]
  refine ⟨⟨_, rfl⟩, ?_⟩
  refine ⟨rfl, ?_⟩
  refine rl_loop hF os [] none (by rw [List.length_nil]; omega) ho fun y => ?_
  rw [List.nil_append]
  have hw : okWs 1000 9 (os.map wN) := ⟨by rw [List.length_map]; exact hl, fun w hw => by
    obtain ⟨o, h1, rfl⟩ := List.mem_map.mp hw
    exact wN_okW (ho o h1)⟩
  refine ⟨os.map wN, strsOf_map _, ?_, q⟩
  have := sum_len hw
  omega
theorem numL_big : ∀ (k n : Nat), 10 ^ k ≤ n → k < (TL.numL n).length
  | 0, n, _ => List.length_pos_iff.mpr (TL.numL_ne n)
  | k + 1, n, h => by
    have h10 : 10 ≤ n := Nat.le_trans (by rw [Nat.pow_succ]; have := Nat.one_le_two_pow (n := 0); have : 1 ≤ 10 ^ k := Nat.one_le_pow _ _ (by decide); omega) h
    rw [TL.numL_step h10, List.length_append, List.length_singleton]
    have := numL_big k (n / 10) (by rw [Nat.pow_succ] at h; omega)
    omega
theorem numL_lt9 {n : Nat} (h : (TL.numL n).length ≤ 9) : n < 10 ^ 9 := by
  rcases Nat.lt_or_ge n (10 ^ 9) with c | c
  · exact c
  · have := numL_big 9 n c
    omega
/-! what a row's words write -/
theorem entN_ok (w : Str) : okE (entN w) := by
  intro n h
  unfold entN at h
  split at h
  · cases h
  · obtain ⟨h1, h2, h3, h4⟩ := digsF_some h
    have e : TL.numL n = w.cps.toList := by
      rw [← h4]
      exact canon_num h3
    have hl : (TL.numL n).length ≤ 9 := by
      rw [e, ← str_len]
      exact h2
    exact numL_lt9 hl
theorem wN_ent {w : Str} (h : entOk w = true) : wN (entN w) = w := by
  unfold entN
  by_cases c : w = "-"
  · rw [if_pos c, c]
    rfl
  · rw [if_neg c]
    obtain ⟨v, hv⟩ := ent_int h c
    rw [hv]
    exact (digsF_some hv).1.symm
theorem row_back {k : Nat} {t : Str} (h : rowOk k t = true) : rowL ((Txt.split t " ").map entN) = t := by
  unfold rowOk at h
  rw [Bool.and_eq_true] at h
  unfold rowL
  rw [List.map_map]
  have e : (Txt.split t " ").map (wN ∘ entN) = Txt.split t " " := by
    have : ∀ ws : List Str, ws.all entOk = true → ws.map (wN ∘ entN) = ws := by
      intro ws
      induction ws with
      | nil => exact fun _ => rfl
      | cons w ws ih =>
        intro h
        rw [List.all_cons, Bool.and_eq_true] at h
        rw [List.map_cons, ih h.2]
        congr 1
        exact wN_ent h.1
    exact this _ h.1
  rw [e, join_of_split]
theorem lab_back {c k : Nat} {t : Str} (h : labOk c k t = true) : rowL ((Txt.split t " ").map (digsF 9)) = t ∧ ∀ w ∈ Txt.split t " ", ∃ v, digsF 9 w = some v := by
  unfold labOk at h
  rw [Bool.and_eq_true] at h
  have ex : ∀ w ∈ Txt.split t " ", ∃ v, digsF 9 w = some v := fun w hw => by
    have h1 := List.all_eq_true.mp h.1 w hw
    cases e : digsF 9 w with
    | none =>
      rw [labW9_none e] at h1
      cases h1
    | some v => exact ⟨v, rfl⟩
  refine ⟨?_, ex⟩
  unfold rowL
  rw [List.map_map]
  have e : (Txt.split t " ").map (wN ∘ digsF 9) = Txt.split t " " := by
    have : ∀ ws : List Str, (∀ w ∈ ws, ∃ v, digsF 9 w = some v) → ws.map (wN ∘ digsF 9) = ws := by
      intro ws
      induction ws with
      | nil => exact fun _ => rfl
      | cons w ws ih =>
        intro h
        rw [List.map_cons, ih fun x hx => h x (List.mem_cons_of_mem _ hx)]
        congr 1
        obtain ⟨v, hv⟩ := h w (List.mem_cons_self ..)
        show wN (digsF 9 w) = w
        rw [hv]
        exact (digsF_some hv).1.symm
    exact this _ ex
  rw [e, join_of_split]
theorem digs_okE (w : Str) : okE (digsF 9 w) := fun n h => by
  by_cases c : w = "-"
  · have e : digsF 9 ("-" : Str) = none := by decide +kernel
    rw [c, e] at h
    cases h
  · have := entN_ok w n
    unfold entN at this
    rw [if_neg c] at this
    exact this h
end G
end

section
set_option Elab.async false
set_option linter.all false
set_option maxRecDepth 100000
set_option maxHeartbeats 4000000
namespace G
open PySem PySem.Spec PyProof.Rows L2 DL
local macro_rules | `(tactic| walk_at "ok1") => `(tactic| first | exact okD_int _ | exact okD_bl _ | exact okD_non | exact okD_str (by assumption) | assumption)
local macro_rules | `(tactic| walk_at "go1") => `(tactic| ((conv => whnf); first
  | refine s_iteT ?_ | refine s_iteF ?_
  | refine ⟨⟨by walk_at "ok1", by walk_at "ok1"⟩, ?_⟩
  | refine ⟨_, rfl, ?_⟩
  | refine ⟨rfl, ?_⟩
  | refine ⟨Nat.le_of_ble_eq_true rfl, ?_⟩
  | refine ⟨_, isB_tuple (by assumption), ?_⟩
  | refine ⟨_, isB_list (by assumption), ?_⟩
  | refine ⟨_, isB_bool (by assumption), ?_⟩
  | refine ⟨_, isB_int (by assumption), ?_⟩
  | refine ⟨_, isB_str (by assumption), ?_⟩
  | refine ⟨_, by assumption, ?_⟩
  | refine s_ite1 (by assumption) ?_ | refine s_ite0 (by assumption) ?_))
local macro_rules | `(tactic| walk_at "go") => `(tactic| repeat walk_at "go1")
theorem lf_k (a b c d e : DL.D) : lookF "kind" fns [a, b, c, d, e] = some a := by
  show (if ("kind" : Str) == "kind" then some a else _) = _
  rw [if_pos (by decide +kernel)]
theorem lf_c (a b c d e : DL.D) : lookF "cost" fns [a, b, c, d, e] = some b := by
  show (if ("cost" : Str) == "kind" then some a else if ("cost" : Str) == "cost" then some b else _) = _
  rw [if_neg (by decide +kernel), if_pos (by decide +kernel)]
theorem lf_l (a b c d e : DL.D) : lookF "labels" fns [a, b, c, d, e] = some c := by
  show (if ("labels" : Str) == "kind" then some a else if ("labels" : Str) == "cost" then some b else if ("labels" : Str) == "labels" then some c else _) = _
  rw [if_neg (by decide +kernel), if_neg (by decide +kernel), if_pos (by decide +kernel)]
theorem lf_n (a b c d e : DL.D) : lookF "numbers" fns [a, b, c, d, e] = some d := by
  show (if ("numbers" : Str) == "kind" then some a else if ("numbers" : Str) == "cost" then some b else if ("numbers" : Str) == "labels" then some c else if ("numbers" : Str) == "numbers" then some d else _) = _
  rw [if_neg (by decide +kernel), if_neg (by decide +kernel), if_neg (by decide +kernel), if_pos (by decide +kernel)]
theorem lf_e (a b c d e : DL.D) : lookF "ends" fns [a, b, c, d, e] = some e := by
  show (if ("ends" : Str) == "kind" then some a else if ("ends" : Str) == "cost" then some b else if ("ends" : Str) == "labels" then some c else if ("ends" : Str) == "numbers" then some d else if ("ends" : Str) == "ends" then some e else _) = _
  rw [if_neg (by decide +kernel), if_neg (by decide +kernel), if_neg (by decide +kernel), if_neg (by decide +kernel), if_pos (by decide +kernel)]
theorem best_back {t : Str} (h : bestOk t = true) : ∃ v, costN t = some v ∧ v < 10 ^ 9 ∧ (Str.empty ++ ("best " : Str)) ++ numW v = t := by
  have h' : bestW (Txt.split t " ") = true := h
  unfold bestW at h'
  split at h'
  · rename_i w d e
    rw [Bool.and_eq_true] at h'
    obtain ⟨v, hv⟩ := Option.isSome_iff_exists.mp h'.2
    refine ⟨v, ?_, digs_okE d v hv, ?_⟩
    · unfold costN
      rw [e]
      exact hv
    · have hw : w = ("best" : Str) := beq_iff_eq.mp h'.1
      have hd := (digsF_some hv).1
      have ej := join_of_split t
      rw [e, hw, hd] at ej
      rw [← ej]
      refine TL.ext_tl ?_
      rw [tl_joined]
      have e1 : TL.tl ((Str.empty ++ ("best " : Str)) ++ numW v) = TL.tl (Str.empty ++ ("best " : Str)) ++ TL.tl (numW v) := TL.tl_append _ _
      have e2 : TL.tl (Str.empty ++ ("best " : Str)) = TL.tl ("best" : Str) ++ [32] := by decide +kernel
      rw [e1, e2]
      show _ = TL.tl ("best" : Str) ++ ([32] ++ TL.tl (numW v))
      rw [List.append_assoc]
  · cases h'
def headL : Option (Str × Str) → List Str
  | none => ["none"]
  | some (t, u) => [t, u]
theorem lin_head {c k m : Nat} {hd : Option (Str × Str)} {rows ts : List Str} (h : Lin c k m hd rows ts) : ts = headL hd ++ rows := by
  obtain ⟨_, _, h3⟩ := h
  cases hd with
  | none => exact h3
  | some tu => exact h3.2.2.2
def F_pl (a : Ad) : FM := fun rs Qd => ∃ (c k : Nat) (b : Bool) (hd : Option (Str × Str)) (rows ts : List Str), rs = [.val (readD a c k b hd rows)] ∧ Lin c k (manyR c k b) hd rows ts ∧ c ≤ 100 ∧ 1 ≤ k ∧ k ≤ 10 ∧ Qd (.own (ts.map D.str))
theorem rows_plines {F : FM} (hF : ∀ rs Q, F_rl rs Q → F rs Q) {k : Nat} {E : DEn} {a0 : Option Nv} {ls rows : List Str} (hl : ls.length ≤ 2) (hr : ∀ t ∈ rows, rowOk k t = true) (hk : k ≤ 10) (hn : rows.length ≤ 2000) (q : ∀ env, E.rt env (.own ((ls ++ rows).map D.str))) :
    (dRet (dOp mAdd (dVar 1) (dLc (dOver (dVar 2)) [4] (dName 4) dYes (dCall F (dCons (dKeep (dVar 4)) dNil))))) E [a0, some (.own (ls.map D.str)), some (.own (rows.map prow)), none, none] := by
  refine ⟨rfl, ?_⟩
  refine lc_map 4 _ (fun d => match d with
    | .lst l => .str (rowL (l.map fun x => match x with
      | .int i => some i.toNat
      | _ => none))
    | d => d) [a0, some (.own (ls.map D.str)), some (.val (.lst (rows.map prow))), none, none] (rows.map prow) [] none (by rw [List.length_map, List.length_nil]; unfold sizeLine; omega) (fun d hd Q q => ?_) fun y => ?_
  · obtain ⟨t, ht, rfl⟩ := List.mem_map.mp hd
    have e : (((Txt.split t " ").map entD).map fun x => match x with
      | .int i => some i.toNat
      | _ => none) = (Txt.split t " ").map entN := by
      rw [List.map_map]
      refine List.map_congr_left fun w _ => ?_
      show (match entD w with
        | .int i => some i.toNat
        | _ => none) = entN w
      unfold entD
      cases entN w with
      | none => rfl
      | some v => rfl
    have q : Q [a0, some (.own (ls.map D.str)), some (.val (.lst (rows.map prow))), none, some (.val (prow t))] (.val (.str (rowL (((Txt.split t " ").map entD).map fun x => match x with
      | .int i => some i.toNat
      | _ => none)))) := q
    rw [e] at q
    refine ⟨rfl, hF _ _ ⟨(Txt.split t " ").map entN, ?_, ?_, ?_, q⟩⟩
    · show [R.val (prow t)] = _
      unfold prow
      rw [List.map_map]
      rfl
    · rw [List.length_map, row_len (hr t ht)]
      omega
    · intro o ho
      obtain ⟨w, _, rfl⟩ := List.mem_map.mp ho
      exact entN_ok w
  · rw [List.nil_append]
    have e : ((rows.map prow).map fun d => match d with
      | DL.D.lst l => DL.D.str (rowL (l.map fun x => match x with
        | .int i => some i.toNat
        | _ => none))
      | d => d) = rows.map D.str := by
      rw [List.map_map]
      refine List.map_congr_left fun t ht => ?_
      show DL.D.str (rowL (((Txt.split t " ").map entD).map _)) = .str t
      have e : (((Txt.split t " ").map entD).map fun x => match x with
        | .int i => some i.toNat
        | _ => none) = (Txt.split t " ").map entN := by
        rw [List.map_map]
        refine List.map_congr_left fun w _ => ?_
        show (match entD w with
          | .int i => some i.toNat
          | _ => none) = entN w
        unfold entD
        cases entN w with
        | none => rfl
        | some v => rfl
      rw [e, row_back (hr t ht)]
    rw [e]
    refine ⟨?_, ?_⟩
    · show (ls.map D.str).length + (rows.map D.str).length ≤ sizeLine
      rw [List.length_map, List.length_map]
      unfold sizeLine
      omega
    · have q := q [a0, some (.own (ls.map D.str)), some (.val (.lst (rows.map prow))), none, none]
      rw [List.map_append] at q
      exact q
/-! the rows of a ring's paper, one after the other -/
theorem flat_in {a0 a1 a2 : Option Nv} {x3 : Option Nv} {nx : En → List DL.D → Prop} : ∀ (l acc : List DL.D) (y : Option Nv), acc.length + l.length ≤ 5000 → (∀ y, nx [a0, a1, a2, x3, y] (acc ++ l)) →
    dLc2I [4] (dName 4) (dVar 4) nx l [a0, a1, a2, x3, y] acc
  | [], acc, y, _, q => by
    have q := q y
    rw [List.append_nil] at q
    exact q
  | d :: l, acc, y, h, q => by
    rw [List.length_cons] at h
    refine ⟨by unfold sizeLine; omega, ?_⟩
    refine flat_in l (acc ++ [d]) none (by rw [List.length_append, List.length_singleton]; omega) fun y => ?_
    rw [List.append_assoc]
    exact q y
theorem flat_out {a0 a1 a2 : Option Nv} {Q : En → List DL.D → Prop} : ∀ (ls : List (List DL.D)) (acc : List DL.D), acc.length + ls.flatten.length ≤ 5000 → Q [a0, a1, a2, none, none] (acc ++ ls.flatten) →
    dLc2L [3, 4] [4] (dName 3) (dOver (dVar 3)) (dName 4) (dVar 4) Q (ls.map D.lst) [a0, a1, a2, none, none] acc
  | [], acc, _, q => by
    rw [List.flatten_nil, List.append_nil] at q
    exact q
  | l :: ls, acc, h, q => by
    rw [List.flatten_cons, List.length_append] at h
    refine flat_in l acc none (by omega) fun y => ?_
    refine flat_out ls (acc ++ l) (by rw [List.length_append]; omega) ?_
    rw [List.append_assoc]
    exact q
theorem chunk_flat (c : Nat) : ∀ (m : Nat) (rows : List Str), rows.length = m * c → ∃ ls : List (List DL.D), chunkD c m rows = ls.map D.lst ∧ ls.flatten = rows.map prow
  | 0, rows, h => by
    rw [Nat.zero_mul] at h
    rw [List.length_eq_zero_iff.mp h]
    exact ⟨[], rfl, rfl⟩
  | m + 1, rows, h => by
    rw [Nat.succ_mul] at h
    obtain ⟨ls, h1, h2⟩ := chunk_flat c m (rows.drop c) (by rw [List.length_drop]; omega)
    refine ⟨(rows.take c).map prow :: ls, ?_, ?_⟩
    · show DL.D.lst _ :: chunkD c m (rows.drop c) = _
      rw [h1]
      rfl
    · rw [List.flatten_cons, h2, ← List.map_append, List.take_append_drop]
theorem kind_ok : okD (.str "none") ∧ okD (.str "best") := ⟨okD_str (by decide +kernel), okD_str (by decide +kernel)⟩
theorem kind_ne : (("none" : Str) == "best") = false := by decide +kernel
theorem pl_body (a : Ad) {FR FW : FM} (hR : ∀ rs Q, F_rl rs Q → FR rs Q) (hW : ∀ rs Q, F_wr rs Q → FW rs Q) : ∀ rs Qd, F_pl a rs Qd → bodyF 5 (m_paper_lines a FR FW) rs Qd := by
  rintro rs Qd ⟨c, k, b, hd, rows, ts, rfl, hL, hc, hk1, hk, q⟩
  have hts := lin_head hL
  obtain ⟨hm, hrw, hh⟩ := hL
  have hlen : rows.length ≤ 1000 := by
    rw [hm]
    unfold manyR
    split
    · exact Nat.le_trans (Nat.mul_le_mul hc hk) (by decide)
    · omega
  unfold m_paper_lines
  -- the fields
  obtain ⟨N, E, hN, hdat⟩ : ∃ N E : List DL.D, readD a c k b hd rows = foundD a (kindH hd) (costH hd) (.lst (toldH hd)) (.lst N) (.lst E) ∧
      ((E = [] ∧ ∃ ls : List (List DL.D), N = ls.map D.lst ∧ ls.flatten = rows.map prow) ∨ (E ≠ [] ∧ N ++ [.lst E] = rows.map prow)) := by
    cases b with
    | true =>
      refine ⟨chunkD c k rows, [], rfl, .inl ⟨rfl, ?_⟩⟩
      refine chunk_flat c k rows ?_
      rw [hm]
      exact Nat.mul_comm c k
    | false =>
      have hm : rows.length = c + 1 := hm
      obtain ⟨t, ht⟩ : ∃ t, rows[c]? = some t := ⟨_, List.getElem?_eq_getElem (by omega)⟩
      have hg : rows.getD c "" = t := by rw [List.getD_eq_getElem?_getD, ht]; rfl
      refine ⟨(rows.take c).map prow, (Txt.split t " ").map entD, ?_, .inr ⟨?_, ?_⟩⟩
      · show foundD a _ _ _ _ (prow (rows.getD c "")) = _
        rw [hg]
        rfl
      · intro z
        have := row_len (hrw t (List.mem_of_getElem? ht))
        rw [List.map_eq_nil_iff] at z
        rw [z, List.length_nil] at this
        omega
      · have e : rows = rows.take c ++ [t] := by
          have e1 := getElem_drop ht
          rw [List.drop_of_length_le (show rows.length ≤ c + 1 by omega)] at e1
          rw [← e1, List.take_append_drop]
        conv => rhs; rw [e, List.map_append]
        rfl
  rw [hN]
  show dSeq _ _ _ [some (.val (foundD a (kindH hd) (costH hd) (.lst (toldH hd)) (.lst N) (.lst E))), none, none, none, none]
  have lits : ∃ ds : List DL.D, vals [R.val (.str "none")] = some ds ∧ ds.length ≤ sizeLine ∧ ds = [("none" : Str)].map D.str := ⟨_, rfl, by show 1 ≤ sizeLine; decide, rfl⟩
  have tail : ∀ y1, y1 = some (.own ((headL hd).map D.str)) → (dSeq (dIfS (dTru (dFld a.Found "ends" (dVar 0)))
  (dSet 2 (dLst (dStar (dFld a.Found "numbers" (dVar 0)) (dCons (dKeep (dFld a.Found "ends" (dVar 0))) dNil))))
  (dSet 2 (dLc2 (dOver (dFld a.Found "numbers" (dVar 0))) [3, 4] [4] (dName 3) (dOver (dVar 3)) (dName 4) (dVar 4))))
  (dRet (dOp mAdd (dVar 1) (dLc (dOver (dVar 2)) [4] (dName 4) dYes (dCall FR (dCons (dKeep (dVar 4)) dNil)))))) { nx := fun _ => Qd (.val .non), rt := fun _ r => Qd r } [some (.val (foundD a (kindH hd) (costH hd) (.lst (toldH hd)) (.lst N) (.lst E))), y1, none, none, none] := by
    rintro y1 rfl
    have hl2 : (headL hd).length ≤ 2 := by
      cases hd with
      | none => exact (by decide : 1 ≤ 2)
      | some tu => exact Nat.le_refl 2
    have fin : (dRet (dOp mAdd (dVar 1) (dLc (dOver (dVar 2)) [4] (dName 4) dYes (dCall FR (dCons (dKeep (dVar 4)) dNil))))) { nx := fun _ => Qd (.val .non), rt := fun _ r => Qd r } [some (.val (foundD a (kindH hd) (costH hd) (.lst (toldH hd)) (.lst N) (.lst E))), some (.own ((headL hd).map D.str)), some (.own (rows.map prow)), none, none] :=
      rows_plines hR hl2 hrw hk (by omega) fun env => by
        rw [← hts]
        exact q
    rcases hdat with ⟨rfl, ls, rfl, hf⟩ | ⟨hE, hf⟩
    · refine ⟨rfl, _, lf_e _ _ _ _ _, ?_⟩
      refine ⟨false, rfl, ?_⟩
      refine s_iteF ?_
      refine ⟨rfl, _, lf_n _ _ _ _ _, ?_⟩
      refine ⟨rfl, ?_⟩
      refine flat_out ls [] (by rw [hf, List.length_map, List.length_nil]; omega) ?_
      rw [List.nil_append, hf]
      exact fin
    · refine ⟨rfl, _, lf_e _ _ _ _ _, ?_⟩
      have et : truD (.lst E) = some true := by
        show some (!E.isEmpty) = some true
        cases E with
        | nil => exact absurd rfl hE
        | cons _ _ => rfl
      refine ⟨true, et, ?_⟩
      refine s_iteT ?_
      refine ⟨rfl, _, lf_n _ _ _ _ _, ?_⟩
      refine ⟨rfl, _, lf_e _ _ _ _ _, ?_⟩
      refine ⟨rows.map prow, ?_, by rw [List.length_map]; unfold sizeLine; omega, fin⟩
      have key : ∀ l : List DL.D, vals (l.map R.val ++ [R.val (.lst E)]) = some (l ++ [.lst E]) := by
        intro l
        induction l with
        | nil => rfl
        | cons d l ih =>
          show (vals (l.map R.val ++ [R.val (.lst E)])).map (d :: ·) = _
          rw [ih]
          rfl
      rw [← hf]
      exact key N
  obtain ⟨ds, v1, v2, v3⟩ := lits
  subst v3
  refine ⟨_, v1, v2, ?_⟩
  refine ⟨rfl, _, lf_k _ _ _ _ _, ?_⟩
  cases hd with
  | none =>
    refine ⟨⟨kind_ok.1, kind_ok.2⟩, ?_⟩
    show dIte (eqD (.str "none") (.str "best")) _ _
    rw [eqD_str, kind_ne]
    exact s_iteF (tail _ rfl)
  | some tu =>
    obtain ⟨t, u⟩ := tu
    obtain ⟨z1, z2, z3, z4⟩ := hh
    obtain ⟨v, hv, hv9, hb⟩ := best_back z2
    obtain ⟨hlb, hlx⟩ := lab_back z3
    refine ⟨⟨kind_ok.2, kind_ok.2⟩, ?_⟩
    show dIte (eqD (.str "best") (.str "best")) _ _
    rw [eqD_str, beq_self_eq_true]
    refine s_iteT ?_
    have e5 : (Str.empty ++ ("best " : Str)).length ≤ sizeLine := by decide +kernel
    refine ⟨e5, ?_⟩
    refine ⟨rfl, _, lf_c _ _ _ _ _, ?_⟩
    refine ⟨rfl, hW _ _ ⟨some v, ?_, fun n h => by cases h; exact hv9, ?_⟩⟩
    · show [R.val (optN (costN t))] = _
      rw [hv]
    have hnl : (wN (some v)).length ≤ 9 := (num_okW hv9).1
    refine ⟨by unfold sizeLine; omega, ?_⟩
    have e6 : ((Str.empty ++ ("best " : Str)) ++ wN (some v)).length ≤ sizeLine := by
      show ((Str.empty ++ ("best " : Str)) ++ numW v).length ≤ sizeLine
      rw [TL.len_tl, TL.tl_append, List.length_append, ← TL.len_tl, ← TL.len_tl]
      have : (Str.empty ++ ("best " : Str)).length = 5 := by decide +kernel
      have h9 : (numW v).length ≤ 9 := hnl
      rw [this]
      unfold sizeLine
      omega
    refine ⟨e6, ?_⟩
    refine ⟨rfl, _, lf_l _ _ _ _ _, ?_⟩
    refine ⟨rfl, hR _ _ ⟨(Txt.split u " ").map (digsF 9), ?_, ?_, ?_, ?_⟩⟩
    · show [R.val (.lst ((Txt.split u " ").map labD))] = _
      rw [List.map_map]
      rfl
    · rw [List.length_map, lab_len z3]
      omega
    · intro o ho
      obtain ⟨w, _, rfl⟩ := List.mem_map.mp ho
      exact digs_okE w
    rw [hlb]
    refine ⟨_, rfl, by show 2 ≤ sizeLine; decide, ?_⟩
    refine tail _ ?_
    show some (Nv.own [.str ((Str.empty ++ ("best " : Str)) ++ numW v), .str u]) = some (.own [.str t, .str u])
    rw [hb]
end G
end

section
set_option Elab.async false
set_option linter.all false
set_option maxRecDepth 100000
set_option maxHeartbeats 4000000
namespace G
open PySem PySem.Spec PyProof.Rows L2 DL
abbrev s_dr : Stmt := s_law_draw
theorem sc_dr : FnScope ["pool", "size", "cell", "value"] ["pool", "size"] (defScope s_dr) := ⟨rfl, rfl, rfl, by decide +kernel, rfl, by decide +kernel, by decide +kernel⟩
section
variable {P : Program} {w : World} {K : PySem.W.Frag} {mg : Str → Option Value} {base : Heap}
theorem dr_ok {f : Addr} {fd : FuncData} (F : Fun K "_law_draw" "_law_draw" s_dr f fd) (hlen : mg "len" = none) (hint : mg "int" = none) : FnOk P w K mg base CX0 1 f fd ["pool", "size"] (spF K 2 F_draw) := by
  refine draw_ok F sc_dr hlen hint fun cdv A outer s H0 E => ⟨_, Evl.pss_cut (ps_if (PW.pt (pw_and (pt_cmpR op_le (pe_ix ix_list (pv 0) pe_int (fun _ _ => rfl)) pe_int (nomark _))
      (pw_and (pt_cmpR op_le (pe_ix ix_list (pv 0) pe_int (fun _ _ => rfl)) pe_int (nomark _)) (pw_and1 (pt_cmpR op_lt (pe_ix ix_list (pv 0) pe_int (fun _ _ => rfl)) (pe_callB call_len_seq (by rfl) hlen PySem.boot_len (pa_cons (pe_ix ix_list (pv 0) pe_int (fun _ _ => rfl)) pa_nil)) (nomark _))))))
      (pss_cons (ps_set (i := 2) sc_dr.nd rfl (Or.inl rfl) (pe_ix ix_list (pe_ix ix_list (pv 0) pe_int (fun _ _ => rfl)) (pe_ix ix_list (pv 0) pe_int (fun _ _ => rfl)) (fun _ _ => rfl)))
      (pss_cons (ps_asg (pe_op op_add (pe_ix ix_list (pv 0) pe_int (fun _ _ => rfl)) pe_int) (pg_sub (pv 0) pe_int set_list))
      (pss_cons (ps_asg (pe_op op_mod (pe_callTy call_int1 (by rfl) hint (by decide +kernel) (pa_cons (pe_op op_add (pe_op op_mul (pe_ix ix_list (pv 0) pe_int (fun _ _ => rfl)) pe_int) (pv 2)) pa_nil)) pe_int) (pg_sub (pv 0) pe_int set_list))
      (pss_cons (ps_asg pe_int (pg_sub (pv 0) pe_int set_list))
      (pss_one (ps_if (pt_cmpR op_ge (pv 2) (pe_op op_pow pe_int pe_int) (nomark _)) (pss_one (ps_asg (pv 2) (pg_sub (pv 0) pe_int set_list))) pss_nil)))))) pss_nil)
    (pss_cons (ps_if (pt_cmpR op_gt (pe_ix ix_list (pv 0) pe_int (fun _ _ => rfl)) pe_int (nomark _))
      (pss_cons (ps_set (i := 3) sc_dr.nd rfl (Or.inl rfl) (pe_op op_mod (pe_callTy call_int1 (by rfl) hint (by decide +kernel) (pa_cons (pe_ix ix_list (pv 0) pe_int (fun _ _ => rfl)) pa_nil)) (pv 1)))
      (pss_cons (ps_asg (pe_op op_fdivW (pe_ix ix_list (pv 0) pe_int (fun _ _ => rfl)) (pv 1)) (pg_sub (pv 0) pe_int set_list))
      (pss_cons (ps_asg pe_int (pg_sub (pv 0) pe_int set_list)) (pss_one (ps_ret (pv 3)))))) pss_nil)
    (pss_cons (ps_asg (pe_op op_sub (pe_ix ix_list (pv 0) pe_int (fun _ _ => rfl)) pe_int) (pg_sub (pv 0) pe_int set_list))
    (pss_cons (ps_asg (pe_op op_mod (pe_callTy call_int1 (by rfl) hint (by decide +kernel) (pa_cons (pe_op op_add (pe_op op_mul (pe_ix ix_list (pv 0) pe_int (fun _ _ => rfl)) pe_int) pe_int) pa_nil)) pe_int) (pg_sub (pv 0) pe_int set_list))
    (pss_one (ps_ret (pe_op op_mod (pe_op op_mod (pe_callTy call_int1 (by rfl) hint (by decide +kernel) (pa_cons (pe_op op_add (pe_op op_mul (pe_ix ix_list (pv 0) pe_int (fun _ _ => rfl)) pe_int) pe_int) pa_nil)) pe_int) (pv 1))))))), ?_⟩
  intro H a l cells pos big seed cnt bud n D ha hl la hp hn hk
  have hn0 : 0 < n := hn.1
  refine ⟨fun σ' H' => ∃ (x : Option V) (pos big seed cnt : Int), σ' = [some (.ref a), some (.int n), x, none] ∧ 0 ≤ pos ∧ H' a = some (.lst (pl l pos big seed cnt bud)) ∧ ∀ o, upd H' a o = upd H a o, ?_, ?_⟩
  · have no : ∃ (x : Option V) (pos' big' seed' cnt' : Int), ([some (.ref a), some (.int n), none, none] : L2.St) = [some (.ref a), some (.int n), x, none] ∧ 0 ≤ pos' ∧ H a = some (.lst (pl l pos' big' seed' cnt' bud)) ∧ ∀ o, upd H a o = upd H a o := ⟨none, pos, big, seed, cnt, rfl, hp, ha, fun _ => rfl⟩
    refine rd_at rfl ha rfl ⟨_, _, rfl, rfl, _, rfl, ?_⟩
    refine ite2 (fun _ => ?_) fun _ => iteF no
    refine rd_at rfl ha rfl ⟨_, _, rfl, rfl, _, rfl, ?_⟩
    refine ite2 (fun _ => ?_) fun _ => iteF no
    refine rd_at rfl ha rfl ?_
    refine rd_at rfl ha rfl ⟨l, _, rfl, .inl (SqL.of hl), _, _, rfl, rfl, _, rfl, ?_⟩
    refine ite2 (fun h3 => ?_) fun _ => no
    have h3 : pos < (cells.length : Nat) := by
      have := of_decide_eq_true h3
      rwa [List.length_map] at this
    have hc : pos.toNat < cells.length := by omega
    refine rd_at rfl ha rfl ?_
    refine rd_at rfl ha rfl ⟨l, _, _, .int cells[pos.toNat], rfl, rfl, SqL.of hl, ?_, ?_⟩
    · unfold atI ixN
      rw [if_pos hp, if_pos (by rw [List.length_map]; exact h3)]
      show (cells.map V.int)[pos.toNat]? = _
      rw [List.getElem?_map, List.getElem?_eq_getElem hc]
      rfl
    generalize cells[pos.toNat] = c
    -- pool[1], pool[3], pool[4]
    refine rd_at rfl ha rfl ⟨_, _, rfl, rfl, ?_⟩
    refine ⟨_, rfl, a, _, _, 1, rfl, rfl, ha, rfl, ?_⟩
    refine rd_at rfl upd_same rfl ⟨_, _, rfl, rfl, .inr (by decide), ?_⟩
    refine ⟨_, rfl, _, _, rfl, rfl, .inl ⟨_, rfl, ?_⟩⟩
    refine ⟨_, _, rfl, rfl, (show (0 : Int) < 2147483647 by decide), ?_⟩
    refine ⟨_, rfl, a, _, _, 3, rfl, rfl, upd_same, rfl, ?_⟩
    refine ⟨_, rfl, a, _, _, 4, rfl, rfl, upd_same, rfl, ?_⟩
    refine ⟨_, rfl, _, _, rfl, rfl, (show CPow 10 18 from ⟨by decide, by decide, by decide⟩), _, _, rfl, rfl, _, rfl, ?_⟩
    rw [upd_upd, upd_upd]
    refine ite2 (fun _ => ?_) fun _ => ?_
    · refine ⟨_, rfl, _, rfl, a, _, _, 2, rfl, rfl, upd_same, rfl, ?_⟩
      rw [upd_upd]
      exact ⟨_, pos + 1, c, _, _, rfl, by omega, upd_same, fun o => upd_upd⟩
    · exact ⟨_, pos + 1, big, _, _, rfl, by omega, upd_same, fun o => upd_upd⟩
  · rintro σ' H' ⟨x, pos, big, seed, cnt, rfl, hp, ha', hu⟩
    refine rd_at rfl ha' rfl ⟨_, _, rfl, rfl, _, rfl, ?_⟩
    refine ite2 (fun _ => ?_) fun _ => ?_
    · refine rd_at rfl ha' rfl (.inl ⟨_, rfl, ?_⟩)
      refine ⟨_, rfl, _, _, rfl, rfl, hn0, ?_⟩
      refine rd_at rfl ha' rfl ⟨_, rfl, _, _, rfl, rfl, hn, ?_⟩
      refine ⟨_, rfl, a, _, _, 2, rfl, rfl, ha', rfl, ?_⟩
      refine ⟨_, rfl, a, _, _, 4, rfl, rfl, upd_same, rfl, ?_⟩
      refine ⟨_, rfl, ?_⟩
      rw [upd_upd, hu]
      exact hk _ _ _ _ _ (Int.emod_nonneg _ (by omega)) (Int.emod_lt_of_pos _ hn0) hp
    · refine rd_at rfl ha' rfl ⟨_, _, rfl, rfl, ?_⟩
      refine ⟨_, rfl, a, _, _, 4, rfl, rfl, ha', rfl, ?_⟩
      refine rd_at rfl upd_same rfl ⟨_, _, rfl, rfl, .inr (by decide), ?_⟩
      refine ⟨_, _, rfl, rfl, .inl ⟨_, rfl, ?_⟩⟩
      refine ⟨_, _, rfl, rfl, (show (0 : Int) < 2147483647 by decide), ?_⟩
      refine ⟨_, rfl, a, _, _, 3, rfl, rfl, upd_same, rfl, ?_⟩
      rw [upd_upd, hu]
      refine rd_at rfl upd_same rfl ⟨_, _, rfl, rfl, .inr (by decide), ?_⟩
      refine ⟨_, _, rfl, rfl, .inl ⟨_, rfl, ?_⟩⟩
      refine ⟨_, _, rfl, rfl, (show (0 : Int) < 2147483647 by decide), ?_⟩
      refine ⟨_, rfl, _, _, rfl, rfl, hn0, ?_⟩
      exact hk _ _ _ _ _ (Int.emod_nonneg _ (by omega)) (Int.emod_lt_of_pos _ hn0) hp
end
end G
end

section
set_option Elab.async false
set_option linter.all false
set_option maxRecDepth 100000
set_option maxHeartbeats 4000000
namespace G
open PySem PySem.Spec PyProof.Rows L2 DL
local macro_rules | `(tactic| walk_at "ok1") => `(tactic| first | exact okD_int _ | exact okD_bl _ | exact okD_non | exact okD_str (by assumption) | assumption)
local macro_rules | `(tactic| walk_at "go1") => `(tactic| ((conv => whnf); first
  | refine s_iteT ?_ | refine s_iteF ?_
  | refine ⟨⟨by walk_at "ok1", by walk_at "ok1"⟩, ?_⟩
  | refine ⟨_, rfl, ?_⟩
  | refine ⟨rfl, ?_⟩
  | refine ⟨_, isB_tuple (by assumption), ?_⟩
  | refine ⟨_, isB_list (by assumption), ?_⟩
  | refine ⟨_, isB_bool (by assumption), ?_⟩
  | refine ⟨_, isB_int (by assumption), ?_⟩
  | refine ⟨_, isB_str (by assumption), ?_⟩
  | refine ⟨_, by assumption, ?_⟩
  | refine s_ite1 (by assumption) ?_ | refine s_ite0 (by assumption) ?_))
local macro_rules | `(tactic| walk_at "go") => `(tactic| repeat walk_at "go1")

theorem same_loop {n : Nat} {F : FM} (hF : ∀ rs Qd, F_same n rs Qd → F rs Qd) {E : DEn} {x y : D} {la ld : List D} (hx : SqD x la) (hy : SqD y ld) (dx : isDat x = true) (tx : txtOk x) (dy : isDat y = true) (ty : txtOk y) (hl : la.length = ld.length) (hd : depDs ld < n)
    (hrt : ∀ env, sameDs la ld = false → E.rt env (.val (.bl false))) :
    ∀ (r k : Nat) (z : Option Nv), k + r = ld.length → (∀ (i : Nat) (u v : D), i < k → la[i]? = some u → ld[i]? = some v → sameD u v = true) →
      ((∀ (i : Nat) (u v : D), la[i]? = some u → ld[i]? = some v → sameD u v = true) → ∀ z, E.nx [some (.val x), some (.val y), z]) →
      dLoop (dName 2) (dIfS (dNot (dTru (dCall F (dCons (dKeep (dOp mIx (dVar 0) (dVar 2))) (dCons (dKeep (dOp mIx (dVar 1) (dVar 2))) dNil))))) (dRet (dC (.bl false))) dNext) E ((List.range' k r).map fun k : Nat => D.int (k : Int)) [some (.val x), some (.val y), z]
  | 0, k, z, hk, hs, hn => hn (fun i u v e1 e2 => hs i u v (by
      rcases Nat.lt_or_ge i ld.length with q | q
      · omega
      · rw [List.getElem?_eq_none q] at e2
        cases e2) e1 e2) z
  | r + 1, k, z, hk, hs, hn => by
    have h1 : k < la.length := by omega
    have h2 : k < ld.length := by omega
    have ea := List.getElem?_eq_getElem h1
    have ed := List.getElem?_eq_getElem h2
    revert ea ed
    generalize la[k] = u
    generalize ld[k] = v
    intro ea ed
    obtain ⟨da, ta⟩ := mIx_same hx dx tx
    obtain ⟨dd, td⟩ := mIx_same hy dy ty
    have hdv : depD v < n := Nat.lt_of_le_of_lt (depDs_get ed) hd
    refine hx.ix ea (hy.ix ed ⟨rfl, hF _ _ ⟨u, v, rfl, hdv, isDats_get da ea, txtOks_get ta ea, isDats_get dd ed, txtOks_get td ed, ?_⟩⟩)
    cases q : sameD u v with
    | false =>
      walk_at "go"
      refine hrt _ ?_
      cases q2 : sameDs la ld with
      | false => rfl
      | true => exact absurd ((sameDs_iff hl).1 q2 k u v ea ed) (by rw [q]; exact Bool.false_ne_true)
    | true =>
      walk_at "go"
      refine same_loop hF hx hy dx tx dy ty hl hd hrt r (k + 1) _ (by omega) (fun i u' v' hi e1 e2 => ?_) hn
      rcases Nat.lt_or_ge i k with q' | q'
      · exact hs i u' v' q' e1 e2
      · have : i = k := by omega
        subst this
        rw [ea] at e1
        rw [ed] at e2
        cases e1
        cases e2
        exact q
theorem same_body {n : Nat} {F : FM} (hF : ∀ rs Qd, F_same n rs Qd → F rs Qd) : ∀ rs Qd, F_same (n + 1) rs Qd → bodyF 3 (m_law_same F) rs Qd := by
  rintro rs Qd ⟨a, d, rfl, hd, da, ta, dd, td, q⟩
  unfold m_law_same
  show dSeq _ _ _ [some (.val a), some (.val d), none]
  cases d with
  | int i => cases a <;> first | exact absurd da Bool.false_ne_true | (walk_at "go"; exact q)
  | bl i => cases a <;> first | exact absurd da Bool.false_ne_true | (walk_at "go"; exact q)
  | str i => cases a <;> first | exact absurd da Bool.false_ne_true | (walk_at "go"; exact q) | (have ta2 : PyData.canLay0 _ = true := ta; have td2 : PyData.canLay0 _ = true := td; walk_at "go"; rw [eqD_str]; exact q)
  | non => cases a <;> first | exact absurd da Bool.false_ne_true | (walk_at "go"; exact q)
  | ins => exact absurd dd Bool.false_ne_true
  | any => exact absurd dd Bool.false_ne_true
  | err => exact absurd dd Bool.false_ne_true
  | scr => exact absurd dd Bool.false_ne_true
  | lst l =>
    have hd' : depDs l < n := by rw [depD] at hd; omega
    have h62 : (l.length : Int) < 2 ^ 62 := by have := td.1; unfold sizeLine at this; omega
    cases a <;> first
      | exact absurd da Bool.false_ne_true
      | (walk_at "go"; exact q)
      | (rename_i la
         have q' : Qd (R.val (D.bl (sameDs la l))) := q
         walk_at "go"
         refine dIte_of (fun e => ?_) (fun e => ?_)
         · walk_at "go"
           rw [sameDs_false (neLen.1 e)] at q'
           exact q'
         · have e := neLen'.1 e
           conv => whnf
           refine ⟨by omega, h62, ?_⟩
           show dLoop _ _ _ _ _
           rw [rangeD_nat']
           refine same_loop hF (.inl rfl) (.inl rfl) da ta dd td e hd' (fun env h => ?_) _ 0 none (by omega) (fun i u v hi => absurd hi (by omega)) (fun h z => ?_)
           · rw [h] at q'
             exact q'
           · walk_at "go"
             rw [(sameDs_iff e).2 h] at q'
             exact q')
  | tup l =>
    have hd' : depDs l < n := by rw [depD] at hd; omega
    have h62 : (l.length : Int) < 2 ^ 62 := by have := td.1; unfold sizeLine at this; omega
    cases a <;> first
      | exact absurd da Bool.false_ne_true
      | (walk_at "go"; exact q)
      | (rename_i la
         have q' : Qd (R.val (D.bl (sameDs la l))) := q
         walk_at "go"
         refine dIte_of (fun e => ?_) (fun e => ?_)
         · walk_at "go"
           rw [sameDs_false (neLen.1 e)] at q'
           exact q'
         · have e := neLen'.1 e
           conv => whnf
           refine ⟨by omega, h62, ?_⟩
           show dLoop _ _ _ _ _
           rw [rangeD_nat']
           refine same_loop hF (.inr rfl) (.inr rfl) da ta dd td e hd' (fun env h => ?_) _ 0 none (by omega) (fun i u v hi => absurd hi (by omega)) (fun h z => ?_)
           · rw [h] at q'
             exact q'
           · walk_at "go"
             rw [(sameDs_iff e).2 h] at q'
             exact q')
end G
end

section
set_option Elab.async false
set_option linter.all false
set_option maxRecDepth 100000
set_option maxHeartbeats 4000000
namespace DL
open PySem PySem.Spec PyProof.Rows L2
/-! ### data is the same as itself -/
mutual
theorem sameD_self : ∀ d : D, isDat d = true → sameD d d = true
  | .non, _ => by rw [sameD]
  | .bl b, _ => by rw [sameD, beq_self_eq_true]
  | .int i, _ => by rw [sameD, beq_self_eq_true]
  | .str x, _ => by rw [sameD, beq_self_eq_true]
  | .tup l, h => by
    rw [isDat] at h
    rw [sameD]
    exact sameDs_self l h
  | .lst l, h => by
    rw [isDat] at h
    rw [sameD]
    exact sameDs_self l h
  | .ins _ _ _, h => by
    rw [isDat] at h
    cases h
  | .any, h => by
    rw [isDat] at h
    cases h
  | .err _ _ _ _ _, h => by
    rw [isDat] at h
    cases h
  | .scr _, h => by
    rw [isDat] at h
    cases h
theorem sameDs_self : ∀ l : List D, isDats l = true → sameDs l l = true
  | [], _ => by rw [sameDs]
  | d :: l, h => by
    rw [isDats, Bool.and_eq_true] at h
    rw [sameDs, sameD_self d h.1, sameDs_self l h.2]
    rfl
end
theorem same_refl {n : Nat} {Qd : R → Prop} (d : D) (h : depD d < n) (h1 : isDat d = true) (h2 : txtOk d) (q : Qd (.val (.bl true))) : F_same n [.val d, .val d] Qd := by
  refine ⟨d, d, rfl, h, h1, h2, h1, h2, ?_⟩
  rw [sameD_self d h1]
  exact q
theorem isDats_of {l : List D} (h : ∀ d ∈ l, isDat d = true) : isDats l = true := by
  induction l with
  | nil => rw [isDats]
  | cons d l ih => rw [isDats, h d (List.mem_cons_self ..), ih fun x hx => h x (List.mem_cons_of_mem _ hx)]; rfl
theorem txtOks_of {l : List D} (h : ∀ d ∈ l, txtOk d) : txtOks l := by
  induction l with
  | nil => rw [txtOks]; trivial
  | cons d l ih => rw [txtOks]; exact ⟨h d (List.mem_cons_self ..), ih fun x hx => h x (List.mem_cons_of_mem _ hx)⟩
theorem depDs_of {l : List D} {k : Nat} (h : ∀ d ∈ l, depD d ≤ k) : depDs l ≤ k := by
  induction l with
  | nil => rw [depDs]; exact Nat.zero_le _
  | cons d l ih => rw [depDs]; exact Nat.max_le.mpr ⟨h d (List.mem_cons_self ..), ih fun x hx => h x (List.mem_cons_of_mem _ hx)⟩
theorem depD_str (x : Str) : depD (.str x) = 0 := by rw [depD] <;> (intros; contradiction)
theorem depD_int (x : Int) : depD (.int x) = 0 := by rw [depD] <;> (intros; contradiction)
theorem strs_data {ts : List Str} (hl : ts.length ≤ sizeLine) (h : ∀ t ∈ ts, PyData.canLay0 (.str t) = true) : isDat (.lst (ts.map D.str)) = true ∧ txtOk (.lst (ts.map D.str)) ∧ depD (.lst (ts.map D.str)) ≤ 1 := by
  refine ⟨?_, ?_, ?_⟩
  · rw [isDat]
    refine isDats_of fun d hd => ?_
    obtain ⟨t, _, rfl⟩ := List.mem_map.mp hd
    rw [isDat]
  · rw [txtOk]
    refine ⟨by rw [List.length_map]; exact hl, txtOks_of fun d hd => ?_⟩
    obtain ⟨t, ht, rfl⟩ := List.mem_map.mp hd
    rw [txtOk]
    exact h t ht
  · rw [depD]
    have : depDs (ts.map D.str) ≤ 0 := depDs_of fun d hd => by
      obtain ⟨t, _, rfl⟩ := List.mem_map.mp hd
      rw [depD_str]
      exact Nat.le_refl _
    omega
end DL
namespace L2
theorem FnOk.none {P : PySem.Program} {w : PySem.World} {K : PySem.W.Frag} {mg : PySem.Str → Option PySem.Value} {base : PySem.Heap} {CX : CXT} {k : Nat} {f : PySem.Addr} {fd : PySem.FuncData} {ps : List PySem.Str} {sp : Sp} (h : ∀ vs H Q E, ¬ sp vs H Q E) : FnOk P w K mg base CX k f fd ps sp :=
  ⟨fun vs H Q E z => (h _ _ _ _ z).elim, fun A outer s H args us vs Q E hr he hb hv hs => (h _ _ _ _ hs).elim⟩
end L2
namespace DL
open PySem PySem.Spec PyProof.Rows L2
theorem noFm {K : PySem.W.Frag} {n : Nat} {F : FM} (h : ∀ rs Qd, ¬ F rs Qd) : ∀ vs H Q E, ¬ spF K n F vs H Q E := fun vs H Q E ⟨S, pa, rs, Qd, h1, h2, h3, h4, h5, h6⟩ => h _ _ h5
end DL
end

section
set_option Elab.async false
set_option linter.all false
set_option maxRecDepth 100000
set_option maxHeartbeats 4000000
namespace G
open PySem PySem.Spec PyProof.Rows L2 DL
local macro_rules | `(tactic| walk_at "ok1") => `(tactic| first | exact okD_int _ | exact okD_bl _ | exact okD_non | exact okD_str (by assumption) | assumption)
local macro_rules | `(tactic| walk_at "go1") => `(tactic| ((conv => whnf); first
  | refine s_iteT ?_ | refine s_iteF ?_
  | refine ⟨⟨by walk_at "ok1", by walk_at "ok1"⟩, ?_⟩
  | refine ⟨_, rfl, ?_⟩
  | refine ⟨rfl, ?_⟩
  | refine ⟨Nat.le_of_ble_eq_true rfl, ?_⟩
  | refine ⟨_, isB_tuple (by assumption), ?_⟩
  | refine ⟨_, isB_list (by assumption), ?_⟩
  | refine ⟨_, isB_bool (by assumption), ?_⟩
  | refine ⟨_, isB_int (by assumption), ?_⟩
  | refine ⟨_, isB_str (by assumption), ?_⟩
  | refine ⟨_, by assumption, ?_⟩
  | refine s_ite1 (by assumption) ?_ | refine s_ite0 (by assumption) ?_))
local macro_rules | `(tactic| walk_at "go") => `(tactic| repeat walk_at "go1")
theorem lin_bad {c k m : Nat} {hd : Option (Str × Str)} {rows ts : List Str} (h : Lin c k m hd rows ts) : badF c k m ts = none := by
  obtain ⟨h1, h2, h3⟩ := h
  have key : ∀ (rows : List Str) (n m : Nat), rows.length = m → (∀ t ∈ rows, rowOk k t = true) → badRows k n rows m = none := by
    intro rows
    induction rows with
    | nil =>
      intro n m e _
      rw [← e]
      rfl
    | cons t rows ih =>
      intro n m e ha
      rw [← e, List.length_cons, badRows, if_pos (ha t (List.mem_cons_self ..))]
      exact ih (n + 1) _ rfl fun u hu => ha u (List.mem_cons_of_mem _ hu)
  cases hd with
  | none =>
    rw [show ts = ("none" : Str) :: rows from h3, badF_cons, if_pos (by decide +kernel)]
    exact key rows 1 m h1 h2
  | some tu =>
    obtain ⟨t, u⟩ := tu
    obtain ⟨z1, z2, z3, z4⟩ := h3
    rw [z4, badF_cons, if_neg z1, if_pos z2]
    show (if labOk c k u = true then badRows k 2 rows m else some 1) = none
    rw [if_pos z3]
    exact key rows 2 m h1 h2
/-! the pool made of a script; two numbers held against each other where an error is at hand -/
def F_pool : FM := fun rs Qd => ∃ (ns : List Int) (b : Int), rs = [.val (.scr ns), .val (.int b)] ∧ Qd (.own [.lst (ns.map D.int), .int 0, .int 0, .int 1, .int 0, .int b])
theorem pool_body : ∀ rs Qd, F_pool rs Qd → bodyF 2 m_law_pool rs Qd := by
  rintro rs Qd ⟨ns, b, rfl, q⟩
  unfold m_law_pool
  show dRet _ _ [some (.val _), some (.val _)]
  walk_at "go"
  exact q
def F_hot : FM := fun rs Qd => ∃ i j : Int, rs = [.val (.int i), .val (.int j)] ∧ Qd (.val (.bl (i == j)))
theorem hot_body : ∀ rs Qd, F_hot rs Qd → bodyF 3 mh_law_same rs Qd := by
  rintro rs Qd ⟨i, j, rfl, q⟩
  unfold mh_law_same
  show dSeq _ _ _ [some (.val _), some (.val _), none]
  walk_at "go"
  rw [← eqD_int] at q
  exact q
abbrev mlaw (K : PySem.W.Frag) (a : Ad) : DSM := m_law K a F_pool F_draw F_drawn F_chgP F_bad (F_pl a) (F_same 230) F_hot (F_lread a)
abbrev tl6 (K : PySem.W.Frag) (a : Ad) : DSM :=
  (dSeq (dSet 6 (dCall F_bad (dCons (dKeep (dVar 5)) (dCons (dKeep (dVar 4)) (dCons (dKeep (dVar 3)) (dCons (dKeep (dVar 2)) dNil))))))
  (dSeq (dTryG K (.ref a.e_ObjectError) 7 8 (F_pl a) (F_lread a) (dCons (dKeep (dVar 4)) (dCons (dKeep (dVar 3)) (dCons (dKeep (dCB mList (dCons (dVar 5) dNil))) (dCons (dKeep (dVar 2)) dNil)))) (fun e0 cls d =>
  (dSeq (dIfS (dOr (dNot (dTru (dIsErr e0 cls d a.x_BadPaper true 8))) (dOr (dNot (dTru (dIsErr e0 cls d a.x_BadPaper true 8))) (dTru (dIsErr e0 cls d a.x_BadPaper false 8))))
  (dRet (dC (.bl false)))
  dNext)
  (dRet (dAndV (dOp mIsN (dVar 6) (dC .non)) (dCall F_hot (dCons (dKeep (dErrF e0 cls d a.x_BadPaper "at" 8)) (dCons (dKeep (dVar 6)) dNil))))))))
  (dRet (dAndV (dOp mIs (dVar 6) (dC .non)) (dCall (F_same 230) (dCons (dKeep (dVar 7)) (dCons (dKeep (dVar 5)) dNil)))))))
theorem tl6_ok {K : PySem.W.Frag} {a : Ad} {E : DEn} {a0 : Option Nv} {c k : Nat} {b : Bool} {ts : List Str} {r5 : Nv} (q : ∀ env, E.rt env (.val (.bl true))) (hx : PySem.W.exmOne K (.ref a.x_BadPaper) (.ref a.e_ObjectError) = some true)
    (hc : c ≤ 10) (hk1 : 1 ≤ k) (hk : k ≤ 10) (hw : okWs 4000 3000 ts) (hr : wEnt ts r5) :
    tl6 K a E [a0, some .pool, some (.val (.bl b)), some (.val (.int (k : Int))), some (.val (.int (c : Int))), some r5, none, none, none] := by
  have hok : ∀ t ∈ ts, okW 4000 t := fun t ht => ⟨Nat.le_trans (hw.2 t ht).1 (by decide), (hw.2 t ht).2⟩
  have hlay : ∀ t ∈ ts, PyData.canLay0 (.str t) = true := fun t ht => okW_lay (hw.2 t ht)
  have hl : ts.length ≤ 10000 := Nat.le_trans hw.1 (by decide)
  obtain ⟨s1, s2, s3⟩ := strs_data (ts := ts) (by unfold sizeLine; omega) hlay
  have go : ∀ E : DEn, (∀ env, E.rt env (.val (.bl true))) → (dSeq (dTryG K (.ref a.e_ObjectError) 7 8 (F_pl a) (F_lread a) (dCons (dKeep (dVar 4)) (dCons (dKeep (dVar 3)) (dCons (dKeep (dCB mList (dCons (dVar 5) dNil))) (dCons (dKeep (dVar 2)) dNil)))) (fun e0 cls d =>
  (dSeq (dIfS (dOr (dNot (dTru (dIsErr e0 cls d a.x_BadPaper true 8))) (dOr (dNot (dTru (dIsErr e0 cls d a.x_BadPaper true 8))) (dTru (dIsErr e0 cls d a.x_BadPaper false 8))))
  (dRet (dC (.bl false)))
  dNext)
  (dRet (dAndV (dOp mIsN (dVar 6) (dC .non)) (dCall F_hot (dCons (dKeep (dErrF e0 cls d a.x_BadPaper "at" 8)) (dCons (dKeep (dVar 6)) dNil))))))))
  (dRet (dAndV (dOp mIs (dVar 6) (dC .non)) (dCall (F_same 230) (dCons (dKeep (dVar 7)) (dCons (dKeep (dVar 5)) dNil)))))) E [a0, some .pool, some (.val (.bl b)), some (.val (.int (k : Int))), some (.val (.int (c : Int))), some (.val (.lst (ts.map D.str))), some (.val (optN (badF c k (manyR c k b) ts))), none, none] := by
    intro E q
    refine ⟨rfl, c, k, b, ts, rfl, ⟨hl, hok⟩, by omega, hk, fun hd rows hL => ?_, fun n hn => ⟨hx, fun e0 dd => ?_⟩⟩
    · refine ⟨c, k, b, hd, rows, ts, rfl, hL, by omega, hk1, hk, ?_⟩
      rw [lin_bad hL]
      refine ⟨true, rfl, ?_⟩
      refine s_iteT ?_
      exact ⟨rfl, same_refl _ (by omega) s1 s2 (q _)⟩
    · rw [hn]
      refine ⟨⟨rfl, rfl, rfl⟩, true, rfl, s_iteF ?_⟩
      refine ⟨⟨rfl, rfl, rfl⟩, true, rfl, s_iteF ?_⟩
      refine ⟨⟨rfl, rfl, rfl⟩, false, rfl, s_iteF ?_⟩
      refine ⟨false, rfl, s_iteT ?_⟩
      refine ⟨⟨rfl, rfl, rfl, rfl⟩, rfl, (n : Int), (n : Int), rfl, ?_⟩
      rw [beq_self_eq_true]
      exact q _
  rcases hr with rfl | rfl
  · exact ⟨rfl, ts, c, k, b, rfl, hc, hk, hl, hok, go _ q⟩
  · exact ⟨rfl, ts, c, k, b, rfl, hc, hk, hl, hok, go _ q⟩
def F_law : FM := fun rs Qd => ∃ ns : List Int, rs = [.val (.scr ns)] ∧ Qd (.val (.bl true))
theorem law_body {K : PySem.W.Frag} {a : Ad} (hx : PySem.W.exmOne K (.ref a.x_BadPaper) (.ref a.e_ObjectError) = some true) : ∀ rs Qd, F_law rs Qd → bodyF 9 (mlaw K a) rs Qd := by
  rintro rs Qd ⟨ns, rfl, q⟩
  refine ⟨rfl, ns, 0, rfl, ?_⟩
  refine ⟨⟨ns, rfl⟩, Int.le_refl 0, rfl, ?_⟩
  refine ⟨rfl, 2, rfl, ⟨by decide, by decide +kernel⟩, fun r0 r1 r2 => ?_⟩
  refine ⟨⟨okD_int _, okD_int _⟩, ?_⟩
  refine ⟨[.int 4, .int 8], rfl, by show 2 ≤ sizeLine; decide, ?_⟩
  refine ⟨rfl, 4, rfl, ⟨by decide, by decide +kernel⟩, fun s0 s1 s2 => ?_⟩
  refine ⟨⟨okD_int _, okD_int _⟩, ?_⟩
  have hz : ∃ z : Nat, (z = 4 ∨ z = 8) ∧ atI ([.int 4, .int 8] : List DL.D) (if eqD (.int s0) (.int 0) = true then 1 else 0) = some (.int (z : Int)) := by
    cases eqD (.int s0) (.int 0) with
    | true => exact ⟨8, .inr rfl, DL.atI_nat (k := 1) rfl⟩
    | false => exact ⟨4, .inl rfl, DL.atI_nat (k := 0) rfl⟩
  obtain ⟨z, hz1, hz2⟩ := hz
  refine ⟨_, hz2, ?_⟩
  have hz3 : 0 < z ∧ z ≤ 8 := by omega
  refine ⟨rfl, (z : Int), rfl, lg' (by omega) hz3.1, fun l l1 l2 => ?_⟩
  obtain ⟨k, hk⟩ : ∃ k : Nat, (1 : Int) + l = (k : Int) := ⟨((1 : Int) + l).toNat, by omega⟩
  refine ⟨rfl, 4, rfl, ⟨by decide, by decide +kernel⟩, fun m m1 m2 => ?_⟩
  obtain ⟨c, hc⟩ : ∃ c : Nat, (1 : Int) + m = (c : Int) := ⟨((1 : Int) + m).toNat, by omega⟩
  show (dSet 5 (dCall F_chgP (dCons (dKeep (dVar 1)) (dCons (dKeep (dOp mIx (dCall F_drawn (dCons (dKeep (dVar 1)) (dCons (dKeep (dVar 4)) (dCons (dKeep (dVar 3)) (dCons (dKeep (dVar 2)) dNil))))) (dC (.int 0)))) dNil)))) _ [some (.val (.scr ns)), some .pool, some (.val (.bl (eqD (.int r0) (.int 1)))), some (.val (.int ((1 : Int) + l))), some (.val (.int ((1 : Int) + m))), none, none, none, none]
  rw [hk, hc]
  refine ⟨rfl, c, k, eqD (.int r0) (.int 1), rfl, by omega, by omega, by omega, fun ls d hls => ?_⟩
  refine ⟨_, DL.atI_nat (k := 0) rfl, ?_⟩
  refine ⟨rfl, ls, rfl, hls, fun vs hvs => ⟨?_, ?_⟩⟩
  · exact tl6_ok (fun _ => q) hx (by omega) (by omega) (by omega) hvs (.inl rfl)
  · exact tl6_ok (fun _ => q) hx (by omega) (by omega) (by omega) hvs (.inr rfl)
end G
end

section
set_option Elab.async false
set_option linter.all false
set_option maxRecDepth 100000
set_option maxHeartbeats 4000000
namespace G
open PySem PySem.Spec PyProof.Rows L2 DL
open Evl (Ex)
section
variable {P : Program} {w : World} {K : PySem.W.Frag} {mg : Str → Option Value} {base : Heap} {a : Ad}
abbrev PP := PySem.Challenge.pw_someobjects_k71_whole_papers_are_read_ex
theorem FnHimp {CX : CXT} {k : Nat} {f : Addr} {fd : FuncData} {ps : List Str} {sp sp' : Sp} (h : ∀ vs H Q E, sp' vs H Q E → sp vs H Q E) (F : L2H.FnH P w K mg base CX k f fd ps sp) : L2H.FnH P w K mg base CX k f fd ps sp' :=
  ⟨fun vs H Q E z => F.len vs H Q E (h vs H Q E z), fun A outer s H args us vs Q E p h1 h2 h3 h4 h5 h6 h7 => F.run A outer s H args us vs Q E p h1 h2 h3 h4 h5 h6 (h vs H Q E h7)⟩
theorem draw_okT (T : Tx K mg a) : FnOk P w K mg base CX0 1 a.f_law_draw a.d_law_draw ["pool", "size"] (spF K 2 F_draw) := dr_ok T.f_law_draw.fn T.n_len T.n_int
theorem pool_ok (T : Tx K mg a) : FnOk P w K mg base CX0 1 a.f_law_pool a.d_law_pool ["script", "budget"] (spF K 2 F_pool) := (b_law_pool T (k := 0)).imp (spF.imp pool_body)
theorem hot_ok (T : Tx K mg a) {k : Nat} : L2H.FnH P w K mg base CX0 (k + 1) a.f_law_same a.d_law_same ["actual", "due"] (spF K 2 F_hot) := FnHimp (spF.imp hot_body) (hb_law_same T (k := k))
theorem same_ok (T : Tx K mg a) : ∀ k, FnOk P w K mg base CX0 k a.f_law_same a.d_law_same ["actual", "due"] (spF K 2 (F_same k))
  | 0 => .none (noFm fun rs Qd ⟨a, d, _, h, _⟩ => by omega)
  | k + 1 => (b_law_same T (same_ok T k)).imp (spF.imp (same_body fun _ _ h => h))
theorem text_ok (T : Tx K mg a) : FnOk P w K mg base CX0 1 a.f_law_text a.d_law_text ["row"] (spF K 1 F_line) := (b_law_text T (k := 0)).imp (spF.imp line_body)
theorem entry_ok (T : Tx K mg a) : FnOk P w K mg base CX0 2 a.f_law_entry a.d_law_entry ["pool"] (spF K 1 F_entry) := (b_law_entry T (draw_okT T)).imp (spF.imp (entry_body fun _ _ h => h))
theorem drawn_ok (T : Tx K mg a) : FnOk P w K mg base CX0 3 a.f_law_drawn a.d_law_drawn ["pool", "count", "labels", "ring"] (spF K 4 F_drawn) := (b_law_drawn T ((draw_okT T).up (by decide)) ((text_ok T).up (by decide)) (entry_ok T)).imp (spF.imp drawn_body)
theorem digs_ok (T : Tx K mg a) : FnOk P w K mg base CX0 1 a.f_law_digits a.d_law_digits ["word", "most"] (spF K 2 F_digs) := (b_law_digits T (k := 0)).imp (spF.imp digs_body)
theorem bad_ok (T : Tx K mg a) : FnOk P w K mg base CX0 2 a.f_law_bad a.d_law_bad ["lines", "count", "labels", "ring"] (spF K 4 F_bad) := (b_law_bad T (digs_ok T)).imp (spF.imp bad_body)
theorem menu_ok (T : Tx K mg a) : FnOk P w K mg base CX0 2 a.f_law_menu a.d_law_menu ["pool", "words"] (spF K 2 F_menu) := (b_law_menu T (draw_okT T)).imp (spF.imp (menu_body fun _ _ h => h))
theorem chg_ok (T : Tx K mg a) : FnOk P w K mg base CX0 3 a.f_law_changed a.d_law_changed ["pool", "lines"] (spF K 2 F_chgP) := (b_law_changed T ((draw_okT T).up (by decide)) (menu_ok T)).imp (spF.imp chgP_body)
theorem wr_ok (T : Tx K mg a) : FnOk P w K mg base CX0 1 a.f_written a.d_written ["number"] (spF K 1 F_wr) := (b_written T (k := 0)).imp (spF.imp wr_body)
theorem rl_ok (T : Tx K mg a) : FnOk P w K mg base CX0 2 a.f_row_line a.d_row_line ["row"] (spF K 1 F_rl) := (b_row_line T (wr_ok T)).imp (spF.imp (rl_body fun _ _ h => h))
theorem pl_ok (T : Tx K mg a) : FnOk P w K mg base CX0 3 a.f_paper_lines a.d_paper_lines ["found"] (spF K 1 (F_pl a)) := (b_paper_lines T (rl_ok T) ((wr_ok T).up (by decide))).imp (spF.imp (pl_body a (fun _ _ h => h) fun _ _ h => h))
theorem cop_ok (T : Tx K mg a) : ∀ n, FnOk P w K mg base CX0 (n + 1) a.f_copied a.d_copied ["rows"] (spF K 1 (F_cop n))
  | 0 => (b_copied T (k := 0) (F_copied := fun _ _ => False) (.none (noFm fun rs Qd h => h))).imp (spF.imp (cop_body 0 fun j e => by omega))
  | n + 1 => (b_copied T (cop_ok T n)).imp (spF.imp (cop_body (n + 1) fun j e rs Q h => by cases e; exact h))
theorem finit_ok (T : Tx K mg a) : FnOk PP w K mg base (L2N.CX PP w) 4 a.f_Found_initdd a.d_Found_initdd ["self", "kind", "cost", "labels", "numbers", "ends"] (spM K 6 (F_finit a)) := (b_Found_initdd T (cop_ok T 2)).imp (spM.imp (finit_body a fun _ _ h => h))
theorem need_ok (T : Tx K mg a) : FnOk PP w K mg base (L2N.CX PP w) 1 a.f_Lines_need a.d_Lines_need ["self", "holds"] (spM K 2 (F_need a)) := (b_Lines_need T (k := 0)).imp (spM.imp (need_body a))
theorem linit_ok (T : Tx K mg a) : FnOk PP w K mg base (L2N.CX PP w) 1 a.f_Lines_initdd a.d_Lines_initdd ["self", "lines"] (spM K 2 (F_linit a)) := (b_Lines_initdd T (k := 0)).imp (spM.imp (linit_body a))
theorem take_ok (T : Tx K mg a) : FnOk PP w K mg base (L2N.CX PP w) 2 a.f_Lines_take a.d_Lines_take ["self"] (spM K 1 (F_take a)) := (b_Lines_take T (need_ok T)).imp (spM.imp (take_body a fun _ _ _ _ h => h))
theorem finish_ok (T : Tx K mg a) : FnOk PP w K mg base (L2N.CX PP w) 2 a.f_Lines_finish a.d_Lines_finish ["self"] (spM K 1 (F_finish a)) := (b_Lines_finish T (need_ok T)).imp (spM.imp (finish_body a fun _ _ _ _ h => h))
theorem isnum_ok (T : Tx K mg a) : FnOk P w K mg base CX0 1 a.f_is_number a.d_is_number ["word"] (spF K 1 F_isnum) := (b_is_number T (k := 0)).imp (spF.imp isnum_body)
theorem row_okT (T : Tx K mg a) : FnOk PP w K mg base (L2N.CX PP w) 3 a.f_Lines_row a.d_Lines_row ["self", "labels"] (spM K 2 (F_row a)) := (b_Lines_row T ((isnum_ok T).up (by decide)) (take_ok T) ((need_ok T).up (by decide))).imp (spM.imp (row_body a (fun _ _ h => h) (fun _ _ _ _ h => h) fun _ _ _ _ h => h))
theorem labs_ok (T : Tx K mg a) : FnOk PP w K mg base (L2N.CX PP w) 3 a.f_Lines_labels_told a.d_Lines_labels_told ["self", "count", "labels"] (spM K 3 (F_labs a)) := (b_Lines_labels_told T ((isnum_ok T).up (by decide)) (take_ok T) ((need_ok T).up (by decide))).imp (spM.imp (labs_body a (fun _ _ h => h) (fun _ _ _ _ h => h) fun _ _ _ _ h => h))
theorem head_okT (T : Tx K mg a) : FnOk PP w K mg base (L2N.CX PP w) 4 a.f_Lines_head a.d_Lines_head ["self", "count", "labels"] (spM K 3 (F_head a)) := (b_Lines_head T ((isnum_ok T).up (by decide)) ((take_ok T).up (by decide)) ((need_ok T).up (by decide)) (labs_ok T)).imp (spM.imp (head_body a (fun _ _ h => h) (fun _ _ _ _ h => h) (fun _ _ _ _ h => h) fun _ _ _ _ h => h))
theorem rows_okT (T : Tx K mg a) : FnOk PP w K mg base (L2N.CX PP w) 4 a.f_Lines_rows a.d_Lines_rows ["self", "count", "labels"] (spM K 3 (F_rows a)) := (b_Lines_rows T (row_okT T)).imp (spM.imp (rows_body a fun _ _ _ _ h => h))
theorem rp_ok (T : Tx K mg a) : FnOk PP w K mg base (L2N.CX PP w) 6 a.f_read_paper a.d_read_paper ["count", "labels", "lines"] (spE K 3 (F_rp a)) :=
  (b_read_paper T (k := 4) ((head_okT T).up (by decide)) ((rows_okT T).up (by decide)) ((row_okT T).up (by decide)) ((finish_ok T).up (by decide)) ((linit_ok T).up (by decide)) (finit_ok T)).imp (spE.imp (rp_body a (fun _ _ _ _ h => h) (fun _ _ _ _ h => h) (fun _ _ _ _ h => h) (fun _ _ _ _ h => h) (fun _ _ _ _ h => h) fun _ _ _ _ h => h))
theorem rg_ok (T : Tx K mg a) : FnOk PP w K mg base (L2N.CX PP w) 6 a.f_read_ring_paper a.d_read_ring_paper ["count", "labels", "lines"] (spE K 3 (F_rg a)) :=
  (b_read_ring_paper T (k := 4) ((head_okT T).up (by decide)) ((rows_okT T).up (by decide)) ((finish_ok T).up (by decide)) ((linit_ok T).up (by decide)) (finit_ok T)).imp (spE.imp (rg_body a (fun _ _ _ _ h => h) (fun _ _ _ _ h => h) (fun _ _ _ _ h => h) (fun _ _ _ _ h => h) fun _ _ _ _ h => h))
theorem lread_ok (T : Tx K mg a) : FnOk PP w K mg base (L2N.CX PP w) 7 a.f_law_read a.d_law_read ["count", "labels", "lines", "ring"] (spE K 4 (F_lread a)) := (b_law_read T (rg_ok T) (rp_ok T)).imp (spE.imp (lread_body a (fun _ _ _ h => h) fun _ _ _ h => h))
end
def spLaw (K : PySem.W.Frag) : Sp := fun vs H Q _ => ∃ (a : Addr) (ns : List Int), vs = [.ref a] ∧ SqL K H a (ns.map V.int) ∧ ∀ H', Q (.bl true) H'
theorem law_ok {w : World} {K : PySem.W.Frag} {mg : Str → Option Value} {base : Heap} {a : Ad} (T : Tx K mg a) : FnOk PP w K mg base CX0 231 a.f_law a.d_law ["script"] (spLaw K) := by
  have key := (b_law (w := w) (base := base) T (k := 230) ((pool_ok T).up (by decide)) ((draw_okT T).up (by decide)) ((drawn_ok T).up (by decide)) ((chg_ok T).up (by decide)) ((bad_ok T).up (by decide)) ((pl_ok T).up (by decide)) (same_ok T 230) (hot_ok T) ((lread_ok T).up (by decide))).imp (spF.imp (F' := F_law) (law_body T.exo_BadPaper_ObjectError))
  refine key.imp fun vs H Q E ⟨p, ns, e, hS, q⟩ => ?_
  subst e
  refine ⟨H, none, [.val (.scr ns)], fun r => r = .val (.bl true), Ex.refl _, (fun _ z => by cases z), .val (.scr hS) .nil, rfl, ⟨ns, rfl, rfl⟩, fun v H' S' r d hr => ?_⟩
  subst hr
  have z := d.ret
  have z : Rep K S' v (.bl true) := z
  cases z
  exact q H'
end G
end

section
set_option Elab.async false
set_option linter.all false
set_option maxRecDepth 100000
set_option maxHeartbeats 4000000
namespace G
open PySem PySem.Spec PySem.W PyProof.Rows L2 DL
theorem all_mk {w : World} {K : PySem.W.Frag} {h : Heap} {mg : Str → Option Value} {fa : Addr} (X : K.In h) (G : h.Ns mainGlobals mg) (hfa : mg "law" = some (.ref fa))
    {od_copied an_copied : Option Addr} {sl_copied : Array (Option Value)} {oc_copied kV_copied dc_copied pm_copied cd_copied ct_copied : Value} {f_copied : Addr} {od_Found_initdd an_Found_initdd : Option Addr} {sl_Found_initdd : Array (Option Value)} {oc_Found_initdd kV_Found_initdd dc_Found_initdd pm_Found_initdd cd_Found_initdd ct_Found_initdd : Value} {f_Found_initdd : Addr} {od_paper_lines an_paper_lines : Option Addr} {sl_paper_lines : Array (Option Value)} {oc_paper_lines kV_paper_lines dc_paper_lines pm_paper_lines cd_paper_lines ct_paper_lines : Value} {f_paper_lines : Addr} {od_row_line an_row_line : Option Addr} {sl_row_line : Array (Option Value)} {oc_row_line kV_row_line dc_row_line pm_row_line cd_row_line ct_row_line : Value} {f_row_line : Addr} {od_written an_written : Option Addr} {sl_written : Array (Option Value)} {oc_written kV_written dc_written pm_written cd_written ct_written : Value} {f_written : Addr} {od_read_paper an_read_paper : Option Addr} {sl_read_paper : Array (Option Value)} {oc_read_paper kV_read_paper dc_read_paper pm_read_paper cd_read_paper ct_read_paper : Value} {f_read_paper : Addr} {od_Lines_head an_Lines_head : Option Addr} {sl_Lines_head : Array (Option Value)} {oc_Lines_head kV_Lines_head dc_Lines_head pm_Lines_head cd_Lines_head ct_Lines_head : Value} {f_Lines_head : Addr} {od_Lines_rows an_Lines_rows : Option Addr} {sl_Lines_rows : Array (Option Value)} {oc_Lines_rows kV_Lines_rows dc_Lines_rows pm_Lines_rows cd_Lines_rows ct_Lines_rows : Value} {f_Lines_rows : Addr} {od_Lines_row an_Lines_row : Option Addr} {sl_Lines_row : Array (Option Value)} {oc_Lines_row kV_Lines_row dc_Lines_row pm_Lines_row cd_Lines_row ct_Lines_row : Value} {f_Lines_row : Addr} {od_Lines_finish an_Lines_finish : Option Addr} {sl_Lines_finish : Array (Option Value)} {oc_Lines_finish kV_Lines_finish dc_Lines_finish pm_Lines_finish cd_Lines_finish ct_Lines_finish : Value} {f_Lines_finish : Addr} {od_Lines_initdd an_Lines_initdd : Option Addr} {sl_Lines_initdd : Array (Option Value)} {oc_Lines_initdd kV_Lines_initdd dc_Lines_initdd pm_Lines_initdd cd_Lines_initdd ct_Lines_initdd : Value} {f_Lines_initdd : Addr} {od_read_ring_paper an_read_ring_paper : Option Addr} {sl_read_ring_paper : Array (Option Value)} {oc_read_ring_paper kV_read_ring_paper dc_read_ring_paper pm_read_ring_paper cd_read_ring_paper ct_read_ring_paper : Value} {f_read_ring_paper : Addr} {od_Lines_take an_Lines_take : Option Addr} {sl_Lines_take : Array (Option Value)} {oc_Lines_take kV_Lines_take dc_Lines_take pm_Lines_take cd_Lines_take ct_Lines_take : Value} {f_Lines_take : Addr} {od_Lines_need an_Lines_need : Option Addr} {sl_Lines_need : Array (Option Value)} {oc_Lines_need kV_Lines_need dc_Lines_need pm_Lines_need cd_Lines_need ct_Lines_need : Value} {f_Lines_need : Addr} {od_is_number an_is_number : Option Addr} {sl_is_number : Array (Option Value)} {oc_is_number kV_is_number dc_is_number pm_is_number cd_is_number ct_is_number : Value} {f_is_number : Addr} {od_Lines_labels_told an_Lines_labels_told : Option Addr} {sl_Lines_labels_told : Array (Option Value)} {oc_Lines_labels_told kV_Lines_labels_told dc_Lines_labels_told pm_Lines_labels_told cd_Lines_labels_told ct_Lines_labels_told : Value} {f_Lines_labels_told : Addr} {od_law_pool an_law_pool : Option Addr} {sl_law_pool : Array (Option Value)} {oc_law_pool kV_law_pool dc_law_pool pm_law_pool cd_law_pool ct_law_pool : Value} {f_law_pool : Addr} {od_law_draw an_law_draw : Option Addr} {sl_law_draw : Array (Option Value)} {oc_law_draw kV_law_draw dc_law_draw pm_law_draw cd_law_draw ct_law_draw : Value} {f_law_draw : Addr} {od_law_same an_law_same : Option Addr} {sl_law_same : Array (Option Value)} {oc_law_same kV_law_same dc_law_same pm_law_same cd_law_same ct_law_same : Value} {f_law_same : Addr} {od_law_text an_law_text : Option Addr} {sl_law_text : Array (Option Value)} {oc_law_text kV_law_text dc_law_text pm_law_text cd_law_text ct_law_text : Value} {f_law_text : Addr} {od_law_entry an_law_entry : Option Addr} {sl_law_entry : Array (Option Value)} {oc_law_entry kV_law_entry dc_law_entry pm_law_entry cd_law_entry ct_law_entry : Value} {f_law_entry : Addr} {od_law_drawn an_law_drawn : Option Addr} {sl_law_drawn : Array (Option Value)} {oc_law_drawn kV_law_drawn dc_law_drawn pm_law_drawn cd_law_drawn ct_law_drawn : Value} {f_law_drawn : Addr} {od_law_read an_law_read : Option Addr} {sl_law_read : Array (Option Value)} {oc_law_read kV_law_read dc_law_read pm_law_read cd_law_read ct_law_read : Value} {f_law_read : Addr} {od_law_digits an_law_digits : Option Addr} {sl_law_digits : Array (Option Value)} {oc_law_digits kV_law_digits dc_law_digits pm_law_digits cd_law_digits ct_law_digits : Value} {f_law_digits : Addr} {od_law_bad an_law_bad : Option Addr} {sl_law_bad : Array (Option Value)} {oc_law_bad kV_law_bad dc_law_bad pm_law_bad cd_law_bad ct_law_bad : Value} {f_law_bad : Addr} {od_law_menu an_law_menu : Option Addr} {sl_law_menu : Array (Option Value)} {oc_law_menu kV_law_menu dc_law_menu pm_law_menu cd_law_menu ct_law_menu : Value} {f_law_menu : Addr} {od_law_changed an_law_changed : Option Addr} {sl_law_changed : Array (Option Value)} {oc_law_changed kV_law_changed dc_law_changed pm_law_changed cd_law_changed ct_law_changed : Value} {f_law_changed : Addr} {od_law an_law : Option Addr} {sl_law : Array (Option Value)} {oc_law kV_law dc_law pm_law cd_law ct_law : Value} {f_law : Addr} {t_DIGITS : Tok} {t_MOST_DIGITS : Tok} {Lines : Addr} {Found : Addr} {x_BadPaper : Addr} {x_BadMachine : Addr} {x_BadRule : Addr} {x_BadText : Addr} {x_TooLarge : Addr} {e_ObjectError : Addr} {i_BadPaper : Addr} {nm_BadPaper q_BadPaper : Str} {N_BadPaper : Addr} {bs_BadPaper bm_BadPaper : List Value} {sn_BadPaper : List Str} {sub_BadPaper : List Value} {ab_BadPaper : Bool} {col_BadPaper : Option Bool} {dd_BadPaper : Option Addr} {m0_BadPaper m1_BadPaper m2_BadPaper m3_BadPaper m5_BadPaper : Option Value} {xoc_BadPaper xdoc_BadPaper xpm_BadPaper xct_BadPaper ccl_BadPaper xcl_BadPaper : Value} {xod_BadPaper xan_BadPaper cdd_BadPaper cld_BadPaper : Option Addr} {xqu_BadPaper : Str} {cda_BadPaper cc_BadPaper : Addr} {osl_BadPaper ccs_BadPaper csl_BadPaper : Array (Option Value)} {vs_BadPaper : Array Value} {file_BadPaper : Str} {tf_BadPaper : Tok} {p1_BadPaper p2_BadPaper p0_BadPaper p1a_BadPaper p2a_BadPaper p3_BadPaper p4_BadPaper p5_BadPaper p6_BadPaper p7_BadPaper p8_BadPaper q1_BadPaper q2_BadPaper q3_BadPaper q4_BadPaper : Pos}
    (n_ValueError : PySem.W.nsIn K mainGlobals "ValueError" = some none)
    (n_all : PySem.W.nsIn K mainGlobals "all" = some none)
    (n_bool : PySem.W.nsIn K mainGlobals "bool" = some none)
    (n_int : PySem.W.nsIn K mainGlobals "int" = some none)
    (n_isinstance : PySem.W.nsIn K mainGlobals "isinstance" = some none)
    (n_len : PySem.W.nsIn K mainGlobals "len" = some none)
    (n_list : PySem.W.nsIn K mainGlobals "list" = some none)
    (n_max : PySem.W.nsIn K mainGlobals "max" = some none)
    (n_range : PySem.W.nsIn K mainGlobals "range" = some none)
    (n_str : PySem.W.nsIn K mainGlobals "str" = some none)
    (n_super : PySem.W.nsIn K mainGlobals "super" = some none)
    (n_tuple : PySem.W.nsIn K mainGlobals "tuple" = some none)
    (c_DIGITS : PySem.W.nsIn K mainGlobals "DIGITS" = some (some (.str "0123456789" t_DIGITS)))
    (c_MOST_DIGITS : PySem.W.nsIn K mainGlobals "MOST_DIGITS" = some (some (.int 9 t_MOST_DIGITS)))
    (gC_Lines : PySem.W.nsIn K mainGlobals "Lines" = some (some (.ref Lines)))
    (gC_Found : PySem.W.nsIn K mainGlobals "Found" = some (some (.ref Found)))
    (gX_BadPaper : PySem.W.nsIn K mainGlobals "BadPaper" = some (some (.ref x_BadPaper)))
    (gX_BadMachine : PySem.W.nsIn K mainGlobals "BadMachine" = some (some (.ref x_BadMachine)))
    (gX_BadRule : PySem.W.nsIn K mainGlobals "BadRule" = some (some (.ref x_BadRule)))
    (gX_BadText : PySem.W.nsIn K mainGlobals "BadText" = some (some (.ref x_BadText)))
    (gX_TooLarge : PySem.W.nsIn K mainGlobals "TooLarge" = some (some (.ref x_TooLarge)))
    (gE_ObjectError : PySem.W.nsIn K mainGlobals "ObjectError" = some (some (.ref e_ObjectError)))
    (a_copied : PySem.W.nsIn K mainGlobals "copied" = some (some (.ref f_copied)))
    (l_copied : K.lookup f_copied = some ⟨oc_copied, od_copied, .func (PySem.W.fnOf "copied" "copied" (defArgs s_copied) (defBody s_copied) (defScope s_copied) .none kV_copied dc_copied pm_copied an_copied cd_copied ct_copied), sl_copied⟩)
    (c_copied : PySem.W.codeIn K cd_copied "copied" = true)
    (k_copied : PySem.W.keepIn K (.ref f_copied) = true)
    (a_Found_initdd : PySem.W.findIn K (.ref Found) "__init__" = some (some (.ref f_Found_initdd)))
    (i_Found_initdd : PySem.W.isFn K (.ref f_Found_initdd) = true)
    (l_Found_initdd : K.lookup f_Found_initdd = some ⟨oc_Found_initdd, od_Found_initdd, .func (PySem.W.fnOf "__init__" "Found.__init__" (defArgs s_Found_initdd) (defBody s_Found_initdd) (defScope s_Found_initdd) .none kV_Found_initdd dc_Found_initdd pm_Found_initdd an_Found_initdd cd_Found_initdd ct_Found_initdd), sl_Found_initdd⟩)
    (c_Found_initdd : PySem.W.codeIn K cd_Found_initdd "Found.__init__" = true)
    (k_Found_initdd : PySem.W.keepIn K (.ref f_Found_initdd) = true)
    (a_paper_lines : PySem.W.nsIn K mainGlobals "paper_lines" = some (some (.ref f_paper_lines)))
    (l_paper_lines : K.lookup f_paper_lines = some ⟨oc_paper_lines, od_paper_lines, .func (PySem.W.fnOf "paper_lines" "paper_lines" (defArgs s_paper_lines) (defBody s_paper_lines) (defScope s_paper_lines) .none kV_paper_lines dc_paper_lines pm_paper_lines an_paper_lines cd_paper_lines ct_paper_lines), sl_paper_lines⟩)
    (c_paper_lines : PySem.W.codeIn K cd_paper_lines "paper_lines" = true)
    (k_paper_lines : PySem.W.keepIn K (.ref f_paper_lines) = true)
    (a_row_line : PySem.W.nsIn K mainGlobals "row_line" = some (some (.ref f_row_line)))
    (l_row_line : K.lookup f_row_line = some ⟨oc_row_line, od_row_line, .func (PySem.W.fnOf "row_line" "row_line" (defArgs s_row_line) (defBody s_row_line) (defScope s_row_line) .none kV_row_line dc_row_line pm_row_line an_row_line cd_row_line ct_row_line), sl_row_line⟩)
    (c_row_line : PySem.W.codeIn K cd_row_line "row_line" = true)
    (k_row_line : PySem.W.keepIn K (.ref f_row_line) = true)
    (a_written : PySem.W.nsIn K mainGlobals "written" = some (some (.ref f_written)))
    (l_written : K.lookup f_written = some ⟨oc_written, od_written, .func (PySem.W.fnOf "written" "written" (defArgs s_written) (defBody s_written) (defScope s_written) .none kV_written dc_written pm_written an_written cd_written ct_written), sl_written⟩)
    (c_written : PySem.W.codeIn K cd_written "written" = true)
    (k_written : PySem.W.keepIn K (.ref f_written) = true)
    (a_read_paper : PySem.W.nsIn K mainGlobals "read_paper" = some (some (.ref f_read_paper)))
    (l_read_paper : K.lookup f_read_paper = some ⟨oc_read_paper, od_read_paper, .func (PySem.W.fnOf "read_paper" "read_paper" (defArgs s_read_paper) (defBody s_read_paper) (defScope s_read_paper) .none kV_read_paper dc_read_paper pm_read_paper an_read_paper cd_read_paper ct_read_paper), sl_read_paper⟩)
    (c_read_paper : PySem.W.codeIn K cd_read_paper "read_paper" = true)
    (k_read_paper : PySem.W.keepIn K (.ref f_read_paper) = true)
    (a_Lines_head : PySem.W.findIn K (.ref Lines) "head" = some (some (.ref f_Lines_head)))
    (i_Lines_head : PySem.W.isFn K (.ref f_Lines_head) = true)
    (l_Lines_head : K.lookup f_Lines_head = some ⟨oc_Lines_head, od_Lines_head, .func (PySem.W.fnOf "head" "Lines.head" (defArgs s_Lines_head) (defBody s_Lines_head) (defScope s_Lines_head) .none kV_Lines_head dc_Lines_head pm_Lines_head an_Lines_head cd_Lines_head ct_Lines_head), sl_Lines_head⟩)
    (c_Lines_head : PySem.W.codeIn K cd_Lines_head "Lines.head" = true)
    (k_Lines_head : PySem.W.keepIn K (.ref f_Lines_head) = true)
    (a_Lines_rows : PySem.W.findIn K (.ref Lines) "rows" = some (some (.ref f_Lines_rows)))
    (i_Lines_rows : PySem.W.isFn K (.ref f_Lines_rows) = true)
    (l_Lines_rows : K.lookup f_Lines_rows = some ⟨oc_Lines_rows, od_Lines_rows, .func (PySem.W.fnOf "rows" "Lines.rows" (defArgs s_Lines_rows) (defBody s_Lines_rows) (defScope s_Lines_rows) .none kV_Lines_rows dc_Lines_rows pm_Lines_rows an_Lines_rows cd_Lines_rows ct_Lines_rows), sl_Lines_rows⟩)
    (c_Lines_rows : PySem.W.codeIn K cd_Lines_rows "Lines.rows" = true)
    (k_Lines_rows : PySem.W.keepIn K (.ref f_Lines_rows) = true)
    (a_Lines_row : PySem.W.findIn K (.ref Lines) "row" = some (some (.ref f_Lines_row)))
    (i_Lines_row : PySem.W.isFn K (.ref f_Lines_row) = true)
    (l_Lines_row : K.lookup f_Lines_row = some ⟨oc_Lines_row, od_Lines_row, .func (PySem.W.fnOf "row" "Lines.row" (defArgs s_Lines_row) (defBody s_Lines_row) (defScope s_Lines_row) .none kV_Lines_row dc_Lines_row pm_Lines_row an_Lines_row cd_Lines_row ct_Lines_row), sl_Lines_row⟩)
    (c_Lines_row : PySem.W.codeIn K cd_Lines_row "Lines.row" = true)
    (k_Lines_row : PySem.W.keepIn K (.ref f_Lines_row) = true)
    (a_Lines_finish : PySem.W.findIn K (.ref Lines) "finish" = some (some (.ref f_Lines_finish)))
    (i_Lines_finish : PySem.W.isFn K (.ref f_Lines_finish) = true)
    (l_Lines_finish : K.lookup f_Lines_finish = some ⟨oc_Lines_finish, od_Lines_finish, .func (PySem.W.fnOf "finish" "Lines.finish" (defArgs s_Lines_finish) (defBody s_Lines_finish) (defScope s_Lines_finish) .none kV_Lines_finish dc_Lines_finish pm_Lines_finish an_Lines_finish cd_Lines_finish ct_Lines_finish), sl_Lines_finish⟩)
    (c_Lines_finish : PySem.W.codeIn K cd_Lines_finish "Lines.finish" = true)
    (k_Lines_finish : PySem.W.keepIn K (.ref f_Lines_finish) = true)
    (a_Lines_initdd : PySem.W.findIn K (.ref Lines) "__init__" = some (some (.ref f_Lines_initdd)))
    (i_Lines_initdd : PySem.W.isFn K (.ref f_Lines_initdd) = true)
    (l_Lines_initdd : K.lookup f_Lines_initdd = some ⟨oc_Lines_initdd, od_Lines_initdd, .func (PySem.W.fnOf "__init__" "Lines.__init__" (defArgs s_Lines_initdd) (defBody s_Lines_initdd) (defScope s_Lines_initdd) .none kV_Lines_initdd dc_Lines_initdd pm_Lines_initdd an_Lines_initdd cd_Lines_initdd ct_Lines_initdd), sl_Lines_initdd⟩)
    (c_Lines_initdd : PySem.W.codeIn K cd_Lines_initdd "Lines.__init__" = true)
    (k_Lines_initdd : PySem.W.keepIn K (.ref f_Lines_initdd) = true)
    (a_read_ring_paper : PySem.W.nsIn K mainGlobals "read_ring_paper" = some (some (.ref f_read_ring_paper)))
    (l_read_ring_paper : K.lookup f_read_ring_paper = some ⟨oc_read_ring_paper, od_read_ring_paper, .func (PySem.W.fnOf "read_ring_paper" "read_ring_paper" (defArgs s_read_ring_paper) (defBody s_read_ring_paper) (defScope s_read_ring_paper) .none kV_read_ring_paper dc_read_ring_paper pm_read_ring_paper an_read_ring_paper cd_read_ring_paper ct_read_ring_paper), sl_read_ring_paper⟩)
    (c_read_ring_paper : PySem.W.codeIn K cd_read_ring_paper "read_ring_paper" = true)
    (k_read_ring_paper : PySem.W.keepIn K (.ref f_read_ring_paper) = true)
    (a_Lines_take : PySem.W.findIn K (.ref Lines) "take" = some (some (.ref f_Lines_take)))
    (i_Lines_take : PySem.W.isFn K (.ref f_Lines_take) = true)
    (l_Lines_take : K.lookup f_Lines_take = some ⟨oc_Lines_take, od_Lines_take, .func (PySem.W.fnOf "take" "Lines.take" (defArgs s_Lines_take) (defBody s_Lines_take) (defScope s_Lines_take) .none kV_Lines_take dc_Lines_take pm_Lines_take an_Lines_take cd_Lines_take ct_Lines_take), sl_Lines_take⟩)
    (c_Lines_take : PySem.W.codeIn K cd_Lines_take "Lines.take" = true)
    (k_Lines_take : PySem.W.keepIn K (.ref f_Lines_take) = true)
    (a_Lines_need : PySem.W.findIn K (.ref Lines) "need" = some (some (.ref f_Lines_need)))
    (i_Lines_need : PySem.W.isFn K (.ref f_Lines_need) = true)
    (l_Lines_need : K.lookup f_Lines_need = some ⟨oc_Lines_need, od_Lines_need, .func (PySem.W.fnOf "need" "Lines.need" (defArgs s_Lines_need) (defBody s_Lines_need) (defScope s_Lines_need) .none kV_Lines_need dc_Lines_need pm_Lines_need an_Lines_need cd_Lines_need ct_Lines_need), sl_Lines_need⟩)
    (c_Lines_need : PySem.W.codeIn K cd_Lines_need "Lines.need" = true)
    (k_Lines_need : PySem.W.keepIn K (.ref f_Lines_need) = true)
    (a_is_number : PySem.W.nsIn K mainGlobals "is_number" = some (some (.ref f_is_number)))
    (l_is_number : K.lookup f_is_number = some ⟨oc_is_number, od_is_number, .func (PySem.W.fnOf "is_number" "is_number" (defArgs s_is_number) (defBody s_is_number) (defScope s_is_number) .none kV_is_number dc_is_number pm_is_number an_is_number cd_is_number ct_is_number), sl_is_number⟩)
    (c_is_number : PySem.W.codeIn K cd_is_number "is_number" = true)
    (k_is_number : PySem.W.keepIn K (.ref f_is_number) = true)
    (a_Lines_labels_told : PySem.W.findIn K (.ref Lines) "labels_told" = some (some (.ref f_Lines_labels_told)))
    (i_Lines_labels_told : PySem.W.isFn K (.ref f_Lines_labels_told) = true)
    (l_Lines_labels_told : K.lookup f_Lines_labels_told = some ⟨oc_Lines_labels_told, od_Lines_labels_told, .func (PySem.W.fnOf "labels_told" "Lines.labels_told" (defArgs s_Lines_labels_told) (defBody s_Lines_labels_told) (defScope s_Lines_labels_told) .none kV_Lines_labels_told dc_Lines_labels_told pm_Lines_labels_told an_Lines_labels_told cd_Lines_labels_told ct_Lines_labels_told), sl_Lines_labels_told⟩)
    (c_Lines_labels_told : PySem.W.codeIn K cd_Lines_labels_told "Lines.labels_told" = true)
    (k_Lines_labels_told : PySem.W.keepIn K (.ref f_Lines_labels_told) = true)
    (a_law_pool : PySem.W.nsIn K mainGlobals "_law_pool" = some (some (.ref f_law_pool)))
    (l_law_pool : K.lookup f_law_pool = some ⟨oc_law_pool, od_law_pool, .func (PySem.W.fnOf "_law_pool" "_law_pool" (defArgs s_law_pool) (defBody s_law_pool) (defScope s_law_pool) .none kV_law_pool dc_law_pool pm_law_pool an_law_pool cd_law_pool ct_law_pool), sl_law_pool⟩)
    (c_law_pool : PySem.W.codeIn K cd_law_pool "_law_pool" = true)
    (k_law_pool : PySem.W.keepIn K (.ref f_law_pool) = true)
    (a_law_draw : PySem.W.nsIn K mainGlobals "_law_draw" = some (some (.ref f_law_draw)))
    (l_law_draw : K.lookup f_law_draw = some ⟨oc_law_draw, od_law_draw, .func (PySem.W.fnOf "_law_draw" "_law_draw" (defArgs s_law_draw) (defBody s_law_draw) (defScope s_law_draw) .none kV_law_draw dc_law_draw pm_law_draw an_law_draw cd_law_draw ct_law_draw), sl_law_draw⟩)
    (c_law_draw : PySem.W.codeIn K cd_law_draw "_law_draw" = true)
    (k_law_draw : PySem.W.keepIn K (.ref f_law_draw) = true)
    (a_law_same : PySem.W.nsIn K mainGlobals "_law_same" = some (some (.ref f_law_same)))
    (l_law_same : K.lookup f_law_same = some ⟨oc_law_same, od_law_same, .func (PySem.W.fnOf "_law_same" "_law_same" (defArgs s_law_same) (defBody s_law_same) (defScope s_law_same) .none kV_law_same dc_law_same pm_law_same an_law_same cd_law_same ct_law_same), sl_law_same⟩)
    (c_law_same : PySem.W.codeIn K cd_law_same "_law_same" = true)
    (k_law_same : PySem.W.keepIn K (.ref f_law_same) = true)
    (a_law_text : PySem.W.nsIn K mainGlobals "_law_text" = some (some (.ref f_law_text)))
    (l_law_text : K.lookup f_law_text = some ⟨oc_law_text, od_law_text, .func (PySem.W.fnOf "_law_text" "_law_text" (defArgs s_law_text) (defBody s_law_text) (defScope s_law_text) .none kV_law_text dc_law_text pm_law_text an_law_text cd_law_text ct_law_text), sl_law_text⟩)
    (c_law_text : PySem.W.codeIn K cd_law_text "_law_text" = true)
    (k_law_text : PySem.W.keepIn K (.ref f_law_text) = true)
    (a_law_entry : PySem.W.nsIn K mainGlobals "_law_entry" = some (some (.ref f_law_entry)))
    (l_law_entry : K.lookup f_law_entry = some ⟨oc_law_entry, od_law_entry, .func (PySem.W.fnOf "_law_entry" "_law_entry" (defArgs s_law_entry) (defBody s_law_entry) (defScope s_law_entry) .none kV_law_entry dc_law_entry pm_law_entry an_law_entry cd_law_entry ct_law_entry), sl_law_entry⟩)
    (c_law_entry : PySem.W.codeIn K cd_law_entry "_law_entry" = true)
    (k_law_entry : PySem.W.keepIn K (.ref f_law_entry) = true)
    (a_law_drawn : PySem.W.nsIn K mainGlobals "_law_drawn" = some (some (.ref f_law_drawn)))
    (l_law_drawn : K.lookup f_law_drawn = some ⟨oc_law_drawn, od_law_drawn, .func (PySem.W.fnOf "_law_drawn" "_law_drawn" (defArgs s_law_drawn) (defBody s_law_drawn) (defScope s_law_drawn) .none kV_law_drawn dc_law_drawn pm_law_drawn an_law_drawn cd_law_drawn ct_law_drawn), sl_law_drawn⟩)
    (c_law_drawn : PySem.W.codeIn K cd_law_drawn "_law_drawn" = true)
    (k_law_drawn : PySem.W.keepIn K (.ref f_law_drawn) = true)
    (a_law_read : PySem.W.nsIn K mainGlobals "_law_read" = some (some (.ref f_law_read)))
    (l_law_read : K.lookup f_law_read = some ⟨oc_law_read, od_law_read, .func (PySem.W.fnOf "_law_read" "_law_read" (defArgs s_law_read) (defBody s_law_read) (defScope s_law_read) .none kV_law_read dc_law_read pm_law_read an_law_read cd_law_read ct_law_read), sl_law_read⟩)
    (c_law_read : PySem.W.codeIn K cd_law_read "_law_read" = true)
    (k_law_read : PySem.W.keepIn K (.ref f_law_read) = true)
    (a_law_digits : PySem.W.nsIn K mainGlobals "_law_digits" = some (some (.ref f_law_digits)))
    (l_law_digits : K.lookup f_law_digits = some ⟨oc_law_digits, od_law_digits, .func (PySem.W.fnOf "_law_digits" "_law_digits" (defArgs s_law_digits) (defBody s_law_digits) (defScope s_law_digits) .none kV_law_digits dc_law_digits pm_law_digits an_law_digits cd_law_digits ct_law_digits), sl_law_digits⟩)
    (c_law_digits : PySem.W.codeIn K cd_law_digits "_law_digits" = true)
    (k_law_digits : PySem.W.keepIn K (.ref f_law_digits) = true)
    (a_law_bad : PySem.W.nsIn K mainGlobals "_law_bad" = some (some (.ref f_law_bad)))
    (l_law_bad : K.lookup f_law_bad = some ⟨oc_law_bad, od_law_bad, .func (PySem.W.fnOf "_law_bad" "_law_bad" (defArgs s_law_bad) (defBody s_law_bad) (defScope s_law_bad) .none kV_law_bad dc_law_bad pm_law_bad an_law_bad cd_law_bad ct_law_bad), sl_law_bad⟩)
    (c_law_bad : PySem.W.codeIn K cd_law_bad "_law_bad" = true)
    (k_law_bad : PySem.W.keepIn K (.ref f_law_bad) = true)
    (a_law_menu : PySem.W.nsIn K mainGlobals "_law_menu" = some (some (.ref f_law_menu)))
    (l_law_menu : K.lookup f_law_menu = some ⟨oc_law_menu, od_law_menu, .func (PySem.W.fnOf "_law_menu" "_law_menu" (defArgs s_law_menu) (defBody s_law_menu) (defScope s_law_menu) .none kV_law_menu dc_law_menu pm_law_menu an_law_menu cd_law_menu ct_law_menu), sl_law_menu⟩)
    (c_law_menu : PySem.W.codeIn K cd_law_menu "_law_menu" = true)
    (k_law_menu : PySem.W.keepIn K (.ref f_law_menu) = true)
    (a_law_changed : PySem.W.nsIn K mainGlobals "_law_changed" = some (some (.ref f_law_changed)))
    (l_law_changed : K.lookup f_law_changed = some ⟨oc_law_changed, od_law_changed, .func (PySem.W.fnOf "_law_changed" "_law_changed" (defArgs s_law_changed) (defBody s_law_changed) (defScope s_law_changed) .none kV_law_changed dc_law_changed pm_law_changed an_law_changed cd_law_changed ct_law_changed), sl_law_changed⟩)
    (c_law_changed : PySem.W.codeIn K cd_law_changed "_law_changed" = true)
    (k_law_changed : PySem.W.keepIn K (.ref f_law_changed) = true)
    (a_law : PySem.W.nsIn K mainGlobals "law" = some (some (.ref f_law)))
    (l_law : K.lookup f_law = some ⟨oc_law, od_law, .func (PySem.W.fnOf "law" "law" (defArgs s_law) (defBody s_law) (defScope s_law) .none kV_law dc_law pm_law an_law cd_law ct_law), sl_law⟩)
    (c_law : PySem.W.codeIn K cd_law "law" = true)
    (k_law : PySem.W.keepIn K (.ref f_law) = true)
    (pg_Found : PySem.W.plainGet K Found Str.empty = true)
    (hd_Found : PySem.W.hasDictIn K Found = true)
    (po_Found : PySem.W.plainOver K Found = true)
    (sa_Found : PySem.W.findIn K (.ref Found) "__setattr__" = some (some (.builtin "object.__setattr__")))
    (pg_Lines : PySem.W.plainGet K Lines Str.empty = true)
    (hd_Lines : PySem.W.hasDictIn K Lines = true)
    (po_Lines : PySem.W.plainOver K Lines = true)
    (sa_Lines : PySem.W.findIn K (.ref Lines) "__setattr__" = some (some (.builtin "object.__setattr__")))
    (no_Found_cost : PySem.W.findIn K (.ref Found) "cost" = some none)
    (no_Found_ends : PySem.W.findIn K (.ref Found) "ends" = some none)
    (no_Found_kind : PySem.W.findIn K (.ref Found) "kind" = some none)
    (no_Found_labels : PySem.W.findIn K (.ref Found) "labels" = some none)
    (no_Found_numbers : PySem.W.findIn K (.ref Found) "numbers" = some none)
    (no_Lines_at : PySem.W.findIn K (.ref Lines) "at" = some none)
    (no_Lines_lines : PySem.W.findIn K (.ref Lines) "lines" = some none)
    (mk_Lines : PySem.W.makesIn K Lines = true)
    (kp_Lines : PySem.W.keepIn K (.ref Lines) = true)
    (mk_Found : PySem.W.makesIn K Found = true)
    (kp_Found : PySem.W.keepIn K (.ref Found) = true)
    (exo_BadPaper_ObjectError : PySem.W.exmOne K (.ref x_BadPaper) (.ref e_ObjectError) = some true)
    (echg_BadPaper : PySem.W.findIn K (.ref x_BadPaper) "__getattribute__" = some (some (.builtin "BaseException.__getattribute__")))
    (echk_BadPaper : PySem.W.findIn K (.ref x_BadPaper) "__getattr__" = some none)
    (echs_BadPaper : PySem.W.subIn K (.ref x_BadPaper) (.type "BaseException") = some true)
    (echd_BadPaper : PySem.W.hasDictIn K x_BadPaper = true)
    (echa_BadPaper : PySem.W.findIn K (.ref x_BadPaper) "__class__" = some (some (.builtin "object.__class__")))
    (echn_BadPaper : PySem.W.specialIn K (.builtin "object.__class__") "__get__" = some (some (.builtin "getset_descriptor.__get__")))
    (echt_BadPaper : PySem.W.takesIn K (.builtin "object.__class__") = some true)
    (echm_BadPaper : PySem.W.mroIn K x_BadPaper (.type "object") = some true)
    (kitT_BadPaper : PySem.W.kitAny K (.ref x_BadPaper) [.ref x_BadMachine, .ref x_BadRule, .ref x_BadText, .ref x_TooLarge] = some false)
    (kit_BadPaper_ValueError : PySem.W.kitOne K (.ref x_BadPaper) (.type "ValueError") = some true)
    (kit_BadPaper_BadPaper : PySem.W.kitOne K (.ref x_BadPaper) (.ref x_BadPaper) = some true)
    (xL_BadPaper : K.lookup x_BadPaper = some (excClassObj nm_BadPaper q_BadPaper x_BadPaper N_BadPaper bs_BadPaper bm_BadPaper true sn_BadPaper sub_BadPaper ab_BadPaper col_BadPaper dd_BadPaper m0_BadPaper m1_BadPaper m2_BadPaper m3_BadPaper m5_BadPaper "ValueError.__new__"))
    (xR_BadPaper : PySem.HandSPX.refsVE bm_BadPaper = true)
    (xsa_BadPaper : PySem.W.findIn K (.ref x_BadPaper) "__setattr__" = some (some (.builtin "object.__setattr__")))
    (xga_BadPaper : PySem.W.findIn K (.ref x_BadPaper) "__getattribute__" = some (some (.builtin "BaseException.__getattribute__")))
    (xgg_BadPaper : PySem.W.findIn K (.ref x_BadPaper) "__getattr__" = some none)
    (xnoN_BadPaper : PySem.W.findIn K (.ref x_BadPaper) "at" = some none)
    (xiC_BadPaper : PySem.W.findIn K (.ref x_BadPaper) "__init__" = some (some (.ref i_BadPaper)))
    (xtC_BadPaper : PySem.W.typeIn K (.ref i_BadPaper) = some (.type "function"))
    (xkC_BadPaper : PySem.W.keepIn K (.ref x_BadPaper) = true)
    (xexC_BadPaper : PySem.W.subIn K (.ref x_BadPaper) (.type "BaseException") = some true)
    (xveC_BadPaper : PySem.W.subIn K (.ref x_BadPaper) (.type "ValueError") = some true)
    (xtyC_BadPaper : PySem.W.typeIn K (.ref x_BadPaper) = some (.type "type"))
    (xhdC_BadPaper : PySem.W.hasDictIn K x_BadPaper = true)
    (xms_BadPaper : PySem.W.mroIn K x_BadPaper (.ref x_BadPaper) = some true)
    (xsu_BadPaper : PySem.W.ks_superIn K x_BadPaper x_BadPaper "__init__" = some (some (.builtin "ValueError.__init__")))
    (xop_BadPaper : PySem.W.nsIn K cStatics "thirdparty.any" = some none)
    (xF_BadPaper : K.lookup i_BadPaper = some ⟨xoc_BadPaper, xod_BadPaper, .func (ksFn "__init__" xqu_BadPaper (EX.eArgs "at" p1_BadPaper p2_BadPaper) (EX.eBody "at" "the paper does not go on like this at line " p0_BadPaper p1a_BadPaper p2a_BadPaper p3_BadPaper p4_BadPaper p5_BadPaper p6_BadPaper p7_BadPaper p8_BadPaper q1_BadPaper q2_BadPaper q3_BadPaper q4_BadPaper) (EX.eScope "at") .none .none xdoc_BadPaper xpm_BadPaper xan_BadPaper (.ref cda_BadPaper) xct_BadPaper cc_BadPaper), osl_BadPaper⟩)
    (xC_BadPaper : PySem.W.codeIn K (.ref cda_BadPaper) xqu_BadPaper = true)
    (xP_BadPaper : (p2a_BadPaper.endLine == p7_BadPaper.line) = true)
    (xO_BadPaper : K.lookup cda_BadPaper = some ⟨ccl_BadPaper, cdd_BadPaper, .fields vs_BadPaper, ccs_BadPaper⟩)
    (xV_BadPaper : vs_BadPaper[2]? = some (.str file_BadPaper tf_BadPaper))
    (xN_BadPaper : ((PySem.Challenge.pw_someobjects_k71_whole_papers_are_read_ex.main.file : Str) == file_BadPaper) = true)
    (xG_BadPaper : K.lookup cc_BadPaper = some ⟨xcl_BadPaper, cld_BadPaper, .cell (some (.ref x_BadPaper)), csl_BadPaper⟩)
    (xT_BadPaper : (PySem.Challenge.pw_someobjects_k71_whole_papers_are_read_ex.main.scope.names.lookup ("super" : Str)).isSome = false) :
    ∃ fd : FuncData, (∀ (s : Shared) (v : Value), BindsTo s fd ⟨[v], []⟩ [("script", v)]) ∧ ∀ base : Heap, K.In base → base.Ns mainGlobals mg → FnOk (PySem.Challenge.rw_someobjects_k71_whole_papers_are_read_ex).prog w K mg base CX0 231 fa fd ["script"] (spLaw K) := by
  have e : f_law = fa := Value.ref.inj (Option.some.inj ((PySem.W.mg_of X G a_law).symm.trans hfa))
  subst e
  have F_copied := fun_mk (st := s_copied) l_copied c_copied k_copied
  have b_copied := F_copied.binds (ps := ["rows"]) fun _ _ _ _ _ _ us hl => match us, hl with | [_], _ => rfl
  have F_Found_initdd := fun_mk (st := s_Found_initdd) l_Found_initdd c_Found_initdd k_Found_initdd
  have b_Found_initdd := F_Found_initdd.binds (ps := ["self", "kind", "cost", "labels", "numbers", "ends"]) fun _ _ _ _ _ _ us hl => match us, hl with | [_, _, _, _, _, _], _ => rfl
  have F_paper_lines := fun_mk (st := s_paper_lines) l_paper_lines c_paper_lines k_paper_lines
  have b_paper_lines := F_paper_lines.binds (ps := ["found"]) fun _ _ _ _ _ _ us hl => match us, hl with | [_], _ => rfl
  have F_row_line := fun_mk (st := s_row_line) l_row_line c_row_line k_row_line
  have b_row_line := F_row_line.binds (ps := ["row"]) fun _ _ _ _ _ _ us hl => match us, hl with | [_], _ => rfl
  have F_written := fun_mk (st := s_written) l_written c_written k_written
  have b_written := F_written.binds (ps := ["number"]) fun _ _ _ _ _ _ us hl => match us, hl with | [_], _ => rfl
  have F_read_paper := fun_mk (st := s_read_paper) l_read_paper c_read_paper k_read_paper
  have b_read_paper := F_read_paper.binds (ps := ["count", "labels", "lines"]) fun _ _ _ _ _ _ us hl => match us, hl with | [_, _, _], _ => rfl
  have F_Lines_head := fun_mk (st := s_Lines_head) l_Lines_head c_Lines_head k_Lines_head
  have b_Lines_head := F_Lines_head.binds (ps := ["self", "count", "labels"]) fun _ _ _ _ _ _ us hl => match us, hl with | [_, _, _], _ => rfl
  have F_Lines_rows := fun_mk (st := s_Lines_rows) l_Lines_rows c_Lines_rows k_Lines_rows
  have b_Lines_rows := F_Lines_rows.binds (ps := ["self", "count", "labels"]) fun _ _ _ _ _ _ us hl => match us, hl with | [_, _, _], _ => rfl
  have F_Lines_row := fun_mk (st := s_Lines_row) l_Lines_row c_Lines_row k_Lines_row
  have b_Lines_row := F_Lines_row.binds (ps := ["self", "labels"]) fun _ _ _ _ _ _ us hl => match us, hl with | [_, _], _ => rfl
  have F_Lines_finish := fun_mk (st := s_Lines_finish) l_Lines_finish c_Lines_finish k_Lines_finish
  have b_Lines_finish := F_Lines_finish.binds (ps := ["self"]) fun _ _ _ _ _ _ us hl => match us, hl with | [_], _ => rfl
  have F_Lines_initdd := fun_mk (st := s_Lines_initdd) l_Lines_initdd c_Lines_initdd k_Lines_initdd
  have b_Lines_initdd := F_Lines_initdd.binds (ps := ["self", "lines"]) fun _ _ _ _ _ _ us hl => match us, hl with | [_, _], _ => rfl
  have F_read_ring_paper := fun_mk (st := s_read_ring_paper) l_read_ring_paper c_read_ring_paper k_read_ring_paper
  have b_read_ring_paper := F_read_ring_paper.binds (ps := ["count", "labels", "lines"]) fun _ _ _ _ _ _ us hl => match us, hl with | [_, _, _], _ => rfl
  have F_Lines_take := fun_mk (st := s_Lines_take) l_Lines_take c_Lines_take k_Lines_take
  have b_Lines_take := F_Lines_take.binds (ps := ["self"]) fun _ _ _ _ _ _ us hl => match us, hl with | [_], _ => rfl
  have F_Lines_need := fun_mk (st := s_Lines_need) l_Lines_need c_Lines_need k_Lines_need
  have b_Lines_need := F_Lines_need.binds (ps := ["self", "holds"]) fun _ _ _ _ _ _ us hl => match us, hl with | [_, _], _ => rfl
  have F_is_number := fun_mk (st := s_is_number) l_is_number c_is_number k_is_number
  have b_is_number := F_is_number.binds (ps := ["word"]) fun _ _ _ _ _ _ us hl => match us, hl with | [_], _ => rfl
  have F_Lines_labels_told := fun_mk (st := s_Lines_labels_told) l_Lines_labels_told c_Lines_labels_told k_Lines_labels_told
  have b_Lines_labels_told := F_Lines_labels_told.binds (ps := ["self", "count", "labels"]) fun _ _ _ _ _ _ us hl => match us, hl with | [_, _, _], _ => rfl
  have F_law_pool := fun_mk (st := s_law_pool) l_law_pool c_law_pool k_law_pool
  have b_law_pool := F_law_pool.binds (ps := ["script", "budget"]) fun _ _ _ _ _ _ us hl => match us, hl with | [_, _], _ => rfl
  have F_law_draw := fun_mk (st := s_law_draw) l_law_draw c_law_draw k_law_draw
  have b_law_draw := F_law_draw.binds (ps := ["pool", "size"]) fun _ _ _ _ _ _ us hl => match us, hl with | [_, _], _ => rfl
  have F_law_same := fun_mk (st := s_law_same) l_law_same c_law_same k_law_same
  have b_law_same := F_law_same.binds (ps := ["actual", "due"]) fun _ _ _ _ _ _ us hl => match us, hl with | [_, _], _ => rfl
  have F_law_text := fun_mk (st := s_law_text) l_law_text c_law_text k_law_text
  have b_law_text := F_law_text.binds (ps := ["row"]) fun _ _ _ _ _ _ us hl => match us, hl with | [_], _ => rfl
  have F_law_entry := fun_mk (st := s_law_entry) l_law_entry c_law_entry k_law_entry
  have b_law_entry := F_law_entry.binds (ps := ["pool"]) fun _ _ _ _ _ _ us hl => match us, hl with | [_], _ => rfl
  have F_law_drawn := fun_mk (st := s_law_drawn) l_law_drawn c_law_drawn k_law_drawn
  have b_law_drawn := F_law_drawn.binds (ps := ["pool", "count", "labels", "ring"]) fun _ _ _ _ _ _ us hl => match us, hl with | [_, _, _, _], _ => rfl
  have F_law_read := fun_mk (st := s_law_read) l_law_read c_law_read k_law_read
  have b_law_read := F_law_read.binds (ps := ["count", "labels", "lines", "ring"]) fun _ _ _ _ _ _ us hl => match us, hl with | [_, _, _, _], _ => rfl
  have F_law_digits := fun_mk (st := s_law_digits) l_law_digits c_law_digits k_law_digits
  have b_law_digits := F_law_digits.binds (ps := ["word", "most"]) fun _ _ _ _ _ _ us hl => match us, hl with | [_, _], _ => rfl
  have F_law_bad := fun_mk (st := s_law_bad) l_law_bad c_law_bad k_law_bad
  have b_law_bad := F_law_bad.binds (ps := ["lines", "count", "labels", "ring"]) fun _ _ _ _ _ _ us hl => match us, hl with | [_, _, _, _], _ => rfl
  have F_law_menu := fun_mk (st := s_law_menu) l_law_menu c_law_menu k_law_menu
  have b_law_menu := F_law_menu.binds (ps := ["pool", "words"]) fun _ _ _ _ _ _ us hl => match us, hl with | [_, _], _ => rfl
  have F_law_changed := fun_mk (st := s_law_changed) l_law_changed c_law_changed k_law_changed
  have b_law_changed := F_law_changed.binds (ps := ["pool", "lines"]) fun _ _ _ _ _ _ us hl => match us, hl with | [_, _], _ => rfl
  have F_law := fun_mk (st := s_law) l_law c_law k_law
  have b_law := F_law.binds (ps := ["script"]) fun _ _ _ _ _ _ us hl => match us, hl with | [_], _ => rfl
  have T : Tx K mg { f_copied := f_copied, d_copied := PySem.W.fnOf "copied" "copied" (defArgs s_copied) (defBody s_copied) (defScope s_copied) .none kV_copied dc_copied pm_copied an_copied cd_copied ct_copied, f_Found_initdd := f_Found_initdd, d_Found_initdd := PySem.W.fnOf "__init__" "Found.__init__" (defArgs s_Found_initdd) (defBody s_Found_initdd) (defScope s_Found_initdd) .none kV_Found_initdd dc_Found_initdd pm_Found_initdd an_Found_initdd cd_Found_initdd ct_Found_initdd, f_paper_lines := f_paper_lines, d_paper_lines := PySem.W.fnOf "paper_lines" "paper_lines" (defArgs s_paper_lines) (defBody s_paper_lines) (defScope s_paper_lines) .none kV_paper_lines dc_paper_lines pm_paper_lines an_paper_lines cd_paper_lines ct_paper_lines, f_row_line := f_row_line, d_row_line := PySem.W.fnOf "row_line" "row_line" (defArgs s_row_line) (defBody s_row_line) (defScope s_row_line) .none kV_row_line dc_row_line pm_row_line an_row_line cd_row_line ct_row_line, f_written := f_written, d_written := PySem.W.fnOf "written" "written" (defArgs s_written) (defBody s_written) (defScope s_written) .none kV_written dc_written pm_written an_written cd_written ct_written, f_read_paper := f_read_paper, d_read_paper := PySem.W.fnOf "read_paper" "read_paper" (defArgs s_read_paper) (defBody s_read_paper) (defScope s_read_paper) .none kV_read_paper dc_read_paper pm_read_paper an_read_paper cd_read_paper ct_read_paper, f_Lines_head := f_Lines_head, d_Lines_head := PySem.W.fnOf "head" "Lines.head" (defArgs s_Lines_head) (defBody s_Lines_head) (defScope s_Lines_head) .none kV_Lines_head dc_Lines_head pm_Lines_head an_Lines_head cd_Lines_head ct_Lines_head, f_Lines_rows := f_Lines_rows, d_Lines_rows := PySem.W.fnOf "rows" "Lines.rows" (defArgs s_Lines_rows) (defBody s_Lines_rows) (defScope s_Lines_rows) .none kV_Lines_rows dc_Lines_rows pm_Lines_rows an_Lines_rows cd_Lines_rows ct_Lines_rows, f_Lines_row := f_Lines_row, d_Lines_row := PySem.W.fnOf "row" "Lines.row" (defArgs s_Lines_row) (defBody s_Lines_row) (defScope s_Lines_row) .none kV_Lines_row dc_Lines_row pm_Lines_row an_Lines_row cd_Lines_row ct_Lines_row, f_Lines_finish := f_Lines_finish, d_Lines_finish := PySem.W.fnOf "finish" "Lines.finish" (defArgs s_Lines_finish) (defBody s_Lines_finish) (defScope s_Lines_finish) .none kV_Lines_finish dc_Lines_finish pm_Lines_finish an_Lines_finish cd_Lines_finish ct_Lines_finish, f_Lines_initdd := f_Lines_initdd, d_Lines_initdd := PySem.W.fnOf "__init__" "Lines.__init__" (defArgs s_Lines_initdd) (defBody s_Lines_initdd) (defScope s_Lines_initdd) .none kV_Lines_initdd dc_Lines_initdd pm_Lines_initdd an_Lines_initdd cd_Lines_initdd ct_Lines_initdd, f_read_ring_paper := f_read_ring_paper, d_read_ring_paper := PySem.W.fnOf "read_ring_paper" "read_ring_paper" (defArgs s_read_ring_paper) (defBody s_read_ring_paper) (defScope s_read_ring_paper) .none kV_read_ring_paper dc_read_ring_paper pm_read_ring_paper an_read_ring_paper cd_read_ring_paper ct_read_ring_paper, f_Lines_take := f_Lines_take, d_Lines_take := PySem.W.fnOf "take" "Lines.take" (defArgs s_Lines_take) (defBody s_Lines_take) (defScope s_Lines_take) .none kV_Lines_take dc_Lines_take pm_Lines_take an_Lines_take cd_Lines_take ct_Lines_take, f_Lines_need := f_Lines_need, d_Lines_need := PySem.W.fnOf "need" "Lines.need" (defArgs s_Lines_need) (defBody s_Lines_need) (defScope s_Lines_need) .none kV_Lines_need dc_Lines_need pm_Lines_need an_Lines_need cd_Lines_need ct_Lines_need, f_is_number := f_is_number, d_is_number := PySem.W.fnOf "is_number" "is_number" (defArgs s_is_number) (defBody s_is_number) (defScope s_is_number) .none kV_is_number dc_is_number pm_is_number an_is_number cd_is_number ct_is_number, f_Lines_labels_told := f_Lines_labels_told, d_Lines_labels_told := PySem.W.fnOf "labels_told" "Lines.labels_told" (defArgs s_Lines_labels_told) (defBody s_Lines_labels_told) (defScope s_Lines_labels_told) .none kV_Lines_labels_told dc_Lines_labels_told pm_Lines_labels_told an_Lines_labels_told cd_Lines_labels_told ct_Lines_labels_told, f_law_pool := f_law_pool, d_law_pool := PySem.W.fnOf "_law_pool" "_law_pool" (defArgs s_law_pool) (defBody s_law_pool) (defScope s_law_pool) .none kV_law_pool dc_law_pool pm_law_pool an_law_pool cd_law_pool ct_law_pool, f_law_draw := f_law_draw, d_law_draw := PySem.W.fnOf "_law_draw" "_law_draw" (defArgs s_law_draw) (defBody s_law_draw) (defScope s_law_draw) .none kV_law_draw dc_law_draw pm_law_draw an_law_draw cd_law_draw ct_law_draw, f_law_same := f_law_same, d_law_same := PySem.W.fnOf "_law_same" "_law_same" (defArgs s_law_same) (defBody s_law_same) (defScope s_law_same) .none kV_law_same dc_law_same pm_law_same an_law_same cd_law_same ct_law_same, f_law_text := f_law_text, d_law_text := PySem.W.fnOf "_law_text" "_law_text" (defArgs s_law_text) (defBody s_law_text) (defScope s_law_text) .none kV_law_text dc_law_text pm_law_text an_law_text cd_law_text ct_law_text, f_law_entry := f_law_entry, d_law_entry := PySem.W.fnOf "_law_entry" "_law_entry" (defArgs s_law_entry) (defBody s_law_entry) (defScope s_law_entry) .none kV_law_entry dc_law_entry pm_law_entry an_law_entry cd_law_entry ct_law_entry, f_law_drawn := f_law_drawn, d_law_drawn := PySem.W.fnOf "_law_drawn" "_law_drawn" (defArgs s_law_drawn) (defBody s_law_drawn) (defScope s_law_drawn) .none kV_law_drawn dc_law_drawn pm_law_drawn an_law_drawn cd_law_drawn ct_law_drawn, f_law_read := f_law_read, d_law_read := PySem.W.fnOf "_law_read" "_law_read" (defArgs s_law_read) (defBody s_law_read) (defScope s_law_read) .none kV_law_read dc_law_read pm_law_read an_law_read cd_law_read ct_law_read, f_law_digits := f_law_digits, d_law_digits := PySem.W.fnOf "_law_digits" "_law_digits" (defArgs s_law_digits) (defBody s_law_digits) (defScope s_law_digits) .none kV_law_digits dc_law_digits pm_law_digits an_law_digits cd_law_digits ct_law_digits, f_law_bad := f_law_bad, d_law_bad := PySem.W.fnOf "_law_bad" "_law_bad" (defArgs s_law_bad) (defBody s_law_bad) (defScope s_law_bad) .none kV_law_bad dc_law_bad pm_law_bad an_law_bad cd_law_bad ct_law_bad, f_law_menu := f_law_menu, d_law_menu := PySem.W.fnOf "_law_menu" "_law_menu" (defArgs s_law_menu) (defBody s_law_menu) (defScope s_law_menu) .none kV_law_menu dc_law_menu pm_law_menu an_law_menu cd_law_menu ct_law_menu, f_law_changed := f_law_changed, d_law_changed := PySem.W.fnOf "_law_changed" "_law_changed" (defArgs s_law_changed) (defBody s_law_changed) (defScope s_law_changed) .none kV_law_changed dc_law_changed pm_law_changed an_law_changed cd_law_changed ct_law_changed, f_law := f_law, d_law := PySem.W.fnOf "law" "law" (defArgs s_law) (defBody s_law) (defScope s_law) .none kV_law dc_law pm_law an_law cd_law ct_law, t_DIGITS := t_DIGITS, t_MOST_DIGITS := t_MOST_DIGITS, Found := Found, Lines := Lines, i_BadPaper := i_BadPaper, x_BadPaper := x_BadPaper, x_BadMachine := x_BadMachine, x_BadRule := x_BadRule, x_BadText := x_BadText, x_TooLarge := x_TooLarge, e_ObjectError := e_ObjectError } := {
    n_ValueError := PySem.W.mg_none_of X G n_ValueError,
    n_all := PySem.W.mg_none_of X G n_all,
    n_bool := PySem.W.mg_none_of X G n_bool,
    n_int := PySem.W.mg_none_of X G n_int,
    n_isinstance := PySem.W.mg_none_of X G n_isinstance,
    n_len := PySem.W.mg_none_of X G n_len,
    n_list := PySem.W.mg_none_of X G n_list,
    n_max := PySem.W.mg_none_of X G n_max,
    n_range := PySem.W.mg_none_of X G n_range,
    n_str := PySem.W.mg_none_of X G n_str,
    n_super := PySem.W.mg_none_of X G n_super,
    n_tuple := PySem.W.mg_none_of X G n_tuple,
    f_copied := ⟨F_copied, PySem.W.mg_of X G a_copied, b_copied⟩,
    f_Found_initdd := ⟨F_Found_initdd, ⟨a_Found_initdd, i_Found_initdd, k_Found_initdd⟩, b_Found_initdd⟩,
    f_paper_lines := ⟨F_paper_lines, PySem.W.mg_of X G a_paper_lines, b_paper_lines⟩,
    f_row_line := ⟨F_row_line, PySem.W.mg_of X G a_row_line, b_row_line⟩,
    f_written := ⟨F_written, PySem.W.mg_of X G a_written, b_written⟩,
    f_read_paper := ⟨F_read_paper, PySem.W.mg_of X G a_read_paper, b_read_paper⟩,
    f_Lines_head := ⟨F_Lines_head, ⟨a_Lines_head, i_Lines_head, k_Lines_head⟩, b_Lines_head⟩,
    f_Lines_rows := ⟨F_Lines_rows, ⟨a_Lines_rows, i_Lines_rows, k_Lines_rows⟩, b_Lines_rows⟩,
    f_Lines_row := ⟨F_Lines_row, ⟨a_Lines_row, i_Lines_row, k_Lines_row⟩, b_Lines_row⟩,
    f_Lines_finish := ⟨F_Lines_finish, ⟨a_Lines_finish, i_Lines_finish, k_Lines_finish⟩, b_Lines_finish⟩,
    f_Lines_initdd := ⟨F_Lines_initdd, ⟨a_Lines_initdd, i_Lines_initdd, k_Lines_initdd⟩, b_Lines_initdd⟩,
    f_read_ring_paper := ⟨F_read_ring_paper, PySem.W.mg_of X G a_read_ring_paper, b_read_ring_paper⟩,
    f_Lines_take := ⟨F_Lines_take, ⟨a_Lines_take, i_Lines_take, k_Lines_take⟩, b_Lines_take⟩,
    f_Lines_need := ⟨F_Lines_need, ⟨a_Lines_need, i_Lines_need, k_Lines_need⟩, b_Lines_need⟩,
    f_is_number := ⟨F_is_number, PySem.W.mg_of X G a_is_number, b_is_number⟩,
    f_Lines_labels_told := ⟨F_Lines_labels_told, ⟨a_Lines_labels_told, i_Lines_labels_told, k_Lines_labels_told⟩, b_Lines_labels_told⟩,
    f_law_pool := ⟨F_law_pool, PySem.W.mg_of X G a_law_pool, b_law_pool⟩,
    f_law_draw := ⟨F_law_draw, PySem.W.mg_of X G a_law_draw, b_law_draw⟩,
    f_law_same := ⟨F_law_same, PySem.W.mg_of X G a_law_same, b_law_same⟩,
    f_law_text := ⟨F_law_text, PySem.W.mg_of X G a_law_text, b_law_text⟩,
    f_law_entry := ⟨F_law_entry, PySem.W.mg_of X G a_law_entry, b_law_entry⟩,
    f_law_drawn := ⟨F_law_drawn, PySem.W.mg_of X G a_law_drawn, b_law_drawn⟩,
    f_law_read := ⟨F_law_read, PySem.W.mg_of X G a_law_read, b_law_read⟩,
    f_law_digits := ⟨F_law_digits, PySem.W.mg_of X G a_law_digits, b_law_digits⟩,
    f_law_bad := ⟨F_law_bad, PySem.W.mg_of X G a_law_bad, b_law_bad⟩,
    f_law_menu := ⟨F_law_menu, PySem.W.mg_of X G a_law_menu, b_law_menu⟩,
    f_law_changed := ⟨F_law_changed, PySem.W.mg_of X G a_law_changed, b_law_changed⟩,
    f_law := ⟨F_law, PySem.W.mg_of X G a_law, b_law⟩,
    c_DIGITS := PySem.W.mg_of X G c_DIGITS,
    c_MOST_DIGITS := PySem.W.mg_of X G c_MOST_DIGITS,
    cl_Found := ⟨pg_Found, hd_Found, po_Found, sa_Found⟩,
    cl_Lines := ⟨pg_Lines, hd_Lines, po_Lines, sa_Lines⟩,
    no_Found_cost := no_Found_cost,
    no_Found_ends := no_Found_ends,
    no_Found_kind := no_Found_kind,
    no_Found_labels := no_Found_labels,
    no_Found_numbers := no_Found_numbers,
    no_Lines_at := no_Lines_at,
    no_Lines_lines := no_Lines_lines,
    mk_Lines := ⟨mk_Lines, a_Lines_initdd, i_Lines_initdd, kp_Lines⟩,
    gC_Lines := PySem.W.mg_of X G gC_Lines,
    mk_Found := ⟨mk_Found, a_Found_initdd, i_Found_initdd, kp_Found⟩,
    gC_Found := PySem.W.mg_of X G gC_Found,
    gX_BadPaper := PySem.W.mg_of X G gX_BadPaper,
    gX_BadMachine := PySem.W.mg_of X G gX_BadMachine,
    gX_BadRule := PySem.W.mg_of X G gX_BadRule,
    gX_BadText := PySem.W.mg_of X G gX_BadText,
    gX_TooLarge := PySem.W.mg_of X G gX_TooLarge,
    gE_ObjectError := PySem.W.mg_of X G gE_ObjectError,
    exo_BadPaper_ObjectError := exo_BadPaper_ObjectError,
    ec_BadPaper := { hg := echg_BadPaper, hk := echk_BadPaper, hs := echs_BadPaper, hd := echd_BadPaper, ha := echa_BadPaper, hn := echn_BadPaper, ht := echt_BadPaper, hm := echm_BadPaper },
    kitT_BadPaper := kitT_BadPaper,
    kit_BadPaper_ValueError := kit_BadPaper_ValueError,
    kit_BadPaper_BadPaper := kit_BadPaper_BadPaper,
    x_BadPaper := { cls := ⟨_, _, _, _, _, _, _, _, _, _, _, _, _, _, _, xL_BadPaper, xR_BadPaper⟩, sa := xsa_BadPaper, ga := xga_BadPaper, gg := xgg_BadPaper, noN := xnoN_BadPaper, iC := xiC_BadPaper, tC := xtC_BadPaper, kC := xkC_BadPaper, exC := xexC_BadPaper, veC := xveC_BadPaper, tyC := xtyC_BadPaper, hdC := xhdC_BadPaper, ms := xms_BadPaper, su := xsu_BadPaper, op := xop_BadPaper, fn := ⟨_, _, _, _, _, _, _, _, _, _, _, _, _, _, _, _, _, _, _, _, _, _, _, _, _, xF_BadPaper, xC_BadPaper, xP_BadPaper, ⟨_, _, _, _, _, _, xO_BadPaper, xV_BadPaper, xN_BadPaper⟩, _, _, _, xG_BadPaper⟩, topS := xT_BadPaper } }
  exact ⟨_, fun s v => .of_eq rfl, fun base _ _ => law_ok T⟩
theorem walk {q : Program} {loose : List Str} {XP : (Str → Option Value) → Heap → Prop} {YP : World → Heap → Prop} {d : DefRec} {K : Params → PySem.W.Frag} (hdf : d.params.defaults = [])
    (hY : ∀ (w : World) (h : Heap), YP w h → (K w.params).In h)
    (F : ∀ (w : World) (mg : Str → Option Value) (fa : Addr) (h : Heap), (K w.params).In h → h.Ns mainGlobals mg → mg d.name = some (.ref fa) →
      ∃ fd : FuncData, (∀ (s : Shared) (u : Value), BindsTo s fd ⟨[u], []⟩ [("script", u)]) ∧ ∀ base : Heap, (K w.params).In base → base.Ns mainGlobals mg → FnOk (PySem.Challenge.rw_someobjects_k71_whole_papers_are_read_ex).prog w (K w.params) mg base CX0 231 fa fd ["script"] (spLaw (K w.params))) :
    PySem.W.WalkO q loose XP YP (PySem.Challenge.rw_someobjects_k71_whole_papers_are_read_ex).row.toRowW d [] (fun f vs => PySem.call f vs) :=
  L2.walk_of (l := PySem.Challenge.rw_someobjects_k71_whole_papers_are_read_ex) (n := 63) (k := 231) (x := "script") (CX := fun _ => CX0) (sp := fun w => spLaw (K w.params)) rfl (by decide) hdf ⟨rfl, by decide, by decide⟩ hY F (fun _ _ a ns _ _ hS => ⟨a, ns, rfl, hS, fun _ => rfl⟩) fun _ _ _ _ _ z => z
end G
open PySem PySem.W PyProof.Rows in
set_option maxRecDepth 100000 in
set_option maxHeartbeats 0 in
theorem PySem.Challenge.cw_someobjects_k71_whole_papers_are_read_ex_holds : PySem.Challenge.rw_someobjects_k71_whole_papers_are_read_ex.Holds := by
  w_on; o_law; k_head; (case hw => w_witness2)
  k_fill
  refine G.walk rfl (fun w h Y => PySem.W.kIn_of Y) ?F
  case F =>
    intro w mg fa h KX hN hmg
    refine' G.all_mk KX hN hmg ?n_ValueError ?n_all ?n_bool ?n_int ?n_isinstance ?n_len ?n_list ?n_max ?n_range ?n_str ?n_super ?n_tuple ?c_DIGITS ?c_MOST_DIGITS ?gC_Lines ?gC_Found ?gX_BadPaper ?gX_BadMachine ?gX_BadRule ?gX_BadText ?gX_TooLarge ?gE_ObjectError ?a_copied ?l_copied ?c_copied ?k_copied ?a_Found_initdd ?i_Found_initdd ?l_Found_initdd ?c_Found_initdd ?k_Found_initdd ?a_paper_lines ?l_paper_lines ?c_paper_lines ?k_paper_lines ?a_row_line ?l_row_line ?c_row_line ?k_row_line ?a_written ?l_written ?c_written ?k_written ?a_read_paper ?l_read_paper ?c_read_paper ?k_read_paper ?a_Lines_head ?i_Lines_head ?l_Lines_head ?c_Lines_head ?k_Lines_head ?a_Lines_rows ?i_Lines_rows ?l_Lines_rows ?c_Lines_rows ?k_Lines_rows ?a_Lines_row ?i_Lines_row ?l_Lines_row ?c_Lines_row ?k_Lines_row ?a_Lines_finish ?i_Lines_finish ?l_Lines_finish ?c_Lines_finish ?k_Lines_finish ?a_Lines_initdd ?i_Lines_initdd ?l_Lines_initdd ?c_Lines_initdd ?k_Lines_initdd ?a_read_ring_paper ?l_read_ring_paper ?c_read_ring_paper ?k_read_ring_paper ?a_Lines_take ?i_Lines_take ?l_Lines_take ?c_Lines_take ?k_Lines_take ?a_Lines_need ?i_Lines_need ?l_Lines_need ?c_Lines_need ?k_Lines_need ?a_is_number ?l_is_number ?c_is_number ?k_is_number ?a_Lines_labels_told ?i_Lines_labels_told ?l_Lines_labels_told ?c_Lines_labels_told ?k_Lines_labels_told ?a_law_pool ?l_law_pool ?c_law_pool ?k_law_pool ?a_law_draw ?l_law_draw ?c_law_draw ?k_law_draw ?a_law_same ?l_law_same ?c_law_same ?k_law_same ?a_law_text ?l_law_text ?c_law_text ?k_law_text ?a_law_entry ?l_law_entry ?c_law_entry ?k_law_entry ?a_law_drawn ?l_law_drawn ?c_law_drawn ?k_law_drawn ?a_law_read ?l_law_read ?c_law_read ?k_law_read ?a_law_digits ?l_law_digits ?c_law_digits ?k_law_digits ?a_law_bad ?l_law_bad ?c_law_bad ?k_law_bad ?a_law_menu ?l_law_menu ?c_law_menu ?k_law_menu ?a_law_changed ?l_law_changed ?c_law_changed ?k_law_changed ?a_law ?l_law ?c_law ?k_law ?pg_Found ?hd_Found ?po_Found ?sa_Found ?pg_Lines ?hd_Lines ?po_Lines ?sa_Lines ?no_Found_cost ?no_Found_ends ?no_Found_kind ?no_Found_labels ?no_Found_numbers ?no_Lines_at ?no_Lines_lines ?mk_Lines ?kp_Lines ?mk_Found ?kp_Found ?exo_BadPaper_ObjectError ?echg_BadPaper ?echk_BadPaper ?echs_BadPaper ?echd_BadPaper ?echa_BadPaper ?echn_BadPaper ?echt_BadPaper ?echm_BadPaper ?kitT_BadPaper ?kit_BadPaper_ValueError ?kit_BadPaper_BadPaper ?xL_BadPaper ?xR_BadPaper ?xsa_BadPaper ?xga_BadPaper ?xgg_BadPaper ?xnoN_BadPaper ?xiC_BadPaper ?xtC_BadPaper ?xkC_BadPaper ?xexC_BadPaper ?xveC_BadPaper ?xtyC_BadPaper ?xhdC_BadPaper ?xms_BadPaper ?xsu_BadPaper ?xop_BadPaper ?xF_BadPaper ?xC_BadPaper ?xP_BadPaper ?xO_BadPaper ?xV_BadPaper ?xN_BadPaper ?xG_BadPaper ?xT_BadPaper
    (case n_ValueError => first | k_is | ks_is | kts_exm | kit_is | rfl | decide +kernel)
    (case n_all => first | k_is | ks_is | kts_exm | kit_is | rfl | decide +kernel)
    (case n_bool => first | k_is | ks_is | kts_exm | kit_is | rfl | decide +kernel)
    (case n_int => first | k_is | ks_is | kts_exm | kit_is | rfl | decide +kernel)
    (case n_isinstance => first | k_is | ks_is | kts_exm | kit_is | rfl | decide +kernel)
    (case n_len => first | k_is | ks_is | kts_exm | kit_is | rfl | decide +kernel)
    (case n_list => first | k_is | ks_is | kts_exm | kit_is | rfl | decide +kernel)
    (case n_max => first | k_is | ks_is | kts_exm | kit_is | rfl | decide +kernel)
    (case n_range => first | k_is | ks_is | kts_exm | kit_is | rfl | decide +kernel)
    (case n_str => first | k_is | ks_is | kts_exm | kit_is | rfl | decide +kernel)
    (case n_super => first | k_is | ks_is | kts_exm | kit_is | rfl | decide +kernel)
    (case n_tuple => first | k_is | ks_is | kts_exm | kit_is | rfl | decide +kernel)
    (case c_DIGITS => first | k_is | ks_is | kts_exm | kit_is | rfl | decide +kernel)
    (case c_MOST_DIGITS => first | k_is | ks_is | kts_exm | kit_is | rfl | decide +kernel)
    (case gC_Lines => first | k_is | ks_is | kts_exm | kit_is | rfl | decide +kernel)
    (case gC_Found => first | k_is | ks_is | kts_exm | kit_is | rfl | decide +kernel)
    (case gX_BadPaper => first | k_is | ks_is | kts_exm | kit_is | rfl | decide +kernel)
    (case gX_BadMachine => first | k_is | ks_is | kts_exm | kit_is | rfl | decide +kernel)
    (case gX_BadRule => first | k_is | ks_is | kts_exm | kit_is | rfl | decide +kernel)
    (case gX_BadText => first | k_is | ks_is | kts_exm | kit_is | rfl | decide +kernel)
    (case gX_TooLarge => first | k_is | ks_is | kts_exm | kit_is | rfl | decide +kernel)
    (case gE_ObjectError => first | k_is | ks_is | kts_exm | kit_is | rfl | decide +kernel)
    (case a_copied => first | k_is | ks_is | kts_exm | kit_is | rfl | decide +kernel)
    (case l_copied => first | k_is | ks_is | kts_exm | kit_is | rfl | decide +kernel)
    (case c_copied => first | k_is | ks_is | kts_exm | kit_is | rfl | decide +kernel)
    (case k_copied => first | k_is | ks_is | kts_exm | kit_is | rfl | decide +kernel)
    (case a_Found_initdd => first | k_is | ks_is | kts_exm | kit_is | rfl | decide +kernel)
    (case i_Found_initdd => first | k_is | ks_is | kts_exm | kit_is | rfl | decide +kernel)
    (case l_Found_initdd => first | k_is | ks_is | kts_exm | kit_is | rfl | decide +kernel)
    (case c_Found_initdd => first | k_is | ks_is | kts_exm | kit_is | rfl | decide +kernel)
    (case k_Found_initdd => first | k_is | ks_is | kts_exm | kit_is | rfl | decide +kernel)
    (case a_paper_lines => first | k_is | ks_is | kts_exm | kit_is | rfl | decide +kernel)
    (case l_paper_lines => first | k_is | ks_is | kts_exm | kit_is | rfl | decide +kernel)
    (case c_paper_lines => first | k_is | ks_is | kts_exm | kit_is | rfl | decide +kernel)
    (case k_paper_lines => first | k_is | ks_is | kts_exm | kit_is | rfl | decide +kernel)
    (case a_row_line => first | k_is | ks_is | kts_exm | kit_is | rfl | decide +kernel)
    (case l_row_line => first | k_is | ks_is | kts_exm | kit_is | rfl | decide +kernel)
    (case c_row_line => first | k_is | ks_is | kts_exm | kit_is | rfl | decide +kernel)
    (case k_row_line => first | k_is | ks_is | kts_exm | kit_is | rfl | decide +kernel)
    (case a_written => first | k_is | ks_is | kts_exm | kit_is | rfl | decide +kernel)
    (case l_written => first | k_is | ks_is | kts_exm | kit_is | rfl | decide +kernel)
    (case c_written => first | k_is | ks_is | kts_exm | kit_is | rfl | decide +kernel)
    (case k_written => first | k_is | ks_is | kts_exm | kit_is | rfl | decide +kernel)
    (case a_read_paper => first | k_is | ks_is | kts_exm | kit_is | rfl | decide +kernel)
    (case l_read_paper => first | k_is | ks_is | kts_exm | kit_is | rfl | decide +kernel)
    (case c_read_paper => first | k_is | ks_is | kts_exm | kit_is | rfl | decide +kernel)
    (case k_read_paper => first | k_is | ks_is | kts_exm | kit_is | rfl | decide +kernel)
    (case a_Lines_head => first | k_is | ks_is | kts_exm | kit_is | rfl | decide +kernel)
    (case i_Lines_head => first | k_is | ks_is | kts_exm | kit_is | rfl | decide +kernel)
    (case l_Lines_head => first | k_is | ks_is | kts_exm | kit_is | rfl | decide +kernel)
    (case c_Lines_head => first | k_is | ks_is | kts_exm | kit_is | rfl | decide +kernel)
    (case k_Lines_head => first | k_is | ks_is | kts_exm | kit_is | rfl | decide +kernel)
    (case a_Lines_rows => first | k_is | ks_is | kts_exm | kit_is | rfl | decide +kernel)
    (case i_Lines_rows => first | k_is | ks_is | kts_exm | kit_is | rfl | decide +kernel)
    (case l_Lines_rows => first | k_is | ks_is | kts_exm | kit_is | rfl | decide +kernel)
    (case c_Lines_rows => first | k_is | ks_is | kts_exm | kit_is | rfl | decide +kernel)
    (case k_Lines_rows => first | k_is | ks_is | kts_exm | kit_is | rfl | decide +kernel)
    (case a_Lines_row => first | k_is | ks_is | kts_exm | kit_is | rfl | decide +kernel)
    (case i_Lines_row => first | k_is | ks_is | kts_exm | kit_is | rfl | decide +kernel)
    (case l_Lines_row => first | k_is | ks_is | kts_exm | kit_is | rfl | decide +kernel)
    (case c_Lines_row => first | k_is | ks_is | kts_exm | kit_is | rfl | decide +kernel)
    (case k_Lines_row => first | k_is | ks_is | kts_exm | kit_is | rfl | decide +kernel)
    (case a_Lines_finish => first | k_is | ks_is | kts_exm | kit_is | rfl | decide +kernel)
    (case i_Lines_finish => first | k_is | ks_is | kts_exm | kit_is | rfl | decide +kernel)
    (case l_Lines_finish => first | k_is | ks_is | kts_exm | kit_is | rfl | decide +kernel)
    (case c_Lines_finish => first | k_is | ks_is | kts_exm | kit_is | rfl | decide +kernel)
    (case k_Lines_finish => first | k_is | ks_is | kts_exm | kit_is | rfl | decide +kernel)
    (case a_Lines_initdd => first | k_is | ks_is | kts_exm | kit_is | rfl | decide +kernel)
    (case i_Lines_initdd => first | k_is | ks_is | kts_exm | kit_is | rfl | decide +kernel)
    (case l_Lines_initdd => first | k_is | ks_is | kts_exm | kit_is | rfl | decide +kernel)
    (case c_Lines_initdd => first | k_is | ks_is | kts_exm | kit_is | rfl | decide +kernel)
    (case k_Lines_initdd => first | k_is | ks_is | kts_exm | kit_is | rfl | decide +kernel)
    (case a_read_ring_paper => first | k_is | ks_is | kts_exm | kit_is | rfl | decide +kernel)
    (case l_read_ring_paper => first | k_is | ks_is | kts_exm | kit_is | rfl | decide +kernel)
    (case c_read_ring_paper => first | k_is | ks_is | kts_exm | kit_is | rfl | decide +kernel)
    (case k_read_ring_paper => first | k_is | ks_is | kts_exm | kit_is | rfl | decide +kernel)
    (case a_Lines_take => first | k_is | ks_is | kts_exm | kit_is | rfl | decide +kernel)
    (case i_Lines_take => first | k_is | ks_is | kts_exm | kit_is | rfl | decide +kernel)
    (case l_Lines_take => first | k_is | ks_is | kts_exm | kit_is | rfl | decide +kernel)
    (case c_Lines_take => first | k_is | ks_is | kts_exm | kit_is | rfl | decide +kernel)
    (case k_Lines_take => first | k_is | ks_is | kts_exm | kit_is | rfl | decide +kernel)
    (case a_Lines_need => first | k_is | ks_is | kts_exm | kit_is | rfl | decide +kernel)
    (case i_Lines_need => first | k_is | ks_is | kts_exm | kit_is | rfl | decide +kernel)
    (case l_Lines_need => first | k_is | ks_is | kts_exm | kit_is | rfl | decide +kernel)
    (case c_Lines_need => first | k_is | ks_is | kts_exm | kit_is | rfl | decide +kernel)
    (case k_Lines_need => first | k_is | ks_is | kts_exm | kit_is | rfl | decide +kernel)
    (case a_is_number => first | k_is | ks_is | kts_exm | kit_is | rfl | decide +kernel)
    (case l_is_number => first | k_is | ks_is | kts_exm | kit_is | rfl | decide +kernel)
    (case c_is_number => first | k_is | ks_is | kts_exm | kit_is | rfl | decide +kernel)
    (case k_is_number => first | k_is | ks_is | kts_exm | kit_is | rfl | decide +kernel)
    (case a_Lines_labels_told => first | k_is | ks_is | kts_exm | kit_is | rfl | decide +kernel)
    (case i_Lines_labels_told => first | k_is | ks_is | kts_exm | kit_is | rfl | decide +kernel)
    (case l_Lines_labels_told => first | k_is | ks_is | kts_exm | kit_is | rfl | decide +kernel)
    (case c_Lines_labels_told => first | k_is | ks_is | kts_exm | kit_is | rfl | decide +kernel)
    (case k_Lines_labels_told => first | k_is | ks_is | kts_exm | kit_is | rfl | decide +kernel)
    (case a_law_pool => first | k_is | ks_is | kts_exm | kit_is | rfl | decide +kernel)
    (case l_law_pool => first | k_is | ks_is | kts_exm | kit_is | rfl | decide +kernel)
    (case c_law_pool => first | k_is | ks_is | kts_exm | kit_is | rfl | decide +kernel)
    (case k_law_pool => first | k_is | ks_is | kts_exm | kit_is | rfl | decide +kernel)
    (case a_law_draw => first | k_is | ks_is | kts_exm | kit_is | rfl | decide +kernel)
    (case l_law_draw => first | k_is | ks_is | kts_exm | kit_is | rfl | decide +kernel)
    (case c_law_draw => first | k_is | ks_is | kts_exm | kit_is | rfl | decide +kernel)
    (case k_law_draw => first | k_is | ks_is | kts_exm | kit_is | rfl | decide +kernel)
    (case a_law_same => first | k_is | ks_is | kts_exm | kit_is | rfl | decide +kernel)
    (case l_law_same => first | k_is | ks_is | kts_exm | kit_is | rfl | decide +kernel)
    (case c_law_same => first | k_is | ks_is | kts_exm | kit_is | rfl | decide +kernel)
    (case k_law_same => first | k_is | ks_is | kts_exm | kit_is | rfl | decide +kernel)
    (case a_law_text => first | k_is | ks_is | kts_exm | kit_is | rfl | decide +kernel)
    (case l_law_text => first | k_is | ks_is | kts_exm | kit_is | rfl | decide +kernel)
    (case c_law_text => first | k_is | ks_is | kts_exm | kit_is | rfl | decide +kernel)
    (case k_law_text => first | k_is | ks_is | kts_exm | kit_is | rfl | decide +kernel)
    (case a_law_entry => first | k_is | ks_is | kts_exm | kit_is | rfl | decide +kernel)
    (case l_law_entry => first | k_is | ks_is | kts_exm | kit_is | rfl | decide +kernel)
    (case c_law_entry => first | k_is | ks_is | kts_exm | kit_is | rfl | decide +kernel)
    (case k_law_entry => first | k_is | ks_is | kts_exm | kit_is | rfl | decide +kernel)
    (case a_law_drawn => first | k_is | ks_is | kts_exm | kit_is | rfl | decide +kernel)
    (case l_law_drawn => first | k_is | ks_is | kts_exm | kit_is | rfl | decide +kernel)
    (case c_law_drawn => first | k_is | ks_is | kts_exm | kit_is | rfl | decide +kernel)
    (case k_law_drawn => first | k_is | ks_is | kts_exm | kit_is | rfl | decide +kernel)
    (case a_law_read => first | k_is | ks_is | kts_exm | kit_is | rfl | decide +kernel)
    (case l_law_read => first | k_is | ks_is | kts_exm | kit_is | rfl | decide +kernel)
    (case c_law_read => first | k_is | ks_is | kts_exm | kit_is | rfl | decide +kernel)
    (case k_law_read => first | k_is | ks_is | kts_exm | kit_is | rfl | decide +kernel)
    (case a_law_digits => first | k_is | ks_is | kts_exm | kit_is | rfl | decide +kernel)
    (case l_law_digits => first | k_is | ks_is | kts_exm | kit_is | rfl | decide +kernel)
    (case c_law_digits => first | k_is | ks_is | kts_exm | kit_is | rfl | decide +kernel)
    (case k_law_digits => first | k_is | ks_is | kts_exm | kit_is | rfl | decide +kernel)
    (case a_law_bad => first | k_is | ks_is | kts_exm | kit_is | rfl | decide +kernel)
    (case l_law_bad => first | k_is | ks_is | kts_exm | kit_is | rfl | decide +kernel)
    (case c_law_bad => first | k_is | ks_is | kts_exm | kit_is | rfl | decide +kernel)
    (case k_law_bad => first | k_is | ks_is | kts_exm | kit_is | rfl | decide +kernel)
    (case a_law_menu => first | k_is | ks_is | kts_exm | kit_is | rfl | decide +kernel)
    (case l_law_menu => first | k_is | ks_is | kts_exm | kit_is | rfl | decide +kernel)
    (case c_law_menu => first | k_is | ks_is | kts_exm | kit_is | rfl | decide +kernel)
    (case k_law_menu => first | k_is | ks_is | kts_exm | kit_is | rfl | decide +kernel)
    (case a_law_changed => first | k_is | ks_is | kts_exm | kit_is | rfl | decide +kernel)
    (case l_law_changed => first | k_is | ks_is | kts_exm | kit_is | rfl | decide +kernel)
    (case c_law_changed => first | k_is | ks_is | kts_exm | kit_is | rfl | decide +kernel)
    (case k_law_changed => first | k_is | ks_is | kts_exm | kit_is | rfl | decide +kernel)
    (case a_law => first | k_is | ks_is | kts_exm | kit_is | rfl | decide +kernel)
    (case l_law => first | k_is | ks_is | kts_exm | kit_is | rfl | decide +kernel)
    (case c_law => first | k_is | ks_is | kts_exm | kit_is | rfl | decide +kernel)
    (case k_law => first | k_is | ks_is | kts_exm | kit_is | rfl | decide +kernel)
    (case pg_Found => first | k_is | ks_is | kts_exm | kit_is | rfl | decide +kernel)
    (case hd_Found => first | k_is | ks_is | kts_exm | kit_is | rfl | decide +kernel)
    (case po_Found => first | k_is | ks_is | kts_exm | kit_is | rfl | decide +kernel)
    (case sa_Found => first | k_is | ks_is | kts_exm | kit_is | rfl | decide +kernel)
    (case pg_Lines => first | k_is | ks_is | kts_exm | kit_is | rfl | decide +kernel)
    (case hd_Lines => first | k_is | ks_is | kts_exm | kit_is | rfl | decide +kernel)
    (case po_Lines => first | k_is | ks_is | kts_exm | kit_is | rfl | decide +kernel)
    (case sa_Lines => first | k_is | ks_is | kts_exm | kit_is | rfl | decide +kernel)
    (case no_Found_cost => first | k_is | ks_is | kts_exm | kit_is | rfl | decide +kernel)
    (case no_Found_ends => first | k_is | ks_is | kts_exm | kit_is | rfl | decide +kernel)
    (case no_Found_kind => first | k_is | ks_is | kts_exm | kit_is | rfl | decide +kernel)
    (case no_Found_labels => first | k_is | ks_is | kts_exm | kit_is | rfl | decide +kernel)
    (case no_Found_numbers => first | k_is | ks_is | kts_exm | kit_is | rfl | decide +kernel)
    (case no_Lines_at => first | k_is | ks_is | kts_exm | kit_is | rfl | decide +kernel)
    (case no_Lines_lines => first | k_is | ks_is | kts_exm | kit_is | rfl | decide +kernel)
    (case mk_Lines => first | k_is | ks_is | kts_exm | kit_is | rfl | decide +kernel)
    (case kp_Lines => first | k_is | ks_is | kts_exm | kit_is | rfl | decide +kernel)
    (case mk_Found => first | k_is | ks_is | kts_exm | kit_is | rfl | decide +kernel)
    (case kp_Found => first | k_is | ks_is | kts_exm | kit_is | rfl | decide +kernel)
    (case exo_BadPaper_ObjectError => first | k_is | ks_is | kts_exm | kit_is | rfl | decide +kernel)
    (case echg_BadPaper => first | k_is | ks_is | kts_exm | kit_is | rfl | decide +kernel)
    (case echk_BadPaper => first | k_is | ks_is | kts_exm | kit_is | rfl | decide +kernel)
    (case echs_BadPaper => first | k_is | ks_is | kts_exm | kit_is | rfl | decide +kernel)
    (case echd_BadPaper => first | k_is | ks_is | kts_exm | kit_is | rfl | decide +kernel)
    (case echa_BadPaper => first | k_is | ks_is | kts_exm | kit_is | rfl | decide +kernel)
    (case echn_BadPaper => first | k_is | ks_is | kts_exm | kit_is | rfl | decide +kernel)
    (case echt_BadPaper => first | k_is | ks_is | kts_exm | kit_is | rfl | decide +kernel)
    (case echm_BadPaper => first | k_is | ks_is | kts_exm | kit_is | rfl | decide +kernel)
    (case kitT_BadPaper => first | k_is | ks_is | kts_exm | kit_is | rfl | decide +kernel)
    (case kit_BadPaper_ValueError => first | k_is | ks_is | kts_exm | kit_is | rfl | decide +kernel)
    (case kit_BadPaper_BadPaper => first | k_is | ks_is | kts_exm | kit_is | rfl | decide +kernel)
    (case xL_BadPaper => first | k_is | ks_is | kts_exm | kit_is | rfl | decide +kernel)
    (case xR_BadPaper => first | k_is | ks_is | kts_exm | kit_is | rfl | decide +kernel)
    (case xsa_BadPaper => first | k_is | ks_is | kts_exm | kit_is | rfl | decide +kernel)
    (case xga_BadPaper => first | k_is | ks_is | kts_exm | kit_is | rfl | decide +kernel)
    (case xgg_BadPaper => first | k_is | ks_is | kts_exm | kit_is | rfl | decide +kernel)
    (case xnoN_BadPaper => first | k_is | ks_is | kts_exm | kit_is | rfl | decide +kernel)
    (case xiC_BadPaper => first | k_is | ks_is | kts_exm | kit_is | rfl | decide +kernel)
    (case xtC_BadPaper => first | k_is | ks_is | kts_exm | kit_is | rfl | decide +kernel)
    (case xkC_BadPaper => first | k_is | ks_is | kts_exm | kit_is | rfl | decide +kernel)
    (case xexC_BadPaper => first | k_is | ks_is | kts_exm | kit_is | rfl | decide +kernel)
    (case xveC_BadPaper => first | k_is | ks_is | kts_exm | kit_is | rfl | decide +kernel)
    (case xtyC_BadPaper => first | k_is | ks_is | kts_exm | kit_is | rfl | decide +kernel)
    (case xhdC_BadPaper => first | k_is | ks_is | kts_exm | kit_is | rfl | decide +kernel)
    (case xms_BadPaper => first | k_is | ks_is | kts_exm | kit_is | rfl | decide +kernel)
    (case xsu_BadPaper => first | k_is | ks_is | kts_exm | kit_is | rfl | decide +kernel)
    (case xop_BadPaper => first | k_is | ks_is | kts_exm | kit_is | rfl | decide +kernel)
    (case xF_BadPaper => first | k_is | ks_is | kts_exm | kit_is | rfl | decide +kernel)
    (case xC_BadPaper => first | k_is | ks_is | kts_exm | kit_is | rfl | decide +kernel)
    (case xP_BadPaper => first | k_is | ks_is | kts_exm | kit_is | rfl | decide +kernel)
    (case xO_BadPaper => first | k_is | ks_is | kts_exm | kit_is | rfl | decide +kernel)
    (case xV_BadPaper => first | k_is | ks_is | kts_exm | kit_is | rfl | decide +kernel)
    (case xN_BadPaper => first | k_is | ks_is | kts_exm | kit_is | rfl | decide +kernel)
    (case xG_BadPaper => first | k_is | ks_is | kts_exm | kit_is | rfl | decide +kernel)
    (case xT_BadPaper => first | k_is | ks_is | kts_exm | kit_is | rfl | decide +kernel)
end

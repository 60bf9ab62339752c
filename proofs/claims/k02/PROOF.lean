import PyProof.Rows.All
import Wide.All
import OpenK.AllK
import Wide.FinOn
import HandS.ForMost
import HandS.ForExc
import HandS.FStr
import HandS.ExcInit
import KE.KExcSuper
import KE.KSuper
import HandS.ExcCtx
import HandS.ExcIs
import HandS.IsInst
import HandS.Evl
import HandS.Deep
import HandS.Flow
import HandS.Exc
import HandS.RevRange
import HandS.Rev
import HandS.Zip
import HandS.Comp
import HandS.Words
import HandS.Text
import HandS.Wide
import HandS.SortInts
import HandS.Iter
import HandS.Style
import HandS.TupAny
import HandS.Codes
import HandS.ExcOwn
import HandS.HotCalls
import KE.RegKSuper
import KE.RegKTryMore
import KE.RegKIsAll
import PySem.Challenge.RW_someobjects_k02_whole_texts_of_trees
section
set_option Elab.async false
set_option linter.all false
set_option maxRecDepth 100000
set_option maxHeartbeats 4000000
/-! An own error: super().__init__(f"..{a}"), then self.a = a. -/
namespace EX
open PySem PySem.W PySem.Calls PyProof.Rows PySem.HandSPX
abbrev eArgs (a : Str) (p1 p2 : Pos) : Arguments := { posonlyargs := [], args := [{ arg := "self", annotation := none, pos := p1 }, { arg := a, annotation := none, pos := p2 }], vararg := none, kwonlyargs := [], kw_defaults := [], kwarg := none, defaults := [] }
abbrev eBody (a txt : Str) (p0 p1 p2 p3 p4 p5 p6 p7 p8 q1 q2 q3 q4 : Pos) : List Stmt :=
  [.Expr (.Call (.Attribute (.Call (.Name "super" p0) [] [] p1) "__init__" p2) [.JoinedStr [.Constant (.str txt) 0 p3, .FormattedValue (.Name a p4) (-1) none p5] p6] [] p7) p8,
   .Assign [.Attribute (.Name "self" q1) a q2] (.Name a q3) q4]
abbrev eScope (a : Str) : Scope := { kind := .function, names := [(PySem.Str.ofString "self", .local), (a, .local), (PySem.Str.ofString "__class__", .free), (PySem.Str.ofString "super", .globalImplicit)], isGenerator := false, isCoroutine := false, more := [] }
/-- what the written part says of an own error's class at C, its __init__ at fI -/
structure ErrTxt (prog : Program) (K : Frag) (C fI : Addr) (a txt : Str) : Prop where
  cls : ∃ nm q N bs bm sn sub ab col dd k0 k1 k2 k3 k5, K.lookup C = some (excClassObj nm q C N bs bm true sn sub ab col dd k0 k1 k2 k3 k5 "ValueError.__new__") ∧ refsVE bm = true
  sa : findIn K (.ref C) "__setattr__" = some (some (.builtin "object.__setattr__"))
  ga : findIn K (.ref C) "__getattribute__" = some (some (.builtin "BaseException.__getattribute__"))
  gg : findIn K (.ref C) "__getattr__" = some none
  noN : findIn K (.ref C) a = some none
  iC : findIn K (.ref C) "__init__" = some (some (.ref fI))
  tC : typeIn K (.ref fI) = some (.type "function")
  kC : keepIn K (.ref C) = true
  exC : subIn K (.ref C) (.type "BaseException") = some true
  veC : subIn K (.ref C) (.type "ValueError") = some true
  tyC : typeIn K (.ref C) = some (.type "type")
  hdC : hasDictIn K C = true
  ms : mroIn K C (.ref C) = some true
  su : ks_superIn K C C "__init__" = some (some (.builtin "ValueError.__init__"))
  op : nsIn K cStatics "thirdparty.any" = some none
  fn : ∃ (oc : Value) (od : Option Addr) (qual : Str) (doc pm : Value) (an : Option Addr) (cda cc : Addr) (ct : Value) (osl : Array (Option Value)) (p1 p2 p0 p1' p2' p3 p4 p5 p6 p7 p8 q1 q2 q3 q4 : Pos),
    K.lookup fI = some ⟨oc, od, .func (ksFn "__init__" qual (eArgs a p1 p2) (eBody a txt p0 p1' p2' p3 p4 p5 p6 p7 p8 q1 q2 q3 q4) (eScope a) .none .none doc pm an (.ref cda) ct cc), osl⟩ ∧ codeIn K (.ref cda) qual = true ∧ (p2'.endLine == p7.line) = true ∧
    (∃ (ccl : Value) (cdd : Option Addr) (vs : Array Value) (ccs : Array (Option Value)) (file : Str) (tf : Tok), K.lookup cda = some ⟨ccl, cdd, .fields vs, ccs⟩ ∧ vs[2]? = some (.str file tf) ∧ ((prog.main.file : Str) == file) = true) ∧
    ∃ (cl : Value) (cld : Option Addr) (csl : Array (Option Value)), K.lookup cc = some ⟨cl, cld, .cell (some (.ref C)), csl⟩
  topS : (prog.main.scope.names.lookup ("super" : Str)).isSome = false
/-- a name of the class's own field: not one of the names that __init__ has beside -/
def NmOk (a : Str) : Prop := a = "at" ∨ a = "what"
/-- what an error tells: a short text or a small int -/
inductive Small : Value → Prop
  | str (y : Str) (t : Tok) : y.length ≤ 1000 → Small (.str y t)
  | int (i : Int) (t : Tok) : i.natAbs.log2 < 1000 → Small (.int i t)

theorem ev1 (p0 p1' p2' p7 : Pos) (env : Env) (e : Expr) (hp : (p2'.endLine == p7.line) = true) (hs : starEach (e :: []) env = [(false, eval e env)]) : eval (.Call (.Attribute (.Call (.Name "super" p0) [] [] p1') "__init__" p2') [e] [] p7) env = (do
      let ov ← attributeBase (.Call (.Name "super" p0) [] [] p1') "__init__" env (eval (.Call (.Name "super" p0) [] [] p1') env)
      standAt p2'.atName
      let (f, first) ← holding [ov] (getMethod ov "__init__" (do return (← importBound (.Call (.Name "super" p0) [] [] p1') env).getD true))
      callWith p7 f first (backTo p7 (starEach [e] env)) []) := by
  show (do
    let ov ← attributeBase (.Call (.Name "super" p0) [] [] p1') "__init__" env (eval (.Call (.Name "super" p0) [] [] p1') env)
    standAt p2'.atName
    methodCall (.Call (.Name "super" p0) [] [] p1') "__init__" p2' p7 env ov 1 (backTo p7 (starEach [e] env)) (backToKw p7 (keywordEach [] env))) = _
  have h1 : methodCallForm 1 (backTo p7 (starEach [e] env)) (backToKw p7 (keywordEach [] env)) = true := by rw [hs]; rfl
  have h2 : methodCallPos true (.Call (.Name "super" p0) [] [] p1') env p2' p7 = pure p7 := by
    unfold methodCallPos
    rw [hp]
    rfl
  congr 1
  funext ov
  congr 1
  funext u
  unfold methodCall
  rw [h1, h2]
  congr 1

/-! the wrapper's call, by the heap -/
section
variable {prog : Program} {w : World} {A : Around} {E : Value → Shared → Prop} {h : Heap} {g : Array GenState} {d : Drawn} {t : Nat} {os : OsState}
variable {nm q : Str} {C N : Addr} {bs bm : List Value} {hdct : Bool} {sn : List Str} {sub : List Value} {ab : Bool} {col : Option Bool} {dd : Option Addr} {k0 k1 k2 k3 k5 : Option Value}
theorem call_mw {u e t0 : Addr} {rest : List Value} {Q : Value → Shared → Prop}
    (hC : h.get? C = some (excClassObj nm q C N bs bm hdct sn sub ab col dd k0 k1 k2 k3 k5 "ValueError.__new__")) (he : h.get? e = some (excO C t0)) (hu : h.get? u = some (kxs_mw "ValueError.__init__" e)) (hrest : rest.length ≤ sizeLine)
    (hq : ∀ h' t1, (∀ b o, b ≠ e → h.get? b = some o → h'.get? b = some o) → h'.get? e = some (excO C t1) → Q .none ⟨h', g, d, t, os⟩) :
    wpAny (model prog w) A (call (.ref u) rest) Q E ⟨h, g, d, t, os⟩ := by
  refine wpAny_call (codeAny_of_tree ?_)
  show wpAny _ A.in1 (callAny (.ref u) ⟨rest, []⟩) _ _ _
  simp only [callAny]
  refine wpAny_bind (wpAny_load hu ?_)
  simp only [kxs_mw, show (Value.type "method-wrapper" == Value.type "method" || Value.type "method-wrapper" == Value.type "builtin_function_or_method" || Value.type "method-wrapper" == Value.type "method-wrapper") = true by decide, if_true]
  refine KFB.if_so (by decide) ?_
  refine wpAny_bind (check_bound_init F.excBase_ValueError.toExcCallFacts hC he rfl ?_)
  refine wpAny_bind (wpAny_pure (wpAny_pure ?_))
  refine ⟨Code.quiet_builtin _ (by decide +kernel), codeAny_builtin F.excBase_ValueError.initEntry ?_⟩
  rw [Around.under_plainId F.excBase_ValueError.init.plain _]
  wp_walk
  refine hq _ h.objs.size (fun b o hb ho => ?_) ?_
  · rw [Heap.get?_update_other _ _ (Ne.symm hb)]
    exact Heap.get?_push_of_some _ ho
  · rw [Heap.get?_update_self _ (Heap.get?_push_of_some _ he) rfl]
    rfl
end
end EX
end

section
set_option Elab.async false
set_option linter.all false
set_option maxRecDepth 100000
set_option maxHeartbeats 4000000
namespace EX
open PySem PySem.W PySem.Calls PyProof.Rows PySem.HandSPX
/-- what __init__ leaves of a fresh exception at x -/
structure InitEnd (h h' : Heap) (x C dx t1 : Addr) (a : Str) (v : Value) : Prop where
  keep : ∀ b o, b ≠ x → h.get? b = some o → h'.get? b = some o
  obj : h'.get? x = some { cls := .ref C, dict := some dx, data := .fields #[.ref t1, .none, .none, .none, .bool false, .none] }
  dbig : h.objs.size ≤ dx
  dne : dx ≠ x
  ns : h'.Ns1 dx (fun y => if y = a then some v else none)
section
variable {prog : Program} {w : World} {A : Around} {E : Value → Shared → Prop} {R : Result → Shared → Prop} {s : Shared} {K : Frag} {mg : Str → Option Value} {base : Heap} {C fI : Addr} {a txt : Str}
theorem ldA {M : Model} {A : Around} {E : Value → Shared → Prop} {s : Shared} {env : Env} {m : Str → Option Value} {x : Str} {pos : Pos} {v : Value} {Q : Value → Shared → Prop} (hn : s.heap.Ns env.locals m) (hv : m x = some v) (h : Q v s)
    (hk : env.scope.kind = .function) (hl : env.kindOf x = some .local) (hd : (x == ("__debug__" : Str)) = false) : wpAny M A (eval (.Name x pos) env) Q E s := wpAny_Name (wpAny_loadName_local hk hl hn hv h) hd
theorem fmt_small {v : Value} (sm : Small v) {Q : Value → Shared → Prop} (h : ∀ y t s', y.length ≤ 2000 → (∃ tk, s' = { s with toks := tk }) → Q (.str y t) s') : wpAny (model prog w) A (formatField v Str.empty) Q E s := by
  cases sm with
  | str y t hy => exact wpAny_formatField_str (h _ _ _ (by omega) ⟨_, rfl⟩) (h _ _ _ (by omega) ⟨_, rfl⟩) (by rw [sizeLine_eq]; omega)
  | int i t hi =>
    refine wpAny_formatField_int (by omega) (h _ _ _ ?_ ⟨_, rfl⟩)
    have e := int_text_length_le (k := 1000) (by decide) hi
    show (Str.ofString (toString i)).length ≤ 2000
    rw [PySem.ofString_length]
    omega
theorem err_init (T : ErrTxt prog K C fI a txt) (ht : txt.length ≤ 1000) (na : NmOk a) (M : L2.Mod K mg base) (hsup : mg "super" = none) (kb : ∀ b o, base.get? b = some o → s.heap.get? b = some o) (hroom : A.depth < recursionLimit)
    {x t0 : Addr} {v : Value} (hx : s.heap.get? x = some (excO C t0)) (nx : K.lookup x = none) (sm : Small v) (hq : ∀ h' tk dx t1, InitEnd s.heap h' x C dx t1 a v → R (.ok (.ret .none)) { s with heap := h', toks := tk }) :
    codeAny (model prog w) A (.call (.ref fI) ⟨[.ref x, v], []⟩) R s := by
  obtain ⟨oc, od, qual, doc, pm, an, cda, cc, ct, osl, p1, p2, p0, p1', p2', p3, p4, p5, p6, p7, p8, q1, q2, q3, q4, lf, hcd, hp2, ⟨ccl, cdd, vs, ccs, file, tf, lcd, hvs, hfile⟩, cl, cld, csl, lcc⟩ := T.fn
  obtain ⟨nm, q, N, bs, bm, sn, sub, ab, col, dd, k0, k1, k2, k3, k5, hC, hbm⟩ := T.cls
  have hcl : clsIn K C = some { name := nm, bases := bs, mro := .ref C :: bm, ns := N, qualname := q, hasDict := true, slotNames := sn, subclasses := sub, abstract := ab, collection := col, hasDel := false } := by unfold clsIn; rw [hC] <;> rfl
  have X : K.In s.heap := M.kin.keeps kb
  have lim : s.heap.NoLimit := M.nolimit.keeps kb
  have hG : s.heap.Ns mainGlobals mg := M.glob.keeps kb
  obtain ⟨mb, hB0, hB1⟩ := M.blt
  have hB : s.heap.Ns builtinsNs mb := hB0.keeps kb
  have ksf : (eScope a).names.lookup ("self" : Str) = some .local := by rcases na with rfl | rfl <;> rfl
  have ka : (eScope a).names.lookup a = some .local := by rcases na with rfl | rfl <;> rfl
  have kc : (eScope a).names.lookup ("__class__" : Str) = some .free := by rcases na with rfl | rfl <;> rfl
  have kss : (eScope a).names.lookup ("super" : Str) = some .globalImplicit := by rcases na with rfl | rfl <;> rfl
  have kdb : (a == ("__debug__" : Str)) = false := by rcases na with rfl | rfl <;> decide
  refine ks_codeAny_call_defAt (fd := ksFn "__init__" qual (eArgs a p1 p2) (eBody a txt p0 p1' p2' p3 p4 p5 p6 p7 p8 q1 q2 q3 q4) (eScope a) .none .none doc pm an (.ref cda) ct cc) (body := eBody a txt p0 p1' p2' p3 p4 p5 p6 p7 p8 q1 q2 q3 q4)
    (binds := [("self", .ref x), (a, v)]) hroom (X _ _ lf) rfl lim (codeRec_of X hcd) rfl (BindsTo.of_eq ?hb) ?hcell ?hloc (fun h₁ hns k₁ => ?_) rfl rfl rfl
  case hb =>
    rcases na with rfl | rfl <;> first | rfl | with_unfolding_all rfl
  case hcell =>
    show ∀ y ∈ (eScope a).names, y.2 ≠ .cell
    rcases na with rfl | rfl <;> decide
  case hloc =>
    intro y hy
    rcases List.mem_cons.mp hy with rfl | hy
    · exact ksf
    rcases List.mem_cons.mp hy with rfl | hy
    · exact ka
    · cases hy
  have vself : (fun y => ([("self", Value.ref x), (a, v)] : List (Str × Value)).reverse.lookup y) "self" = some (.ref x) := by rcases na with rfl | rfl <;> rfl
  have va : (fun y => ([("self", Value.ref x), (a, v)] : List (Str × Value)).reverse.lookup y) a = some v := by rcases na with rfl | rfl <;> rfl
  generalize (fun y => ([("self", Value.ref x), (a, v)] : List (Str × Value)).reverse.lookup y) = m at hns vself va
  show PySem.wpAt _ _ (.func (eBody a txt p0 p1' p2' p3 p4 p5 p6 p7 p8 q1 q2 q3 q4) (ksEnv qual (eScope a) s.heap.objs.size fI (.ref cda) cc)) (execs _ (ksEnv qual (eScope a) s.heap.objs.size fI (.ref cda) cc)) _ _ _
  have X1 : K.In h₁ := X.keeps k₁
  have hx1 := k₁ _ _ hx
  have es1 : starEach [Expr.JoinedStr [.Constant (.str txt) 0 p3, .FormattedValue (.Name a p4) (-1) none p5] p6] (ksEnv qual (eScope a) s.heap.objs.size fI (.ref cda) cc) = [(false, eval (Expr.JoinedStr [.Constant (.str txt) 0 p3, .FormattedValue (.Name a p4) (-1) none p5] p6) (ksEnv qual (eScope a) s.heap.objs.size fI (.ref cda) cc))] := rfl
  refine ks_wpAt_execs_cons (ks_wpAt_Expr_any (ks_wpAt_MethodCall ?_ (he := ev1 _ _ _ _ _ _ hp2 es1)))
  refine ks_wpAt_super_base (env := ksEnv qual (eScope a) s.heap.objs.size fI (.ref cda) cc) kss kc (by decide) rfl (X1 _ _ lf) rfl rfl rfl (X1 _ _ lcd) rfl hvs hfile T.topS ?_
  refine ks_loadName_global rfl kss (loadGlobal_builtin (env := ksEnv qual (eScope a) s.heap.objs.size fI (.ref cda) cc) (hG.keeps k₁) hsup (hB.keeps k₁) ((hB1 _ (by decide)).trans (by decide +kernel)) ⟨rfl, ?_⟩)
  refine wpAny_loadName_free rfl kc rfl ⟨_, X1 _ _ lcc, rfl⟩ ?_
  refine wpAny_loadName_local rfl ksf hns vself ?_
  refine ks_wpAny_isType_cls (X1 _ _ hC) rfl ⟨rfl, ?_⟩
  refine ks_wpAny_call_super (C := C) (X1 _ _ hC) rfl hx1 rfl (fun c z => nomatch z) (looks_mroIn X1 T.ms) (fun h₂ hso k₂ => ?_)
  have X2 : K.In h₂ := X1.keeps k₂
  have hx2 := k₂ _ _ hx1
  have I2 : InstAt h₂ x (excO C t0) C none := ⟨hx2, rfl, rfl, trivial⟩
  have hsu := T.su
  unfold ks_superIn at hsu
  rw [hcl] at hsu
  refine kxs_getMethod kxs_ValueError hso (looks_opaque X2 T.op) (l₀ := .ref C :: bm) ?_ rfl X2 hsu (I2.type.andThen (looks_subIn X2 T.veC)) (ks_ne X2 I2 hcl) (by decide) ?_
  · exact fun A Q E s k q => wpAny_bind ((looks_clsIn X2 hcl) A _ E s k (wpAny_pure q))
  rw [es1]
  refine kxs_callWith (i := "ValueError.__init__") (x := x) rfl (evalArgs_plain (spliced_cons ?_))
  -- the text of the error: put together, never asked for
  have hns2 : h₂.Ns s.heap.objs.size m := hns.keeps k₂
  obtain ⟨h₃, e3⟩ : ∃ h₃, h₃ = h₂.push (kxs_mw "ValueError.__init__" x) := ⟨_, rfl⟩
  have k₃ : ∀ b o, h₂.get? b = some o → h₃.get? b = some o := fun b o e => by rw [e3]; exact Heap.get?_push_of_some _ e
  have hu : h₃.get? h₂.objs.size = some (kxs_mw "ValueError.__init__" x) := by rw [e3]; exact Heap.get?_push_at rfl rfl
  rw [← e3]
  have hns3 : h₃.Ns s.heap.objs.size m := hns2.keeps k₃
  have X3 : K.In h₃ := X2.keeps k₃
  have hx3 := k₃ _ _ hx2
  refine wpAny_JoinedStr (pos := p6) ?_
  refine wpAny_Constant_str ⟨txt, _, rfl, ?_, ?_⟩
  · rw [strLen_append, sizeLine_eq]
    show 0 + txt.length ≤ _
    omega
  refine wpAny_FormattedValue_plain (ldA (m := m) hns3 va (fmt_small sm fun y t s' hy ⟨tk, es'⟩ => ?_) rfl ka kdb)
  subst es'
  refine ⟨y, t, rfl, ?_, ?_, ?_⟩
  · rw [strLen_append, strLen_append, sizeLine_eq]
    show 0 + txt.length + y.length ≤ _
    omega
  · rw [strLen_append, strLen_append, sizeLine_eq]
    show 0 + txt.length + y.length ≤ _
    omega
  refine spliced_nil ⟨hu, ?_⟩
  show wpAny _ _ (call (.ref h₂.objs.size) [_]) _ _ _
  refine call_mw (X3 _ _ hC) hx3 hu (by rw [sizeLine_eq]; exact (by decide : 1 ≤ 16777216)) fun h₄ t1 k₄ hx4 => ?_
  -- self.a = a
  have nL : s.heap.objs.size ≠ x := Nat.ne_of_gt (Heap.lt_size hx)
  have X4 : K.In h₄ := fun b o e => k₄ b o (fun z => by rw [z, nx] at e; cases e) (X3 _ _ e)
  have hns4 : h₄.Ns s.heap.objs.size m := by
    obtain ⟨oL, es, ep, hL, r⟩ := hns3
    exact ⟨oL, es, ep, k₄ _ _ nL hL, r⟩
  show PySem.wpAt _ _ _ _ _ _ _
  refine ks_wpAt_execs_cons (ks_wpAt_Assign_Attr ?_)
  refine wpAt_of_wpAny (ldA (m := m) hns4 va (ldA (m := m) hns4 vself ?_ rfl ksf (by decide)) rfl ka kdb)
  refine set_plain X4 (ox := excO C t1) (od := none) ⟨hx4, rfl, rfl, trivial⟩ T.sa ?_
  refine exc_osa X4 hx4 hcl (show refsVE (.ref C :: bm) = true from hbm) rfl T.noN (fun h₅ tk₅ dx k₅ dn dne hx₅ hn₅ => ?_)
  show PySem.wpAt _ _ _ (execs [] _) _ _ _
  refine wpAt_of_wpAny (wpAny_execs_nil (hq h₅ tk₅ dx t1 ⟨fun b o hb e => k₅ b o hb (k₄ b o hb (k₃ b o (k₂ b o (k₁ b o e)))), hx₅, ?_, dne, hn₅⟩))
  have z1 : s.heap.objs.size < h₁.objs.size := hns.lt
  have z2 : s.heap.objs.size < h₄.objs.size := hns4.lt
  exact Nat.le_trans (Nat.le_of_lt z2) dn
end
end EX
end

section
set_option Elab.async false
set_option linter.all false
set_option maxRecDepth 100000
set_option maxHeartbeats 4000000
namespace EX
open PySem PySem.W PySem.Calls PyProof.Rows PySem.HandSPX
/-- an own error, made: at e, its dict at d -/
structure ErrMade (h h' : Heap) (e C d : Addr) (a : Str) (v : Value) : Prop where
  old : ∀ b o, h.get? b = some o → h'.get? b = some o
  enew : h.objs.size ≤ e
  ebj : ∃ oe us, h'.get? e = some oe ∧ oe.cls = .ref C ∧ oe.dict = some d ∧ oe.data = .fields us ∧ us[1]? = some .none ∧ us[2]? = some .none
  dnew : h.objs.size ≤ d
  apart : d ≠ e
  fld : h'.Ns1 d (fun y => if y = a then some v else none)
section
variable {prog : Program} {w : World} {A : Around} {E : Value → Shared → Prop} {R : Result → Shared → Prop} {s : Shared} {K : Frag} {mg : Str → Option Value} {base : Heap} {C fI : Addr} {a txt : Str}
theorem err_made (T : ErrTxt prog K C fI a txt) (ht : txt.length ≤ 1000) (na : NmOk a) (M : L2.Mod K mg base) (hsup : mg "super" = none) (kb : ∀ b o, base.get? b = some o → s.heap.get? b = some o) (hroom : A.depth + 1 < recursionLimit)
    {v : Value} (sm : Small v) (hq : ∀ h' tk e d, ErrMade s.heap h' e C d a v → R (.ok (.ret (.ref e))) { s with heap := h', toks := tk }) : codeAny (model prog w) A (.call (.ref C) ⟨[v], []⟩) R s := by
  obtain ⟨nm, q, N, bs, bm, sn, sub, ab, col, dd, k0, k1, k2, k3, k5, hC, hbm⟩ := T.cls
  have X : K.In s.heap := M.kin.keeps kb
  obtain ⟨h0, g, dr, tk, os⟩ := s
  have up : ∀ b o, h0.get? b = some o → ((h0.push (kdv_tup [v])).push (excO C h0.objs.size)).get? b = some o := fun b o e => Heap.get?_push_of_some _ (Heap.get?_push_of_some _ e)
  have at1 : ((h0.push (kdv_tup [v])).push (excO C h0.objs.size)).get? (h0.objs.size + 1) = some (excO C h0.objs.size) := by heap_get
  have fresh : K.lookup (h0.objs.size + 1) = none := by
    cases e : K.lookup (h0.objs.size + 1) with
    | none => rfl
    | some o =>
      have z := Heap.lt_size (show h0.get? (h0.objs.size + 1) = some o from X _ _ e)
      exact absurd (Nat.lt_of_succ_lt z) (Nat.lt_irrefl _)
  refine call_own F.excBase_ValueError (fun Y => refsVE_contains Y bm hbm) (X _ _ hC) (looks_findIn X T.iC) (fun self => bind_fn X self T.tC) (by rw [sizeLine_eq]; exact (by decide : 1 ≤ 16777216)) ?_
  refine err_init (s := ⟨(h0.push (kdv_tup [v])).push (excO C h0.objs.size), g, dr, tk, os⟩) T ht na M hsup (fun b o e => up b o (kb b o e)) hroom at1 fresh sm fun h' tk' dx t1 ie => ?_
  have sz : ((h0.push (kdv_tup [v])).push (excO C h0.objs.size)).objs.size = h0.objs.size + 1 + 1 := by rw [Heap.size_push, Heap.size_push]
  have dbig := ie.dbig
  have dbig' : h0.objs.size + 1 + 1 ≤ dx := by rw [← sz]; exact dbig
  exact ⟨rfl, hq h' tk' (h0.objs.size + 1) dx ⟨fun b o e => ie.keep b o (Nat.ne_of_lt (Nat.lt_succ_of_lt (Heap.lt_size e))) (up b o e), Nat.le_succ _, ⟨_, _, ie.obj, rfl, rfl, rfl, rfl, rfl⟩, Nat.le_trans (Nat.le_trans (Nat.le_succ _) (Nat.le_succ _)) dbig', ie.dne, ie.ns⟩⟩
end
end EX
namespace L2
open PySem PySem.Spec PyProof.Rows EX
theorem relO_one {a : Str} {v : V} {u : Value} (r : RelV v u) (f : Str) : RelO (List.lookup f [(a, v)]) (if f = a then some u else none) := by
  rw [lookup_put]
  by_cases c : f = a
  · rw [if_pos c, if_pos c]
    exact r
  · rw [if_neg c, if_neg c]
    exact True.intro
inductive SmallV : V → Prop
  | str (y : Str) : y.length ≤ 1000 → SmallV (.str y)
  | int (i : Int) : i.natAbs.log2 < 1000 → SmallV (.int i)
theorem SmallV.of {v : V} {u : Value} (h : SmallV v) (r : RelV v u) : Small u := by
  cases h with
  | str y h =>
    obtain ⟨t, rfl⟩ := r
    exact .str y t h
  | int i h =>
    obtain ⟨t, rfl⟩ := r
    exact .int i t h
section
variable {X : Cx} {C fI : Addr} {a txt x : Str}
/-- C(e), C an own error's class; its field a -/
def tMkErr (C : Addr) (a : Str) (ta : TA) : St → Hp → XK → Prop := fun σ H Q => ta σ H fun vs H1 => ∃ v, vs = [v] ∧ SmallV v ∧ ∀ d, H1 d = none → Q (.ref C) (some d) (upd H1 d (.xd [(a, v)]))
theorem pmk_err {e : Expr} {ta : TA} {p pos : Pos} {k : Nat} (T : ErrTxt X.prog X.K C fI a txt) (ht : txt.length ≤ 1000) (na : NmOk a) (hsup : X.mg "super" = none) (gC : X.mg x = some (.ref C)) (hr : Room k X.A) (ha : PA X [e] ta) (hg : Gl X x)
    (hdb : (x == ("__debug__" : Str)) = false := by decide) (he : starEach (e :: []) X.env = (false, eval e X.env) :: starEach [] X.env := by rfl) (hpl : (backTo pos (starEach [] X.env)).any (·.1) = false := by rfl) :
    L2N.PMk X (.Call (.Name x p) [e] [] pos) (tMkErr C a ta) := by
  intro pins s σ H Q I h
  refine wpAny_Call_Name_kw (ld_glob I hg gC ?_ hdb)
  refine PySem.W.callWith_K (h₀ := X.base) I.ok.mod.kin T.kC (thn (ha.run pos pins s σ H _ I h) fun us s1 ⟨vs, H1, I1, r1, v, ev, sm, q1⟩ => ⟨I1.kIn, ?_⟩) he hpl
  subst ev
  cases r1 with
  | @cons _ u _ ur rv rn =>
    cases rn
    show wpAny _ _ (call (.ref C) [u]) _ _ _
    obtain ⟨h0, g, dr, tk, os⟩ := s1
    refine wpAny_call (err_made T ht na I1.mod hsup I1.bk (by have := hr.dp; omega) (sm.of rv) fun h' tk' e d M => ?_)
    show L2N.MkP X pins σ Q (.ref e) ⟨h', g, dr, tk', os⟩
    obtain ⟨oe, fv, e1, e2, e3, e4, e5, e6⟩ := M.ebj
    obtain ⟨G, g1, g2⟩ := restrict h' fun b => decide (b ≠ e)
    have gk : ∀ b, b ≠ e → G.get? b = h'.get? b := fun b hb => g1 b (decide_eq_true hb)
    have ge : G.get? e = none := g2 e (by simp)
    have old : ∀ b o, h0.get? b = some o → G.get? b = some o := fun b o q => (gk b (Nat.ne_of_lt (Nat.lt_of_lt_of_le (Heap.lt_size q) M.enew))).trans (M.old b o q)
    have ok1 : ObjOk X.prog X.w (upd H1 d (.xd [(a, v)])) G d (.xd [(a, v)]) := ⟨_, M.fld.at (fun o q => (gk d M.apart).trans q), fun f => relO_one rv f⟩
    have J : Inv X pins σ (upd H1 d (.xd [(a, v)])) ⟨G, g, dr, tk', os⟩ := I1.laid (t' := tk') old M.dnew ok1
    refine ⟨e, oe, fv, ⟨G, g, dr, tk', os⟩, _, .ref C, some d, rfl, J, fun b o q => ?_, ge, e1, ⟨e2, e3, fun us hu => by rw [e4] at hu; cases hu; exact e6⟩, e4, e5, ?_, rfl, I1.bare, raises_own T.exC T.tyC, q1 d (I1.hok.fresh M.dnew)⟩
    · by_cases hb : b = e
      · have q' : G.get? b = some o := q
        rw [hb, ge] at q'
        cases q'
      · exact (gk b hb).symm.trans q
    · rw [upd_ne (Ne.symm M.apart)]
      exact I1.hok.fresh M.enew
/-- raise C(e) -/
def tRaiseErr (C : Addr) (a : Str) (W : WX) (ta : TA) : TS := fun _ σ H => tMkErr C a ta σ H fun cls d H' => W cls d σ H'
theorem ps_raiseErr {e : Expr} {ta : TA} {W : WX} {p pos pos2 : Pos} {k : Nat} (hc : X.calm = true) (tk : L2N.Takes X W) (T : ErrTxt X.prog X.K C fI a txt) (ht : txt.length ≤ 1000) (na : NmOk a) (hsup : X.mg "super" = none) (gC : X.mg x = some (.ref C)) (hr : Room k X.A) (ha : PA X [e] ta) (hg : Gl X x)
    (hdb : (x == ("__debug__" : Str)) = false := by decide) (he : starEach (e :: []) X.env = (false, eval e X.env) :: starEach [] X.env := by rfl) (hpl : (backTo pos (starEach [] X.env)).any (·.1) = false := by rfl) :
    PS X (.Raise (some (.Call (.Name x p) [e] [] pos)) none pos2) (tRaiseErr C a W ta) := L2N.ps_raise hc tk (pmk_err T ht na hsup gC hr ha hg hdb he hpl)
/-- the error that the suite holds, at e0 (its class cls, its dict d): its field -/
def tErrFld (C : Addr) (a : Str) (e0 : Addr) (cls : Value) (d : Option Addr) (te : TE) : TE := fun σ H Q => te σ H fun x H1 => x = .ref e0 ∧ cls = .ref C ∧ ∃ (dd : Addr) (v : V), d = some dd ∧ H1 dd = some (.xd [(a, v)]) ∧ Q v H1
theorem pe_errFld {e0 : Addr} {oe : Obj} {cls : Value} {d : Option Addr} {pn : List (Addr × Obj)} {e : Expr} {te : TE} {pos : Pos} (T : ErrTxt X.prog X.K C fI a txt) (hz : Zc cls d oe) (hf : ∃ vs, oe.data = .fields vs) (he : PE (X.suite e0 ((e0, oe) :: pn)) e te)
    (hb : attributeBase e a X.env (eval e X.env) = eval e X.env := by rfl) : PE (X.suite e0 ((e0, oe) :: pn)) (.Attribute e a pos) (tErrFld C a e0 cls d te) := by
  refine ⟨fun pins s σ H Q I h => attr_of hb (thn (he.run pins s σ H _ I h) fun u s1 hh => ?_)⟩
  obtain ⟨x, H1, I1, rx, ex, ec, dd, v, ed, ea, q⟩ := hh
  subst ex
  obtain rfl : u = Value.ref e0 := rx
  subst ec
  subst ed
  obtain ⟨ha, _⟩ := I1.pin (e0, oe) (List.mem_append_left _ List.mem_cons_self)
  obtain ⟨vs, hd⟩ := hf
  have ox : ObjOk X.prog X.w H1 s1.heap dd (.xd [(a, v)]) := I1.hok dd _ ea
  obtain ⟨mA, hns, hr⟩ := ox
  obtain ⟨od, ho, hl⟩ := lookIn_ns hns
  have l : List.lookup a [(a, v)] = some v := by rw [lookup_put, if_pos rfl]
  obtain ⟨u, hu, ru⟩ := RelO.some_of (v := v) (o := mA a) (by rw [← l]; exact hr a)
  have J : PySem.W.InstAt s1.heap e0 oe C (some od) := ⟨ha, hz.1, by unfold PySem.W.notCls; rw [hd] <;> rfl, by rw [hz.2]; exact ho⟩
  exact HandSPX.exc_get I1.kIn J T.ga T.gg T.exC (PySem.W.findObj_own T.hdC T.noN rfl (by rw [hl, hu])) (handed_of ru) ⟨v, H1, I1.tok _, ru, q⟩
end
end L2
end

section
set_option Elab.async false
set_option linter.all false
set_option maxRecDepth 100000
set_option maxHeartbeats 4000000
/-! isinstance of an own error that the suite holds, its field set. -/
namespace EX
open PySem PySem.W PySem.Spec PySem.Calls PyProof.Rows
section
variable {prog : Program} {w : World} {A : Around} {E : Value → Shared → Prop} {s : Shared} {K : Frag} {x D : Addr} {ox : Obj} {od : Option Obj}
theorem descr_any {C : Addr} {nm : Str} {at_ gt : Value} (h1 : (clsIn K C).isSome = true) (h2 : findIn K (.ref C) nm = some (some at_)) (h3 : specialIn K at_ "__get__" = some (some gt)) (h4 : takesIn K at_ = some true) : findObj K C od nm = some (.bind gt at_) := by
  obtain ⟨c, h1⟩ := Option.isSome_iff_exists.mp h1
  unfold findObj
  rw [h1, Option.bind_some, h2, Option.bind_some]
  simp [h3, h4]
theorem cls_read {Q : Option Value → Shared → Prop} (T : L2.ExcC K D) (X : K.In s.heap) (I : InstAt s.heap x ox D od) (h : Q (some (.ref D)) { s with toks := s.toks + 1 }) : wpAny (model prog w) A (getAttr? (.ref x) "__class__") Q E s := by
  have hf : findObj K D od "__class__" = some (.bind (.builtin "getset_descriptor.__get__") (.builtin "object.__class__")) := descr_any (by obtain ⟨c, q, _⟩ := any_some T.hd; rw [q]; rfl) T.ha T.hn T.ht
  obtain ⟨hp, g, d, t, os⟩ := s
  have la := I.type (M := model prog w)
  have lb := looks_findIn (M := model prog w) X T.hg
  have lc := looks_findIn (M := model prog w) X T.hk
  have ld := looks_find (M := model prog w) X I hf
  have sb : Looks (model prog w) hp (isInstance (.ref x) (.type "BaseException")) true := la.andThen (looks_subIn X T.hs)
  have e1 : (Value.builtin "BaseException.__getattribute__" == Value.builtin "object.__getattribute__") = false := by decide +kernel
  have e2 : (onTheHeap (Value.ref D) && Value.builtin "BaseException.__getattribute__" == Value.builtin "object.__getattribute__") = false := by rw [e1]; rfl
  unfold getAttr? getAttrBy? getAttrBy; refine wpAny_bind (wpAny_mkText (wpAny_bind (wpAny_attempt (wpAny_holding (wpAny_bind (la.at (wpAny_bind (lb.at ?_))))))))
  show wpAny _ _ (if (onTheHeap (Value.ref D) && Value.builtin "BaseException.__getattribute__" == Value.builtin "object.__getattribute__") = true then _ else _) _ _ _
  rw [e2, if_neg Bool.false_ne_true]; unfold getAttrByItsOwn hookBefore
  refine wpAny_bind ?_
  rw [if_pos (show onTheHeap (Value.ref D) = true from rfl)]; refine lc.at ?_
  refine wpAny_bind (wpAny_attempt (wpAny_holding ?_)); unfold callGetattribute
  rw [show (false && onTheHeap (Value.builtin "BaseException.__getattribute__")) = false from rfl, if_neg Bool.false_ne_true]
  unfold boundAndCalled
  rw [PySem.F.excAttr_ValueError.ga.bind (.ref x)]; refine wpAny_bind (wpAny_pure ?_)
  show wpAny _ _ (call (.builtin "BaseException.__getattribute__") [.ref x, .str "__class__" t]) _ _ _
  refine wpAny_call (codeAny_call_builtin PySem.F.excAttr_ValueError.ga.plain PySem.F.entry_bexc_ga ?_)
  refine @check_slot (model prog w) _ _ ⟨hp, g, d, t + 1, os⟩ "BaseException.__getattribute__" "BaseException" "__getattribute__" (.ref x) [.str "__class__" t] [] _ (by decide +kernel) (by decide +kernel) sb (PySem.F.args_bexc_ga (.ref x) (.str "__class__" t)) ?_
  unfold Builtin.«object.__getattribute__»
  refine wpAny_bind (wpAny_of_eq (a := ((Value.ref x : Value), [Value.str "__class__" t])) (by first | rfl | (simp only [slotArgs]; rfl)) ?_)
  refine wpAny_bind (wpAny_pure (wpAny_bind (la.at (wpAny_bind (ld.at ?_)))))
  show wpAny _ _ (holding [Value.builtin "object.__class__"] (call (.builtin "getset_descriptor.__get__") [.builtin "object.__class__", .ref x, .ref D]) >>= ret) _ _ _
  refine wpAny_bind (wpAny_holding (wpAny_call (class_get (s := ⟨hp, g, d, t + 1, os⟩) (ox := ox) (od := od) X I T.hm ?_)))
  refine wpAny_pure ?_
  show wpAny _ _ (handedOut (.ref D)) _ _ _
  rw [handedOut_of (v := .ref D) rfl]
  first
    | exact wpAny_pure (wpAny_pure h)
    | exact wpAny_pure h
    | exact wpAny_pure (wpAny_bind (wpAny_pure (wpAny_pure h)))
theorem kit_err (T : L2.ExcC K D) : KitX K (.ref x) (.ref D) (fun h => InstAt h x ox D od) where
  ty := fun _ _ _ I => I.type
  it := fun _ _ X _ => by
    obtain ⟨c, hc, _⟩ := any_some T.hd
    unfold clsIn at hc
    split at hc
    · rename_i c' d' cd' sl' ho
      intro A' Q' E' s' k q
      unfold isType loadHead
      exact wpAny_bind (wpAny_loadPart (k _ _ (X _ _ ho)) (wpAny_pure q))
    · cases hc
  ne := fun h tp dd its n sl X htp => by
    obtain ⟨c, hc, _⟩ := any_some T.hd
    refine Bool.eq_false_iff.mpr fun q => ?_
    obtain rfl : D = tp := Value.ref.inj (beq_iff_eq.mp q)
    unfold clsIn at hc
    split at hc
    · rename_i c' d' cd' sl' ho
      cases (X _ _ ho).symm.trans htp
    · cases hc
  ca := fun X I k => cls_read T X I k
end
end EX
namespace L2
open PySem PySem.Spec PyProof.Rows
/-- isinstance(e, c), isinstance(e, (c, ..)), e the own error that the suite holds -/
def rIsErr (K : PySem.W.Frag) (D a : Addr) : List V → Hp → VK → Prop := fun xs H Q => ∃ (c : V) (cv : Value) (b : Bool), xs = [.ref a, c] ∧ ClsV c cv ∧ PySem.W.kitOne K (.ref D) cv = some b ∧ Q (.bl b) H
def rIsErrT (K : PySem.W.Frag) (D a : Addr) : List V → Hp → VK → Prop := fun xs H Q => ∃ (tp : Addr) (cs : List V) (us : List Value) (b : Bool), xs = [.ref a, .ref tp] ∧ H tp = some (.tup cs) ∧ Paired ClsV cs us ∧ PySem.W.kitAny K (.ref D) us = some b ∧ Q (.bl b) H
section
variable {X : Cx} {a D dd : Addr} {oe : Obj} {pn : List (Addr × Obj)}
theorem inst_err {pins : List (Addr × Obj)} {σ : L2.St} {H : Hp} {s : Shared} {fs : List (Str × V)} (hz : Zc (.ref D) (some dd) oe) (hf : ∃ vs, oe.data = .fields vs) (I : Inv (X.suite a ((a, oe) :: pn)) pins σ H s) (hd : H dd = some (.xd fs)) : ∃ od, PySem.W.InstAt s.heap a oe D od := by
  obtain ⟨hget, _⟩ := I.pin (a, oe) (List.mem_append.mpr (.inl List.mem_cons_self))
  obtain ⟨vs, hv⟩ := hf
  have ox : ObjOk X.prog X.w H s.heap dd (.xd fs) := I.hok dd _ hd
  obtain ⟨mA, hns, hr⟩ := ox
  obtain ⟨od, ho, hl⟩ := lookIn_ns hns
  exact ⟨some od, hget, hz.1, by unfold PySem.W.notCls; rw [hv] <;> rfl, by rw [hz.2]; exact ho⟩
theorem call_isErr (C : ExcC X.K D) (hz : Zc (.ref D) (some dd) oe) (hf : ∃ vs, oe.data = .fields vs) : CallR (X.suite a ((a, oe) :: pn)) (.builtin "isinstance") (fun xs H Q => (∃ fs, H dd = some (.xd fs)) ∧ rIsErr X.K D a xs H Q) := by
  intro pins s σ H xs us Q I r h
  obtain ⟨⟨fs, hd⟩, c, cv, b, rfl, hcv, e, q⟩ := h
  cases r with
  | cons rx rr =>
    cases rr with
    | cons rt rr =>
      cases rr
      cases rx
      have ec := hcv.eq rt
      subst ec
      obtain ⟨od, J⟩ := inst_err hz hf I hd
      exact PySem.W.kia_one (EX.kit_err C) I.kIn J e (fun z => nomatch z) fun tk => ⟨.bl b, H, I.kept (t' := tk) fun _ _ z => z, rfl, q⟩
theorem call_isErrT (C : ExcC X.K D) (hz : Zc (.ref D) (some dd) oe) (hf : ∃ vs, oe.data = .fields vs) : CallR (X.suite a ((a, oe) :: pn)) (.builtin "isinstance") (fun xs H Q => (∃ fs, H dd = some (.xd fs)) ∧ rIsErrT X.K D a xs H Q) := by
  intro pins s σ H xs us Q I r h
  obtain ⟨⟨fs, hd⟩, tp, cs, ws, b, rfl, ht, hcv, e, q⟩ := h
  cases r with
  | cons rx rr =>
    cases rr with
    | cons rt rr =>
      cases rr
      cases rx
      cases rt
      obtain ⟨od, J⟩ := inst_err hz hf I hd
      have ot : ObjOk X.prog X.w H s.heap tp (.tup cs) := I.hok tp _ ht
      obtain ⟨_, its, rv, u, g1, g2, n, g3⟩ := ot
      have e3 := ClsV.all hcv rv
      subst e3
      obtain ⟨uc, ud, dt, sl⟩ := u
      simp only at g2 g3
      subst g2 g3
      exact PySem.W.kia_tup (EX.kit_err C) I.kIn J g1 e (fun z => nomatch z) fun tk => ⟨.bl b, H, I.tok tk, rfl, q⟩
end
end L2
end

section
set_option Elab.async false
set_option linter.all false
set_option maxRecDepth 100000
set_option maxHeartbeats 4000000
namespace DL
open PySem L2
open Evl (Ex)

/-- data, without the heap -/
inductive D where
  | non | bl (b : Bool) | int (i : Int) | str (x : Str) | tup (l : List D) | lst (l : List D) | ins (C : Addr) (ns : List Str) (l : List D) | any | err (e0 dd C : Addr) (a : Str) (v : D) | scr (ns : List Int)

mutual
inductive Rep (K : PySem.W.Frag) (S : Hp) : V → D → Prop
  | non : Rep K S .non .non
  | any (v : V) : Rep K S v .any
  | bl (b : Bool) : Rep K S (.bl b) (.bl b)
  | int (i : Int) : Rep K S (.int i) (.int i)
  | str (x : Str) : Rep K S (.str x) (.str x)
  | lst {a : Addr} {xs : List V} {ds : List D} : S a = some (.lst xs) → Reps K S xs ds → Rep K S (.ref a) (.lst ds)
  | tup {a : Addr} {xs : List V} {ds : List D} : SqT K S a xs → Reps K S xs ds → Rep K S (.ref a) (.tup ds)
  | ins {a C dx : Addr} {fs : List (Str × V)} {ns : List Str} {xs : List V} {ds : List D} : S a = some (.ins C dx fs) → fs.map (·.1) = ns → fs.map (·.2) = xs → Reps K S xs ds → Rep K S (.ref a) (.ins C ns ds)
  | err {e0 dd C : Addr} {a : Str} {u : V} {v : D} : S dd = some (.xd [(a, u)]) → Rep K S u v → Rep K S (.ref e0) (.err e0 dd C a v)
  | scr {a : Addr} {ns : List Int} : SqL K S a (ns.map V.int) → Rep K S (.ref a) (.scr ns)
inductive Reps (K : PySem.W.Frag) (S : Hp) : List V → List D → Prop
  | nil : Reps K S [] []
  | cons {v : V} {vs : List V} {d : D} {ds : List D} : Rep K S v d → Reps K S vs ds → Reps K S (v :: vs) (d :: ds)
end

section
variable {K : PySem.W.Frag} {S S' H H' : Hp}
mutual
theorem Rep.mono (e : Ex S S') : ∀ {v : V} {d : D}, Rep K S v d → Rep K S' v d
  | _, _, .non => .non
  | _, _, .any v => .any v
  | _, _, .bl b => .bl b
  | _, _, .int i => .int i
  | _, _, .str x => .str x
  | _, _, .lst h r => .lst (e _ _ h) (Reps.mono e r)
  | _, _, .tup h r => .tup (Evl.ex_t e h) (Reps.mono e r)
  | _, _, .ins h h1 h2 r => .ins (e _ _ h) h1 h2 (Reps.mono e r)
  | _, _, .err h r => .err (e _ _ h) (Rep.mono e r)
  | _, _, .scr h => .scr (Evl.ex_l e h)
theorem Reps.mono (e : Ex S S') : ∀ {v : List V} {d : List D}, Reps K S v d → Reps K S' v d
  | _, _, .nil => .nil
  | _, _, .cons h r => .cons (Rep.mono e h) (Reps.mono e r)
end
theorem Reps.length : ∀ {vs : List V} {ds : List D}, Reps K S vs ds → vs.length = ds.length
  | _, _, .nil => rfl
  | _, _, .cons _ r => by rw [List.length_cons, List.length_cons, Reps.length r]
theorem Reps.get : ∀ {vs : List V} {ds : List D} {i : Nat} {d : D}, Reps K S vs ds → ds[i]? = some d → ∃ v, vs[i]? = some v ∧ Rep K S v d
  | _, _, _, _, .nil, e => by simp at e
  | _, _, 0, _, .cons h _, e => by
    simp at e
    subst e
    exact ⟨_, rfl, h⟩
  | _, _, i + 1, _, .cons _ r, e => by
    simp at e
    obtain ⟨v, h1, h2⟩ := Reps.get r e
    exact ⟨v, by simpa using h1, h2⟩
theorem Reps.getV : ∀ {vs : List V} {ds : List D} {i : Nat} {v : V}, Reps K S vs ds → vs[i]? = some v → ∃ d, ds[i]? = some d ∧ Rep K S v d
  | _, _, _, _, .nil, e => by simp at e
  | _, _, 0, _, .cons h _, e => by
    simp at e
    subst e
    exact ⟨_, rfl, h⟩
  | _, _, i + 1, _, .cons _ r, e => by
    simp at e
    obtain ⟨v, h1, h2⟩ := Reps.getV r e
    exact ⟨v, by simpa using h1, h2⟩
theorem Reps.append : ∀ {vs ws : List V} {ds es : List D}, Reps K S vs ds → Reps K S ws es → Reps K S (vs ++ ws) (ds ++ es)
  | _, _, _, _, .nil, q => q
  | _, _, _, _, .cons h r, q => .cons h (Reps.append r q)
theorem Reps.drop : ∀ (n : Nat) {vs : List V} {ds : List D}, Reps K S vs ds → Reps K S (vs.drop n) (ds.drop n)
  | 0, _, _, h => h
  | _ + 1, _, _, .nil => .nil
  | n + 1, _, _, .cons _ r => Reps.drop n r
theorem Reps.take : ∀ (n : Nat) {vs : List V} {ds : List D}, Reps K S vs ds → Reps K S (vs.take n) (ds.take n)
  | 0, _, _, _ => .nil
  | _ + 1, _, _, .nil => .nil
  | n + 1, _, _, .cons h r => .cons h (Reps.take n r)
theorem Reps.set : ∀ (n : Nat) {vs : List V} {ds : List D} {v : V} {d : D}, Reps K S vs ds → Rep K S v d → Reps K S (vs.set n v) (ds.set n d)
  | _, _, _, _, _, .nil, _ => .nil
  | 0, _, _, _, _, .cons _ r, q => .cons q r
  | n + 1, _, _, _, _, .cons h r, q => .cons h (Reps.set n r q)
theorem Reps.reverse : ∀ {vs : List V} {ds : List D}, Reps K S vs ds → Reps K S vs.reverse ds.reverse
  | _, _, .nil => .nil
  | _, _, .cons h r => by
    rw [List.reverse_cons, List.reverse_cons]
    exact Reps.append (Reps.reverse r) (.cons h .nil)
theorem Reps.ints : ∀ (l : List Int), Reps K S (l.map V.int) (l.map D.int)
  | [] => .nil
  | i :: l => .cons (.int i) (Reps.ints l)
theorem Reps.strs : ∀ (l : List Str), Reps K S (l.map V.str) (l.map D.str)
  | [] => .nil
  | i :: l => .cons (.str i) (Reps.strs l)
theorem Reps.ints_inv : ∀ {vs : List V} (l : List Int), Reps K S vs (l.map D.int) → vs = l.map V.int
  | _, [], h => by cases h; rfl
  | _, i :: l, h => by
    cases h with
    | cons h r =>
      cases h
      rw [Reps.ints_inv l r] <;> rfl
theorem Reps.strs_inv : ∀ {vs : List V} (l : List Str), Reps K S vs (l.map D.str) → vs = l.map V.str
  | _, [], h => by cases h; rfl
  | _, i :: l, h => by
    cases h with
    | cons h r =>
      cases h
      rw [Reps.strs_inv l r] <;> rfl
theorem Reps.bls_inv : ∀ {vs : List V} (l : List Bool), Reps K S vs (l.map D.bl) → vs = l.map V.bl
  | _, [], h => by cases h; rfl
  | _, i :: l, h => by
    cases h with
    | cons h r =>
      cases h
      rw [Reps.bls_inv l r] <;> rfl
end

/-- a thing that a name alone may change: a list, an instance with its fields -/
inductive FxL where
  | lst (l : List D) | ins (C dx : Addr) (ns : List Str) (l : List D)
def FxAt (K : PySem.W.Frag) (S : Hp) : FxL → HO → Prop
  | .lst l, o => ∃ vs, o = .lst vs ∧ Reps K S vs l
  | .ins C dx ns l, o => ∃ fs : List (Str × V), o = .ins C dx fs ∧ fs.map (·.1) = ns ∧ Reps K S (fs.map (·.2)) l
theorem FxAt.mono {K : PySem.W.Frag} {S S' : Hp} (e : Ex S S') {l : FxL} {o : HO} (h : FxAt K S l o) : FxAt K S' l o := by
  cases l with
  | lst l =>
    obtain ⟨vs, h1, h2⟩ := h
    exact ⟨vs, h1, h2.mono e⟩
  | ins C dx ns l =>
    obtain ⟨fs, h1, h2, h3⟩ := h
    exact ⟨fs, h1, h2, h3.mono e⟩
/-- what an expression has given: a value; a new list of its own; the own list of the i-th name, looked at; the pool -/
inductive R where
  | val (d : D) | own (l : List D) | brw (i : Nat) (l : List D) | pool
/-- what a name holds -/
inductive Nv where
  | val (d : D) | own (l : List D) | pool | fix (p : Addr) (l : FxL)
abbrev En := List (Option Nv)
abbrev Has (env : En) (i : Nat) (n : Nv) : Prop := env[i]? = some (some n)
abbrev Slt (σ : St) (i : Nat) (v : V) : Prop := σ[i]? = some (some v)
theorem Has.inj {env : En} {i : Nat} {a b : Nv} (h : Has env i a) (k : Has env i b) : a = b := Option.some.inj (Option.some.inj (h.symm.trans k))
theorem Slt.inj {σ : St} {i : Nat} {a b : V} (h : Slt σ i a) (k : Slt σ i b) : a = b := Option.some.inj (Option.some.inj (h.symm.trans k))
theorem Slt.ref {σ : St} {i : Nat} {a b : Addr} (h : Slt σ i (.ref a)) (k : Slt σ i (.ref b)) : a = b := by
  have := h.inj k
  cases this
  rfl

def R.data : R → D
  | .val d => d
  | .own l => .lst l
  | .brw _ l => .lst l
  | .pool => .any

/-- the pool of a law: its list at a, the script's ints -/
def PoolAt (S H : Hp) (a : Addr) : Prop :=
  S a = none ∧ ∃ (l : Addr) (cells : List Int) (pos big seed cnt bud : Int), H a = some (.lst [.ref l, .int pos, .int big, .int seed, .int cnt, .int bud]) ∧ S l = some (.lst (cells.map V.int)) ∧ 0 ≤ pos

/-- the first item of a list -/
def headO : Option HO → Option V
  | some (.lst (x :: _)) => some x
  | _ => none
/-- what a def's run stands on: the heaps at its entry, the pool's place -/
structure Bs where
  S0 : Hp
  H0 : Hp
  pa : Option Addr

structure SR (K : PySem.W.Frag) (B : Bs) (S H : Hp) (env : En) (σ : St) : Prop where
  ex0 : Ex B.S0 S
  nw0 : ∀ a o, B.H0 a = some o → B.S0 a = none → S a = none
  keep0 : ∀ a o, B.H0 a = some o → B.pa ≠ some a → H a = some o
  old0 : ∀ a, H a = none → B.H0 a = none
  len : env.length = σ.length
  ex : Ex S H
  val : ∀ i d, Has env i (.val d) → ∃ v, Slt σ i v ∧ Rep K S v d
  own : ∀ i l, Has env i (.own l) → ∃ p vs, Slt σ i (.ref p) ∧ S p = none ∧ B.H0 p = none ∧ H p = some (.lst vs) ∧ Reps K S vs l
  dis : ∀ i j l m p, Has env i (.own l) → Has env j (.own m) → Slt σ i (.ref p) → Slt σ j (.ref p) → i = j
  pl : ∀ i, Has env i .pool → ∃ a, B.pa = some a ∧ Slt σ i (.ref a)
  pool : ∀ a, B.pa = some a → PoolAt S H a ∧ ∃ o, B.H0 a = some o
  fix : ∀ i p l, Has env i (.fix p l) → Slt σ i (.ref p) ∧ S p = none ∧ B.H0 p = none ∧ ∃ o, H p = some o ∧ FxAt K S l o
  dfx : ∀ i j p l m, Has env i (.fix p l) → Has env j (.own m) → ¬ Slt σ j (.ref p)
  dff : ∀ i j p l m, Has env i (.fix p l) → Has env j (.fix p m) → i = j
  pin : ∀ a, B.pa = some a → headO (H a) = headO (B.H0 a)

/-- the places that belong to the names, or are the pool's -/
def Ow (B : Bs) (env : En) (σ : St) (a : Addr) : Prop := B.pa = some a ∨ (∃ i l, Has env i (.own l) ∧ Slt σ i (.ref a)) ∨ ∃ i l, Has env i (.fix a l)

/-- a name's list may have come to stand still -/
def Frz (env env' : En) : Prop := env'.length = env.length ∧ ∀ i : Nat, env'[i]? = env[i]? ∨ ∃ l, Has env i (.own l) ∧ Has env' i (.val (.lst l))
theorem Frz.refl (env : En) : Frz env env := ⟨rfl, fun _ => .inl rfl⟩
theorem Frz.trans {a b c : En} (h : Frz a b) (k : Frz b c) : Frz a c := ⟨k.1.trans h.1, fun i => by
  rcases h.2 i with e | ⟨l, e1, e2⟩
  · rcases k.2 i with q | ⟨l, q1, q2⟩
    · exact .inl (q.trans e)
    · exact .inr ⟨l, e.symm.trans q1, q2⟩
  · rcases k.2 i with q | ⟨m, q1, q2⟩
    · exact .inr ⟨l, e1, q.trans e2⟩
    · exact nomatch Has.inj e2 q1⟩

/-- new things alone have come; what belongs to the names (A) may have changed -/
structure Go (A : Addr → Prop) (S H S' H' : Hp) : Prop where
  ex : Ex S S'
  keep : ∀ a o, H a = some o → ¬ A a → H' a = some o
  nw : ∀ a o, H a = some o → ¬ A a → S a = none → S' a = none
  old : ∀ a, H' a = none → H a = none

def Res (K : PySem.W.Frag) (B : Bs) (A : Addr → Prop) (H S' H' : Hp) (env' : En) (σ : St) : R → V → Prop
  | .val d, v => Rep K S' v d
  | .own l, v => ∃ p vs, v = .ref p ∧ S' p = none ∧ B.H0 p = none ∧ H p = none ∧ ¬ Ow B env' σ p ∧ H' p = some (.lst vs) ∧ Reps K S' vs l
  | .brw i l, v => ∃ p, v = .ref p ∧ Slt σ i (.ref p) ∧ (Has env' i (.own l))
  | .pool, v => ∃ a, B.pa = some a ∧ v = .ref a

/-- behind an expression -/
structure EPo (K : PySem.W.Frag) (B : Bs) (S H : Hp) (env : En) (σ : St) (S' H' : Hp) (env' : En) (r : R) (v : V) : Prop where
  sr : SR K B S' H' env' σ
  go : Go (Ow B env σ) S H S' H'
  fz : Frz env env'
  res : Res K B (Ow B env σ) H S' H' env' σ r v

abbrev DM := En → (En → R → Prop) → Prop
def DE (X : Cx) (e : Expr) (m : DM) (t : TE) : Prop := PE X e t ∧ ∀ (B : Bs) (S H : Hp) (env : En) (σ : St) (Q : En → R → Prop) (Qv : VK), SR X.K B S H env σ → m env Q →
  (∀ v H' S' env' r, EPo X.K B S H env σ S' H' env' r v → Q env' r → Qv v H') → t σ H Qv
/-- a test -/
abbrev DTM := En → (En → Bool → Prop) → Prop
structure TPo (K : PySem.W.Frag) (B : Bs) (S H : Hp) (env : En) (σ : St) (S' H' : Hp) (env' : En) : Prop where
  sr : SR K B S' H' env' σ
  go : Go (Ow B env σ) S H S' H'
  fz : Frz env env'
def DT (X : Cx) (e : Expr) (m : DTM) (t : TT) : Prop := PT X e t ∧ ∀ (B : Bs) (S H : Hp) (env : En) (σ : St) (Q : En → Bool → Prop) (Qv : Bool → Hp → Prop), SR X.K B S H env σ → m env Q →
  (∀ b H' S' env', TPo X.K B S H env σ S' H' env' → Q env' b → Qv b H') → t σ H Qv

/-! ### lemmas on the state -/
section
variable {K : PySem.W.Frag} {B : Bs} {S H S' H' S'' H'' : Hp} {env env' env'' : En} {σ : St} {A A' : Addr → Prop}
theorem Go.refl : Go A S H S H := ⟨Ex.refl _, fun _ _ h _ => h, fun _ _ _ _ h => h, fun _ h => h⟩
theorem Go.trans (a : Go A S H S' H') (b : Go A' S' H' S'' H'') (hs : ∀ x o, H x = some o → ¬ A x → ¬ A' x) : Go A S H S'' H'' :=
  ⟨a.ex.trans b.ex, fun x o h n => b.keep x o (a.keep x o h n) (hs x o h n), fun x o h n e => b.nw x o (a.keep x o h n) (hs x o h n) (a.nw x o h n e), fun x h => a.old x (b.old x h)⟩
theorem Go.mono (a : Go A S H S' H') (hs : ∀ x, A x → A' x) : Go A' S H S' H' := ⟨a.ex, fun x o h n => a.keep x o h (fun z => n (hs x z)), fun x o h n => a.nw x o h (fun z => n (hs x z)), a.old⟩
theorem Ow.frz {x : Addr} (f : Frz env env') (h : Ow B env' σ x) : Ow B env σ x := by
  rcases h with h | ⟨i, l, h1, h2⟩ | ⟨i, l, h1⟩
  · exact .inl h
  · rcases f.2 i with e | ⟨m, e1, e2⟩
    · exact .inr (.inl ⟨i, l, e.symm.trans h1, h2⟩)
    · exact nomatch Has.inj e2 h1
  · rcases f.2 i with e | ⟨m, e1, e2⟩
    · exact .inr (.inr ⟨i, l, e.symm.trans h1⟩)
    · exact nomatch Has.inj e2 h1
/-- new things alone -/
structure Nw (S H S' H' : Hp) : Prop where
  ex : Ex S S'
  keep : Ex H H'
  nw : ∀ a o, H a = some o → S a = none → S' a = none
  sh : Ex S' H'
theorem Nw.refl (h : Ex S H) : Nw S H S H := ⟨Ex.refl _, Ex.refl _, fun _ _ _ h => h, h⟩
theorem Nw.trans (a : Nw S H S' H') (b : Nw S' H' S'' H'') : Nw S H S'' H'' := ⟨a.ex.trans b.ex, a.keep.trans b.keep, fun x o h e => b.nw x o (a.keep x o h) (a.nw x o h e), b.sh⟩
theorem Nw.old (a : Nw S H S' H') : ∀ x, H' x = none → H x = none := fun x h => Evl.fresh_back a.keep h
theorem Nw.go (a : Nw S H S' H') : Go A S H S' H' := ⟨a.ex, fun x o h _ => a.keep x o h, fun x o h _ e => a.nw x o h e, a.old⟩
/-- a new object, known from now on | not known -/
theorem Nw.add (e : Ex S H) {p : Addr} {o : HO} (h : H p = none) : Nw S H (upd S p o) (upd H p o) := by
  have s : S p = none := Evl.fresh_back e h
  refine ⟨Ex.new s, Ex.new h, fun a u q z => ?_, fun a u q => ?_⟩
  · rw [upd_ne (ne_of_none q h)]
    exact z
  · by_cases c : a = p
    · subst c
      rw [upd_same] at q ⊢
      exact q
    · rw [upd_ne c] at q ⊢
      exact e a u q
theorem Nw.hid (e : Ex S H) {p : Addr} {o : HO} (h : H p = none) : Nw S H S (upd H p o) := ⟨Ex.refl _, Ex.new h, fun _ _ _ z => z, e.trans (Ex.new h)⟩
theorem PoolAt.nw {a : Addr} (h : PoolAt S H a) (n : Nw S H S' H') : PoolAt S' H' a := by
  obtain ⟨s, l, cells, pos, big, seed, cnt, bud, h1, h2, r⟩ := h
  exact ⟨n.nw _ _ h1 s, l, cells, pos, big, seed, cnt, bud, n.keep _ _ h1, n.ex _ _ h2, r⟩
theorem SR.nw (r : SR K B S H env σ) (n : Nw S H S' H') : SR K B S' H' env σ where
  ex0 := r.ex0.trans n.ex
  nw0 := fun a o h e => by
    by_cases c : B.pa = some a
    · exact (r.pool a c).1.nw n |>.1
    · exact n.nw a o (r.keep0 a o h c) (r.nw0 a o h e)
  keep0 := fun a o h c => n.keep a o (r.keep0 a o h c)
  old0 := fun a h => r.old0 a (n.old a h)
  len := r.len
  ex := n.sh
  val := fun i d h => let ⟨v, h1, h2⟩ := r.val i d h; ⟨v, h1, h2.mono n.ex⟩
  own := fun i l h => let ⟨p, vs, h1, h2, h3, h4, h5⟩ := r.own i l h; ⟨p, vs, h1, n.nw _ _ h4 h2, h3, n.keep _ _ h4, h5.mono n.ex⟩
  dis := r.dis
  fix := fun i p l h => let ⟨k1, k2, k3, vs, k4, k5⟩ := r.fix i p l h; ⟨k1, n.nw _ _ k4 k2, k3, vs, n.keep _ _ k4, k5.mono n.ex⟩
  dfx := r.dfx
  dff := r.dff
  pin := fun a e => by
    obtain ⟨⟨_, l, cells, y1, y2, y3, y4, y5, y6, _⟩, _⟩ := r.pool a e
    rw [n.keep _ _ y6, ← r.pin a e, y6]
  pl := r.pl
  pool := fun a h => let ⟨q, o⟩ := r.pool a h; ⟨q.nw n, o⟩
theorem SR.hp0 (r : SR K B S H env σ) {p : Addr} (h : H p = none) : B.H0 p = none := r.old0 p h
theorem SR.sp0 (r : SR K B S H env σ) {p : Addr} (h : H p = none) : S p = none := Evl.fresh_back r.ex h
theorem SR.now (r : SR K B S H env σ) {p : Addr} (h : H p = none) : ¬ Ow B env σ p := by
  rintro (e | ⟨i, l, e, e2⟩ | ⟨i, l, e⟩)
  · obtain ⟨⟨_, l, cells, pos, big, seed, cnt, bud, h1, _⟩, _⟩ := r.pool p e
    rw [h] at h1
    cases h1
  · obtain ⟨q, vs, h1, _, _, h4, _⟩ := r.own i l e
    cases Slt.ref e2 h1
    rw [h] at h4
    cases h4
  · obtain ⟨_, _, _, vs, h4, _⟩ := r.fix i p l e
    rw [h] at h4
    cases h4
/-- what a rule by values has given: new things alone -/
def NwR (K : PySem.W.Frag) (S H S' H' : Hp) : R → V → Prop
  | .val d, v => Nw S H S' H' ∧ Rep K S' v d
  | .own l, v => Nw S H S' H' ∧ ∃ p vs, v = .ref p ∧ H p = none ∧ S' p = none ∧ H' p = some (.lst vs) ∧ Reps K S' vs l
  | _, _ => False
theorem NwR.nw {r : R} {v : V} (h : NwR K S H S' H' r v) : Nw S H S' H' := by
  cases r with
  | val d => exact h.1
  | own l => exact h.1
  | brw i l => exact h.elim
  | pool => exact h.elim
theorem EPo.of {r : R} {v : V} (s : SR K B S H env σ) (h : NwR K S H S' H' r v) : EPo K B S H env σ S' H' env r v := by
  refine ⟨s.nw h.nw, h.nw.go, .refl _, ?_⟩
  cases r with
  | val d => exact h.2
  | own l =>
    obtain ⟨n, p, vs, e, h1, h2, h3, h4⟩ := h
    exact ⟨p, vs, e, h2, s.hp0 h1, h1, s.now h1, h3, h4⟩
  | brw i l => exact h.elim
  | pool => exact h.elim
/-- two steps, the second one's result -/
theorem EPo.trans {r q : R} {v u : V} (a : EPo K B S H env σ S' H' env' r v) (b : EPo K B S' H' env' σ S'' H'' env'' q u) : EPo K B S H env σ S'' H'' env'' q u := by
  refine ⟨b.sr, a.go.trans b.go fun x o _ n z => n (Ow.frz a.fz z), a.fz.trans b.fz, ?_⟩
  have hq := b.res
  cases q with
  | val d => exact hq
  | own l =>
    obtain ⟨p, vs, e, h1, h2, h3, h4⟩ := hq
    exact ⟨p, vs, e, h1, h2, a.go.old p h3, h4⟩
  | brw i l => exact hq
  | pool => exact hq
/-- looked at: what the value is, its top list perhaps a name's own -/
def RepB (K : PySem.W.Frag) (S H : Hp) (v : V) (d : D) : Prop := Rep K S v d ∨ ∃ p vs l, v = .ref p ∧ d = .lst l ∧ H p = some (.lst vs) ∧ Reps K S vs l
theorem Res.look {r : R} {v : V} (s : SR K B S' H' env' σ) (h : Res K B A H S' H' env' σ r v) : RepB K S' H' v r.data := by
  cases r with
  | val d => exact .inl h
  | own l =>
    obtain ⟨p, vs, e, _, _, _, _, h3, h4⟩ := h
    exact .inr ⟨p, vs, l, e, rfl, h3, h4⟩
  | brw i l =>
    obtain ⟨p, e, h1, h2⟩ := h
    obtain ⟨q, vs, k1, _, _, k4, k5⟩ := s.own i l h2
    cases Slt.ref h1 k1
    exact .inr ⟨p, vs, l, e, rfl, k4, k5⟩
  | pool => exact .inl (.any v)
/-- .. behind a further step -/
theorem EPo.look {r q : R} {v u : V} (a : EPo K B S H env σ S' H' env' r v) (b : EPo K B S' H' env' σ S'' H'' env'' q u) : RepB K S'' H'' v r.data := by
  have h := a.res
  cases r with
  | val d => exact .inl (Rep.mono b.go.ex h)
  | own l =>
    obtain ⟨p, vs, e, h1, _, _, h2, h3, h4⟩ := h
    exact .inr ⟨p, vs, l, e, rfl, b.go.keep p _ h3 h2, h4.mono b.go.ex⟩
  | brw i l =>
    obtain ⟨p, e, h1, h2⟩ := h
    rcases b.fz.2 i with f | ⟨m, f1, f2⟩
    · obtain ⟨q, vs, k1, _, _, k4, k5⟩ := b.sr.own i l (f.trans h2)
      cases Slt.ref h1 k1
      exact .inr ⟨p, vs, l, e, rfl, k4, k5⟩
    · cases Has.inj h2 f1
      obtain ⟨w, k1, k2⟩ := b.sr.val i _ f2
      cases Slt.inj h1 k1
      subst e
      exact .inl k2
  | pool => exact .inl (.any v)
theorem RepB.nw {v : V} {d : D} (h : RepB K S H v d) (n : Nw S H S' H') : RepB K S' H' v d := by
  rcases h with h | ⟨p, vs, l, h1, h2, h3, h4⟩
  · exact .inl (h.mono n.ex)
  · exact .inr ⟨p, vs, l, h1, h2, n.keep _ _ h3, h4.mono n.ex⟩
theorem EPo.t {r : R} {v : V} (a : EPo K B S H env σ S' H' env' r v) : TPo K B S H env σ S' H' env' := ⟨a.sr, a.go, a.fz⟩
theorem TPo.trans (a : TPo K B S H env σ S' H' env') (b : TPo K B S' H' env' σ S'' H'' env'') : TPo K B S H env σ S'' H'' env'' :=
  ⟨b.sr, a.go.trans b.go fun x o _ n z => n (Ow.frz a.fz z), a.fz.trans b.fz⟩
theorem TPo.refl (s : SR K B S H env σ) : TPo K B S H env σ S H env := ⟨s, .refl, .refl _⟩
theorem TPo.e {q : R} {u : V} (a : TPo K B S H env σ S' H' env') (b : EPo K B S' H' env' σ S'' H'' env'' q u) : EPo K B S H env σ S'' H'' env'' q u :=
  EPo.trans (r := .val .any) (v := .non) ⟨a.sr, a.go, a.fz, .any _⟩ b
theorem TPo.nw (a : TPo K B S H env σ S' H' env') (n : Nw S' H' S'' H'') : TPo K B S H env σ S'' H'' env' := a.trans ⟨a.sr.nw n, n.go, .refl _⟩
/-- RepB behind a further test or step -/
theorem RepB.go {v : V} {d : D} {r : R} (a : EPo K B S H env σ S' H' env' r v) (hd : d = r.data) (b : TPo K B S' H' env' σ S'' H'' env'') : RepB K S'' H'' v d := by
  subst hd
  exact a.look (q := .val .any) (u := .non) ⟨b.sr, b.go, b.fz, .any _⟩
end
end DL
end

section
set_option Elab.async false
set_option linter.all false
set_option maxRecDepth 100000
set_option maxHeartbeats 4000000
namespace DL
open PySem L2
open Evl (Ex)

/-! data as Python's == sees it -/
mutual
def toPy : D → PyData
  | .non => .none
  | .bl b => .bool b
  | .int i => .int i
  | .str x => .str x
  | .tup l => .tuple (toPys l)
  | .lst l => .list (toPys l)
  | .ins _ _ _ => .dict []
  | .any => .dict []
  | .err _ _ _ _ _ => .dict []
  | .scr _ => .dict []
def toPys : List D → List PyData
  | [] => []
  | d :: l => toPy d :: toPys l
end
/-! plain data, all the way down -/
mutual
def isDat : D → Bool
  | .non => true
  | .bl _ => true
  | .int _ => true
  | .str _ => true
  | .tup l => isDats l
  | .lst l => isDats l
  | .ins _ _ _ => false
  | .any => false
  | .err _ _ _ _ _ => false
  | .scr _ => false
def isDats : List D → Bool
  | [] => true
  | d :: l => isDat d && isDats l
end
def eqD (x y : D) : Bool := PyData.eqv (toPy x) (toPy y)
def okD (x : D) : Prop := isDat x = true ∧ SeqAt.shaped (toPy x) = true

section
variable {K : PySem.W.Frag} {S H : Hp}
mutual
theorem Rep.dp (e : Ex S H) : ∀ {v : V} {d : D}, Rep K S v d → isDat d = true → Dp K H v (toPy d)
  | _, _, .non, _ => by
    rw [toPy]
    exact .non
  | _, _, .any v, h => by
    rw [isDat] at h
    cases h
  | _, _, .bl b, _ => by
    rw [toPy]
    exact .bl b
  | _, _, .int i, _ => by
    rw [toPy]
    exact .int i
  | _, _, .str x, _ => by
    rw [toPy]
    exact .str x
  | _, _, .lst h r, q => by
    rw [toPy]
    rw [isDat] at q
    exact .lst (SqL.of (e _ _ h)) (Reps.dp e r q)
  | _, _, .tup h r, q => by
    rw [toPy]
    rw [isDat] at q
    exact .tup (Evl.ex_t e h) (Reps.dp e r q)
  | _, _, .ins h h1 h2 r, q => by
    rw [isDat] at q
    cases q
  | _, _, .err h r, q => by
    rw [isDat] at q
    cases q
  | _, _, .scr h, q => by
    rw [isDat] at q
    cases q
theorem Reps.dp (e : Ex S H) : ∀ {v : List V} {d : List D}, Reps K S v d → isDats d = true → DpAll K H v (toPys d)
  | _, _, .nil, _ => by
    rw [toPys]
    exact .nil
  | _, _, .cons h r, q => by
    rw [isDats, Bool.and_eq_true] at q
    rw [toPys]
    exact .cons (Rep.dp e h q.1) (Reps.dp e r q.2)
end
theorem RepB.dp (e : Ex S H) {v : V} {d : D} (h : RepB K S H v d) (q : isDat d = true) : Dp K H v (toPy d) := by
  rcases h with h | ⟨p, vs, l, rfl, rfl, h3, h4⟩
  · exact h.dp e q
  · rw [toPy]
    rw [isDat] at q
    exact .lst (SqL.of h3) (h4.dp e q)
/-- a list that is looked at -/
theorem RepB.lst (e : Ex S H) {v : V} {l : List D} (h : RepB K S H v (.lst l)) : ∃ p vs, v = .ref p ∧ SqL K H p vs ∧ Reps K S vs l := by
  rcases h with h | ⟨p, vs, l, rfl, h2, h3, h4⟩
  · cases h with
    | lst h r => exact ⟨_, _, rfl, SqL.of (e _ _ h), r⟩
  · cases h2
    exact ⟨p, vs, rfl, SqL.of h3, h4⟩
theorem RepB.lstH (e : Ex S H) {v : V} {l : List D} (h : RepB K S H v (.lst l)) : ∃ p vs, v = .ref p ∧ H p = some (.lst vs) ∧ Reps K S vs l := by
  rcases h with h | ⟨p, vs, l, rfl, h2, h3, h4⟩
  · cases h with
    | lst h r => exact ⟨_, _, rfl, e _ _ h, r⟩
  · cases h2
    exact ⟨p, vs, rfl, h3, h4⟩
theorem RepB.tup (e : Ex S H) {v : V} {l : List D} (h : RepB K S H v (.tup l)) : ∃ p vs, v = .ref p ∧ SqT K H p vs ∧ Reps K S vs l := by
  rcases h with h | ⟨p, vs, l, rfl, h2, h3, h4⟩
  · cases h with
    | tup h r => exact ⟨_, _, rfl, Evl.ex_t e h, r⟩
  · cases h2
theorem RepB.int {v : V} {i : Int} (h : RepB K S H v (.int i)) : v = .int i := by
  rcases h with h | ⟨p, vs, l, rfl, h2, h3, h4⟩
  · cases h
    rfl
  · cases h2
theorem RepB.bl {v : V} {i : Bool} (h : RepB K S H v (.bl i)) : v = .bl i := by
  rcases h with h | ⟨p, vs, l, rfl, h2, h3, h4⟩
  · cases h
    rfl
  · cases h2
theorem RepB.str {v : V} {i : Str} (h : RepB K S H v (.str i)) : v = .str i := by
  rcases h with h | ⟨p, vs, l, rfl, h2, h3, h4⟩
  · cases h
    rfl
  · cases h2
theorem RepB.non {v : V} (h : RepB K S H v .non) : v = .non := by
  rcases h with h | ⟨p, vs, l, rfl, h2, h3, h4⟩
  · cases h
    rfl
  · cases h2
theorem RepB.ins {v : V} {C : Addr} {ns : List Str} {l : List D} (h : RepB K S H v (.ins C ns l)) : Rep K S v (.ins C ns l) := by
  rcases h with h | ⟨p, vs, l, rfl, h2, h3, h4⟩
  · exact h
  · cases h2
/-- is it None? -/
def isNon : D → Option Bool
  | .non => some true
  | .any => none
  | _ => some false
theorem RepB.isNon {v : V} {d : D} (h : RepB K S H v d) {b : Bool} (e : isNon d = some b) : decide (v = V.non) = b := by
  rcases h with h | ⟨p, vs, l, rfl, rfl, h3, h4⟩
  · cases h <;> first
      | (cases e; rfl)
      | cases e
  · cases e
    rfl
end

/-! ### rules by values -/
abbrev M1 := D → (R → Prop) → Prop
abbrev M2 := D → D → (R → Prop) → Prop
abbrev MA := List D → (R → Prop) → Prop
/-- two values looked at, new things made -/
def OpD (K : PySem.W.Frag) (r : R2) (m : M2) : Prop := ∀ (S H : Hp) (x y : V) (dx dy : D) (Q : R → Prop) (Qv : VK), Ex S H → RepB K S H x dx → RepB K S H y dy → m dx dy Q →
  (∀ v H' S' q, NwR K S H S' H' q v → Q q → Qv v H') → r x y H Qv
def UnD (K : PySem.W.Frag) (r : V → Hp → VK → Prop) (m : M1) : Prop := ∀ (S H : Hp) (x : V) (dx : D) (Q : R → Prop) (Qv : VK), Ex S H → RepB K S H x dx → m dx Q →
  (∀ v H' S' q, NwR K S H S' H' q v → Q q → Qv v H') → r x H Qv
inductive RepBs (K : PySem.W.Frag) (S H : Hp) : List V → List D → Prop
  | nil : RepBs K S H [] []
  | cons {v : V} {vs : List V} {d : D} {ds : List D} : RepB K S H v d → RepBs K S H vs ds → RepBs K S H (v :: vs) (d :: ds)
def CallD (K : PySem.W.Frag) (r : List V → Hp → VK → Prop) (m : MA) : Prop := ∀ (S H : Hp) (vs : List V) (ds : List D) (Q : R → Prop) (Qv : VK), Ex S H → RepBs K S H vs ds → m ds Q →
  (∀ v H' S' q, NwR K S H S' H' q v → Q q → Qv v H') → r vs H Qv
theorem RepBs.nw {K : PySem.W.Frag} {S H S' H' : Hp} (n : Nw S H S' H') : ∀ {vs : List V} {ds : List D}, RepBs K S H vs ds → RepBs K S' H' vs ds
  | _, _, .nil => .nil
  | _, _, .cons h r => .cons (h.nw n) (RepBs.nw n r)

def tTruth (K : PySem.W.Frag) (ta : TE) : TT := fun σ H Q => ta σ H fun x H' => ∃ k, TruV K x H' k ∧ Q k H'
/-! ### expressions -/
def dVar (i : Nat) : DM := fun env Q => match env[i]? with
  | some (some (.val d)) => Q env (.val d)
  | some (some (.own l)) => Q env (.brw i l)
  | some (some .pool) => Q env .pool
  | _ => False
def dC (d : D) : DM := fun env Q => Q env (.val d)
/-- what is kept: a list of one's own stands still from now on -/
def dKeep (m : DM) : DM := fun env Q => m env fun env' r => match r with
  | .val d => Q env' (.val d)
  | .own l => Q env' (.val (.lst l))
  | .brw i l => Q (env'.set i (some (.val (.lst l)))) (.val (.lst l))
  | .pool => Q env' .pool
def dOp (m : M2) (ma mb : DM) : DM := fun env Q => ma env fun env1 r1 => mb env1 fun env2 r2 => m r1.data r2.data fun q => Q env2 q
def dUn (m : M1) (ma : DM) : DM := fun env Q => ma env fun env1 r1 => m r1.data fun q => Q env1 q
/-- both ways of a test -/
def dIte (c : Bool) (p q : Prop) : Prop := (c = true → p) ∧ (c = false → q)
theorem dIte_of {c : Bool} {p q : Prop} (h1 : c = true → p) (h2 : c = false → q) : dIte c p q := ⟨h1, h2⟩
theorem dIte_t {p q : Prop} (h : dIte true p q) : p := h.1 rfl
theorem dIte_f {p q : Prop} (h : dIte false p q) : q := h.2 rfl
def dIf (t : DTM) (ma mb : DM) : DM := fun env Q => t env fun env1 c => dIte c (ma env1 Q) (mb env1 Q)
def dAndV (ma mb : DM) : DM := fun env Q => ma env fun env1 r => match r with
  | .val (.bl c) => dIte c (mb env1 Q) (Q env1 (.val (.bl false)))
  | _ => False
def dOrV (ma mb : DM) : DM := fun env Q => ma env fun env1 r => match r with
  | .val (.bl c) => dIte c (Q env1 (.val (.bl true))) (mb env1 Q)
  | _ => False
def dNotV (ma : DM) : DM := fun env Q => ma env fun env1 r => match r with
  | .val (.bl c) => Q env1 (.val (.bl (!c)))
  | _ => False
/-- tests -/
def dB (m : DM) : DTM := fun env Q => m env fun env1 r => match r with
  | .val (.bl c) => Q env1 c
  | _ => False
def dAnd (ma mb : DTM) : DTM := fun env Q => ma env fun env1 c => dIte c (mb env1 Q) (Q env1 false)
def dOr (ma mb : DTM) : DTM := fun env Q => ma env fun env1 c => dIte c (Q env1 true) (mb env1 Q)
def dNot (ma : DTM) : DTM := fun env Q => ma env fun env1 c => Q env1 (!c)
/-- a value's truth -/
def truD : D → Option Bool
  | .non => some false
  | .bl b => some b
  | .int i => some (i != 0)
  | .str x => if x.length ≤ sizeLine then some ((x.length : Int) != 0) else none
  | .lst l => some (!l.isEmpty)
  | .tup l => some (!l.isEmpty)
  | _ => none
def dTru (m : DM) : DTM := fun env Q => m env fun env1 r => ∃ b, truD r.data = some b ∧ Q env1 b

section
variable {X : Cx} {a b c : Expr} {ma mb mc : DM} {pos : Pos} {ta tb : TE} {tc td : TT}
theorem Frz.set {env : En} {i : Nat} {l : List D} (h : Has env i (.own l)) : Frz env (env.set i (some (.val (.lst l)))) := ⟨List.length_set, fun j => by
  by_cases c : i = j
  · subst c
    refine .inr ⟨l, h, ?_⟩
    have : i < env.length := (List.getElem?_eq_some_iff.mp h).1
    show (env.set i _)[i]? = _
    rw [List.getElem?_set_self this]
  · exact .inl (List.getElem?_set_ne c)⟩
/-- a name's list stands still from now on -/
theorem SR.frz {K : PySem.W.Frag} {B : Bs} {S H : Hp} {env : En} {σ : St} {i : Nat} {l : List D} (s : SR K B S H env σ) (h : Has env i (.own l)) :
    ∃ p S', Slt σ i (.ref p) ∧ TPo K B S H env σ S' H (env.set i (some (.val (.lst l)))) ∧ Rep K S' (.ref p) (.lst l) := by
  have hh := h
  obtain ⟨p, vs, h1, h2, h3, h4, h5⟩ := s.own i l h
  have e1 : Ex S (upd S p (.lst vs)) := Ex.new h2
  have nx : ∀ a, a ≠ p → upd S p (.lst vs) a = S a := fun a c => upd_ne c
  have hp : ∀ a, B.pa = some a → a ≠ p := fun a e c => by
    obtain ⟨_, o, q⟩ := s.pool a e
    rw [c, h3] at q
    cases q
  have rp : Rep K (upd S p (.lst vs)) (.ref p) (.lst l) := .lst upd_same (h5.mono e1)
  have hi : i < env.length := (List.getElem?_eq_some_iff.mp h).1
  have self : (env.set i (some (.val (.lst l))))[i]? = some (some (.val (.lst l))) := List.getElem?_set_self hi
  have other : ∀ j, j ≠ i → (env.set i (some (.val (.lst l))))[j]? = env[j]? := fun j c => List.getElem?_set_ne (Ne.symm c)
  refine ⟨p, upd S p (.lst vs), h1, ⟨⟨s.ex0.trans e1, fun a o h e => ?_, s.keep0, s.old0, by rw [List.length_set]; exact s.len, fun a o q => ?_, fun j d hj => ?_, fun j m hj => ?_, fun j k m n q hj hk r1 r2 => ?_, fun j hj => ?_, fun a e => ?_, fun j q m hj => ?_, fun j k q m n hj hk r1 => ?_, fun j k q m n hj hk => ?_, s.pin⟩, ⟨e1, fun _ _ h _ => h, fun a o _ n e => ?_, fun _ h => h⟩, .set hh⟩, rp⟩
  · rw [nx a (fun c => by rw [c, h3] at h; cases h)]
    exact s.nw0 a o h e
  · by_cases c : a = p
    · subst c
      rw [upd_same] at q
      cases q
      exact h4
    · rw [nx a c] at q
      exact s.ex a o q
  · by_cases c : j = i
    · subst c
      rw [Has.inj hj self |> fun z => (by injection z : d = .lst l)]
      exact ⟨_, h1, rp⟩
    · obtain ⟨v, q1, q2⟩ := s.val j d ((other j c).symm.trans hj)
      exact ⟨v, q1, q2.mono e1⟩
  · by_cases c : j = i
    · subst c
      exact nomatch Has.inj hj self
    · have hj' : Has env j (.own m) := (other j c).symm.trans hj
      obtain ⟨q, ws, q1, q2, q3, q4, q5⟩ := s.own j m hj'
      refine ⟨q, ws, q1, ?_, q3, q4, q5.mono e1⟩
      rw [nx q (fun z => c (s.dis j i m l p hj' h (z ▸ q1) h1))]
      exact q2
  · have c1 : j ≠ i := fun z => by
      subst z
      exact nomatch Has.inj hj self
    have c2 : k ≠ i := fun z => by
      subst z
      exact nomatch Has.inj hk self
    exact s.dis j k m n q ((other j c1).symm.trans hj) ((other k c2).symm.trans hk) r1 r2
  · by_cases c : j = i
    · subst c
      exact nomatch Has.inj hj self
    · exact s.pl j ((other j c).symm.trans hj)
  · obtain ⟨⟨z, l', cells, pos, big, seed, cnt, bud, k1, k2, k3⟩, o⟩ := s.pool a e
    exact ⟨⟨(nx a (hp a e)).trans z, l', cells, pos, big, seed, cnt, bud, k1, e1 _ _ k2, k3⟩, o⟩
  · have c : j ≠ i := fun c => by
      subst c
      exact nomatch Has.inj hj self
    have hj' := (other j c).symm.trans hj
    obtain ⟨k1, k2, k3, ws, k4, k5⟩ := s.fix j q m hj'
    refine ⟨k1, ?_, k3, ws, k4, k5.mono e1⟩
    rw [nx q (fun z => s.dfx j i q m l hj' h (z ▸ h1))]
    exact k2
  · have c1 : j ≠ i := fun c => by
      subst c
      exact nomatch Has.inj hj self
    have c2 : k ≠ i := fun c => by
      subst c
      exact nomatch Has.inj hk self
    exact s.dfx j k q m n ((other j c1).symm.trans hj) ((other k c2).symm.trans hk) r1
  · have c1 : j ≠ i := fun c => by
      subst c
      exact nomatch Has.inj hj self
    have c2 : k ≠ i := fun c => by
      subst c
      exact nomatch Has.inj hk self
    exact s.dff j k q m n ((other j c1).symm.trans hj) ((other k c2).symm.trans hk)
  · rw [nx a (fun c => n (.inr (.inl ⟨i, l, hh, c ▸ h1⟩)))]
    exact e
theorem de_var (i : Nat) (h : PE X a (tVar i)) : DE X a (dVar i) (tVar i) := by
  refine ⟨h, fun B S H env σ Q Qv s m k => ?_⟩
  unfold dVar at m
  split at m
  · rename_i d e
    obtain ⟨v, h1, h2⟩ := s.val i d e
    exact ⟨v, h1, k v H S env (.val d) ⟨s, .refl, .refl _, h2⟩ m⟩
  · rename_i l e
    obtain ⟨p, vs, h1, h2, h3, h4, h5⟩ := s.own i l e
    exact ⟨_, h1, k _ H S env (.brw i l) ⟨s, .refl, .refl _, p, rfl, h1, e⟩ m⟩
  · rename_i e
    obtain ⟨a, h1, h2⟩ := s.pl i e
    exact ⟨_, h2, k _ H S env .pool ⟨s, .refl, .refl _, a, h1, rfl⟩ m⟩
  · exact m.elim
theorem de_c {v : V} {d : D} (h : PE X a (tC v)) (r : ∀ K S, Rep K S v d) : DE X a (dC d) (tC v) :=
  ⟨h, fun B S H env σ Q Qv s m k => k v H S env (.val d) ⟨s, .refl, .refl _, r _ _⟩ m⟩
theorem de_int {i : Int} {j pos} : DE X (.Constant (.int i) j pos) (dC (.int i)) (tC (.int i)) := de_c pe_int fun _ _ => .int i
theorem de_bl {i : Bool} {j pos} : DE X (.Constant (.bool i) j pos) (dC (.bl i)) (tC (.bl i)) := de_c pe_bl fun _ _ => .bl i
theorem de_str {i : Str} {j pos} : DE X (.Constant (.str i) j pos) (dC (.str i)) (tC (.str i)) := de_c pe_str fun _ _ => .str i
theorem de_non {j pos} : DE X (.Constant .none j pos) (dC .non) (tC .non) := de_c pe_non fun _ _ => .non
/-- a list of one's own is known from now on -/
theorem SR.add {K : PySem.W.Frag} {B : Bs} {S H : Hp} {env : En} {σ : St} {p : Addr} {o' : HO} (s : SR K B S H env σ) (z1 : S p = none) (z2 : B.H0 p = none) (z4 : ¬ Ow B env σ p) (z5 : H p = some o') : SR K B (upd S p o') H env σ := by
  have e1 : Ex S (upd S p o') := Ex.new z1
  have nx : ∀ b, b ≠ p → upd S p o' b = S b := fun b c => upd_ne c
  refine ⟨s.ex0.trans e1, fun b o h1 h2 => ?_, s.keep0, s.old0, s.len, fun b o h1 => ?_, fun i d h1 => ?_, fun i m h1 => ?_, s.dis, s.pl, fun b h1 => ?_, fun i q m h1 => ?_, s.dfx, s.dff, s.pin⟩
  · rw [nx b (fun c => by rw [c, z2] at h1; cases h1)]
    exact s.nw0 b o h1 h2
  · by_cases c : b = p
    · subst c
      rw [upd_same] at h1
      cases h1
      exact z5
    · rw [nx b c] at h1
      exact s.ex b o h1
  · obtain ⟨v, q1, q2⟩ := s.val i d h1
    exact ⟨v, q1, q2.mono e1⟩
  · obtain ⟨q, ws, q1, q2, q3, q4, q5⟩ := s.own i m h1
    refine ⟨q, ws, q1, ?_, q3, q4, q5.mono e1⟩
    rw [nx q (fun c => z4 (.inr (.inl ⟨i, m, h1, c ▸ q1⟩)))]
    exact q2
  · obtain ⟨⟨y, l', cells, pos, big, seed, cnt, bud, k1, k2, k3⟩, o⟩ := s.pool b h1
    exact ⟨⟨(nx b (fun c => z4 (.inl (c ▸ h1)))).trans y, l', cells, pos, big, seed, cnt, bud, k1, e1 _ _ k2, k3⟩, o⟩
  · obtain ⟨k1, k2, k3, ws, k4, k5⟩ := s.fix i q m h1
    refine ⟨k1, ?_, k3, ws, k4, k5.mono e1⟩
    rw [nx q (fun c => z4 (.inr (.inr ⟨i, m, c ▸ h1⟩)))]
    exact k2
theorem de_keep (h : DE X a ma ta) : DE X a (dKeep ma) ta := by
  obtain ⟨h1, h2⟩ := h
  refine ⟨h1, fun B S H env σ Q Qv s m k => h2 B S H env σ _ Qv s m fun v H' S' env' r e q => ?_⟩
  have er := e.res
  cases r with
  | val d => exact k v H' S' env' _ e q
  | own l =>
    obtain ⟨p, vs, rfl, z1, z2, z3, z4, z5, z6⟩ := er
    have ne : ∀ b o, H b = some o → b ≠ p := fun b o q z => by rw [z, z3] at q; cases q
    have e1 : Ex S' (upd S' p (.lst vs)) := Ex.new z1
    exact k _ H' (upd S' p (.lst vs)) env' (.val (.lst l)) ⟨e.sr.add z1 z2 z4 z5, ⟨e.go.ex.trans e1, e.go.keep, fun b o h1 h2 h3 => by rw [upd_ne (ne b o h1)]; exact e.go.nw b o h1 h2 h3, e.go.old⟩, e.fz, .lst upd_same (z6.mono e1)⟩ q
  | brw i l =>
    obtain ⟨p, rfl, z1, z2⟩ := er
    obtain ⟨p', S2, y1, y2, y3⟩ := e.sr.frz z2
    cases Slt.ref z1 y1
    exact k _ H' S2 _ (.val (.lst l)) (e.t.e ⟨y2.sr, y2.go, y2.fz, y3⟩) q
  | pool => exact k v H' S' env' .pool e q
/-- behind the operands: what a rule by values has given -/
theorem EPo.fin {K : PySem.W.Frag} {B : Bs} {S H S' H' S'' H'' : Hp} {env env' : En} {σ : St} {q : R} {v : V} (t : TPo K B S H env σ S' H' env') (n : NwR K S' H' S'' H'' q v) : EPo K B S H env σ S'' H'' env' q v := t.e (.of t.sr n)
theorem EPo.look1 {K : PySem.W.Frag} {B : Bs} {S H S' H' : Hp} {env env' : En} {σ : St} {q : R} {v : V} (e : EPo K B S H env σ S' H' env' q v) : RepB K S' H' v q.data := e.res.look e.sr
theorem de_op {op : Operator} {r : R2} {m : M2} (ho : OpR X (binaryOp op) r) (hd : OpD X.K r m) (ha : DE X a ma ta) (hb : DE X b mb tb) : DE X (.BinOp a op b pos) (dOp m ma mb) (tOp r ta tb) := by
  obtain ⟨a1, a2⟩ := ha
  obtain ⟨b1, b2⟩ := hb
  refine ⟨pe_op ho a1 b1, fun B S H env σ Q Qv s q k => ?_⟩
  refine a2 B S H env σ _ _ s q fun x H1 S1 env1 r1 e1 q1 => ?_
  refine b2 B S1 H1 env1 σ _ _ e1.sr q1 fun y H2 S2 env2 r2 e2 q2 => ?_
  exact hd S2 H2 x y _ _ _ _ e2.sr.ex (e1.look e2) e2.look1 q2 fun v H3 S3 q n q3 => k v H3 S3 env2 q (.fin (e1.t.trans e2.t) n) q3
theorem de_cmp {op : CmpOp} {r : R2} {m : M2} (ho : OpR X (compareOp op) r) (hd : OpD X.K r m) (ha : DE X a ma ta) (hb : DE X b mb tb) (hm : behindInMarks op b = false) : DE X (.Compare a [op] [b] pos) (dOp m ma mb) (tOp r ta tb) := by
  obtain ⟨a1, a2⟩ := ha
  obtain ⟨b1, b2⟩ := hb
  refine ⟨pe_cmpR ho a1 b1 hm, fun B S H env σ Q Qv s q k => ?_⟩
  refine a2 B S H env σ _ _ s q fun x H1 S1 env1 r1 e1 q1 => ?_
  refine b2 B S1 H1 env1 σ _ _ e1.sr q1 fun y H2 S2 env2 r2 e2 q2 => ?_
  exact hd S2 H2 x y _ _ _ _ e2.sr.ex (e1.look e2) e2.look1 q2 fun v H3 S3 q n q3 => k v H3 S3 env2 q (.fin (e1.t.trans e2.t) n) q3
theorem de_ix {r : R2} {m : M2} (ho : IxR X r) (hd : OpD X.K r m) (ha : DE X a ma ta) (hb : DE X b mb tb) (hs : PlainIx b) : DE X (.Subscript a b pos) (dOp m ma mb) (tOp r ta tb) := by
  obtain ⟨a1, a2⟩ := ha
  obtain ⟨b1, b2⟩ := hb
  refine ⟨pe_ix ho a1 b1 hs, fun B S H env σ Q Qv s q k => ?_⟩
  refine a2 B S H env σ _ _ s q fun x H1 S1 env1 r1 e1 q1 => ?_
  refine b2 B S1 H1 env1 σ _ _ e1.sr q1 fun y H2 S2 env2 r2 e2 q2 => ?_
  exact hd S2 H2 x y _ _ _ _ e2.sr.ex (e1.look e2) e2.look1 q2 fun v H3 S3 q n q3 => k v H3 S3 env2 q (.fin (e1.t.trans e2.t) n) q3
theorem de_un {op : UnaryOp} {r : V → Hp → VK → Prop} {m : M1} (ho : UnR X (unaryOp op) r) (hd : UnD X.K r m) (ha : DE X a ma ta) : DE X (.UnaryOp op a pos) (dUn m ma) (tUn r ta) := by
  obtain ⟨a1, a2⟩ := ha
  refine ⟨pe_un ho a1, fun B S H env σ Q Qv s q k => ?_⟩
  refine a2 B S H env σ _ _ s q fun x H1 S1 env1 r1 e1 q1 => ?_
  exact hd S1 H1 x _ _ _ e1.sr.ex e1.look1 q1 fun v H3 S3 q n q3 => k v H3 S3 env1 q (.fin e1.t n) q3
theorem de_if {t : DTM} (hc : DT X c t tc) (ha : DE X a ma ta) (hb : DE X b mb tb) : DE X (.IfExp c a b pos) (dIf t ma mb) (L2.tIf tc ta tb) := by
  obtain ⟨c1, c2⟩ := hc
  obtain ⟨a1, a2⟩ := ha
  obtain ⟨b1, b2⟩ := hb
  refine ⟨pe_ifExp c1 a1 b1, fun B S H env σ Q Qv s q k => ?_⟩
  refine c2 B S H env σ _ _ s q fun c H1 S1 env1 e1 q1 => ?_
  cases c with
  | true => exact a2 B S1 H1 env1 σ _ _ e1.sr (dIte_t q1) fun v H2 S2 env2 r2 e2 q2 => k v H2 S2 env2 r2 (e1.e e2) q2
  | false => exact b2 B S1 H1 env1 σ _ _ e1.sr (dIte_f q1) fun v H2 S2 env2 r2 e2 q2 => k v H2 S2 env2 r2 (e1.e e2) q2
theorem Res.bl {K : PySem.W.Frag} {B : Bs} {A : Addr → Prop} {H S' H' : Hp} {env' : En} {σ : St} {c : Bool} {v : V} (h : Res K B A H S' H' env' σ (.val (.bl c)) v) : v = .bl c := by
  have h' : Rep K S' v (.bl c) := h
  cases h'
  rfl
theorem de_one {op : BoolOp} (ha : DE X a ma ta) : DE X (.BoolOp op [a] pos) ma ta := by
  obtain ⟨a1, a2⟩ := ha
  exact ⟨pe_one a1, a2⟩
theorem de_and {rest : List Expr} (ha : DE X a ma ta) (hb : DE X (.BoolOp .And (b :: rest) pos) mb tb) : DE X (.BoolOp .And (a :: b :: rest) pos) (dAndV ma mb) (tAndV ta tb) := by
  obtain ⟨a1, a2⟩ := ha
  obtain ⟨b1, b2⟩ := hb
  refine ⟨pe_and a1 b1, fun B S H env σ Q Qv s q k => ?_⟩
  refine a2 B S H env σ _ _ s q fun x H1 S1 env1 r1 e1 q1 => ?_
  split at q1
  · rename_i c
    refine ⟨c, e1.res.bl, ?_⟩
    cases c with
    | true => exact b2 B S1 H1 env1 σ _ _ e1.sr (dIte_t q1) fun v H2 S2 env2 r2 e2 q2 => k v H2 S2 env2 r2 (e1.t.e e2) q2
    | false => exact k _ H1 S1 env1 (.val (.bl false)) ⟨e1.sr, e1.go, e1.fz, Rep.bl _⟩ (dIte_f q1)
  · exact q1.elim
theorem de_or {rest : List Expr} (ha : DE X a ma ta) (hb : DE X (.BoolOp .Or (b :: rest) pos) mb tb) : DE X (.BoolOp .Or (a :: b :: rest) pos) (dOrV ma mb) (tOrV ta tb) := by
  obtain ⟨a1, a2⟩ := ha
  obtain ⟨b1, b2⟩ := hb
  refine ⟨pe_or a1 b1, fun B S H env σ Q Qv s q k => ?_⟩
  refine a2 B S H env σ _ _ s q fun x H1 S1 env1 r1 e1 q1 => ?_
  split at q1
  · rename_i c
    refine ⟨c, e1.res.bl, ?_⟩
    cases c with
    | true => exact k _ H1 S1 env1 (.val (.bl true)) ⟨e1.sr, e1.go, e1.fz, Rep.bl _⟩ (dIte_t q1)
    | false => exact b2 B S1 H1 env1 σ _ _ e1.sr (dIte_f q1) fun v H2 S2 env2 r2 e2 q2 => k v H2 S2 env2 r2 (e1.t.e e2) q2
  · exact q1.elim
theorem de_not (ha : DE X a ma ta) : DE X (.UnaryOp .Not a pos) (dNotV ma) (tNotV ta) := by
  obtain ⟨a1, a2⟩ := ha
  refine ⟨pe_not a1, fun B S H env σ Q Qv s q k => ?_⟩
  refine a2 B S H env σ _ _ s q fun x H1 S1 env1 r1 e1 q1 => ?_
  split at q1
  · rename_i c
    exact ⟨c, e1.res.bl, k _ H1 S1 env1 (.val (.bl (!c))) ⟨e1.sr, e1.go, e1.fz, Rep.bl _⟩ q1⟩
  · exact q1.elim

/-! ### tests -/
def DW (X : Cx) (e : Expr) (m : DTM) (t : TT) : Prop := PW X e t ∧ ∀ (B : Bs) (S H : Hp) (env : En) (σ : St) (Q : En → Bool → Prop) (Qv : Bool → Hp → Prop), SR X.K B S H env σ → m env Q →
  (∀ b H' S' env', TPo X.K B S H env σ S' H' env' → Q env' b → Qv b H') → t σ H Qv
theorem DW.dt {e : Expr} {m : DTM} (h : DW X e m tc) : DT X e m tc := by
  obtain ⟨h1, h2⟩ := h
  exact ⟨h1.pt, h2⟩
theorem dt_val (ha : DE X a ma ta) (he : ∀ whole, isTrue a X.env whole = (do let v ← whole; standAt a.pos; holding [v] (truthy v)) := by intro _; rfl) : DT X a (dB ma) (tB ta) := by
  obtain ⟨a1, a2⟩ := ha
  refine ⟨pt_val a1 he, fun B S H env σ Q Qv s q k => ?_⟩
  refine a2 B S H env σ _ _ s q fun x H1 S1 env1 r1 e1 q1 => ?_
  split at q1
  · rename_i c
    exact ⟨c, e1.res.bl, k _ H1 S1 env1 e1.t q1⟩
  · exact q1.elim
theorem dt_cmp {op : CmpOp} {r : R2} {m : M2} (ho : OpR X (compareOp op) r) (hd : OpD X.K r m) (ha : DE X a ma ta) (hb : DE X b mb tb) (hm : behindInMarks op b = false) : DT X (.Compare a [op] [b] pos) (dB (dOp m ma mb)) (tTest (tOp r ta tb)) := by
  obtain ⟨a1, a2⟩ := ha
  obtain ⟨b1, b2⟩ := hb
  refine ⟨pt_cmpR ho a1 b1 hm, fun B S H env σ Q Qv s q k => ?_⟩
  refine a2 B S H env σ _ _ s q fun x H1 S1 env1 r1 e1 q1 => ?_
  refine b2 B S1 H1 env1 σ _ _ e1.sr q1 fun y H2 S2 env2 r2 e2 q2 => ?_
  refine hd S2 H2 x y _ _ _ _ e2.sr.ex (e1.look e2) e2.look1 q2 fun v H3 S3 q n q3 => ?_
  have f := EPo.fin (e1.t.trans e2.t) n
  dsimp only at q3
  split at q3
  · rename_i c
    exact ⟨c, f.res.bl, k _ H3 S3 env2 f.t q3⟩
  · exact q3.elim
theorem dw_and1 {m : DTM} (ha : DT X a m tc) : DW X (.BoolOp .And [a] pos) m tc := by
  obtain ⟨a1, a2⟩ := ha
  exact ⟨pw_and1 a1, a2⟩
theorem dw_or1 {m : DTM} (ha : DT X a m tc) : DW X (.BoolOp .Or [a] pos) m tc := by
  obtain ⟨a1, a2⟩ := ha
  exact ⟨pw_or1 a1, a2⟩
theorem dw_and {m n : DTM} {rest : List Expr} (ha : DT X a m tc) (hb : DW X (.BoolOp .And (b :: rest) pos) n td) : DW X (.BoolOp .And (a :: b :: rest) pos) (dAnd m n) (tAnd tc td) := by
  obtain ⟨a1, a2⟩ := ha
  obtain ⟨b1, b2⟩ := hb
  refine ⟨pw_and a1 b1, fun B S H env σ Q Qv s q k => ?_⟩
  refine a2 B S H env σ _ _ s q fun c H1 S1 env1 e1 q1 => ?_
  cases c with
  | true => exact b2 B S1 H1 env1 σ _ _ e1.sr (dIte_t q1) fun v H2 S2 env2 e2 q2 => k v H2 S2 env2 (e1.trans e2) q2
  | false => exact k _ H1 S1 env1 e1 (dIte_f q1)
theorem dw_or {m n : DTM} {rest : List Expr} (ha : DT X a m tc) (hb : DW X (.BoolOp .Or (b :: rest) pos) n td) : DW X (.BoolOp .Or (a :: b :: rest) pos) (dOr m n) (tOr tc td) := by
  obtain ⟨a1, a2⟩ := ha
  obtain ⟨b1, b2⟩ := hb
  refine ⟨pw_or a1 b1, fun B S H env σ Q Qv s q k => ?_⟩
  refine a2 B S H env σ _ _ s q fun c H1 S1 env1 e1 q1 => ?_
  cases c with
  | true => exact k _ H1 S1 env1 e1 (dIte_t q1)
  | false => exact b2 B S1 H1 env1 σ _ _ e1.sr (dIte_f q1) fun v H2 S2 env2 e2 q2 => k v H2 S2 env2 (e1.trans e2) q2
theorem dt_not {m : DTM} (ha : DT X a m tc) : DT X (.UnaryOp .Not a pos) (dNot m) (tNot tc) := by
  obtain ⟨a1, a2⟩ := ha
  refine ⟨pt_not a1, fun B S H env σ Q Qv s q k => ?_⟩
  exact a2 B S H env σ _ _ s q fun c H1 S1 env1 e1 q1 => k _ H1 S1 env1 e1 q1
theorem RepB.tru {K : PySem.W.Frag} {S H : Hp} {v : V} {d : D} {b : Bool} (e : Ex S H) (h : RepB K S H v d) (q : truD d = some b) : TruV K v H b := by
  have em : ∀ {vs : List V} {l : List D}, Reps K S vs l → (!l.isEmpty) = !vs.isEmpty := fun r => by cases r <;> rfl
  cases d with
  | non => rw [h.non]; cases q; rfl
  | bl c => rw [h.bl]; cases q; rfl
  | int i => rw [h.int]; cases q; rfl
  | str x =>
    rw [h.str]
    have q' : (if x.length ≤ sizeLine then some ((x.length : Int) != 0) else Option.none) = some b := q
    split at q'
    · rename_i c
      cases q'
      exact ⟨c, rfl⟩
    · cases q'
  | lst l =>
    obtain ⟨p, vs, rfl, h1, h2⟩ := h.lst e
    cases q
    exact .inl ⟨vs, h1, em h2⟩
  | tup l =>
    obtain ⟨p, vs, rfl, h1, h2⟩ := h.tup e
    cases q
    exact .inr (.inl ⟨vs, h1, em h2⟩)
  | ins C ns l => cases q
  | any => cases q
  | err _ _ _ _ _ => cases q
  | scr _ => cases q
theorem dt_tru (ha : DE X a ma ta) (he : ∀ whole, isTrue a X.env whole = (do let v ← whole; standAt a.pos; holding [v] (truthy v)) := by intro _; rfl) : DT X a (dTru ma) (tTruth X.K ta) := by
  obtain ⟨a1, a2⟩ := ha
  refine ⟨pt_truth a1 he, fun B S H env σ Q Qv s q k => ?_⟩
  refine a2 B S H env σ _ _ s q fun x H1 S1 env1 r1 e1 q1 => ?_
  obtain ⟨b, h1, h2⟩ := q1
  exact ⟨b, e1.look1.tru e1.sr.ex h1, k _ H1 S1 env1 e1.t h2⟩

/-! ### arguments, displays, calls of built-ins -/
abbrev DAM := En → (En → List R → Prop) → Prop
/-- a value looked at, or the pool -/
inductive LkA (K : PySem.W.Frag) (B : Bs) (S H : Hp) : List V → List R → Prop
  | nil : LkA K B S H [] []
  | cons {v : V} {vs : List V} {r : R} {rs : List R} : RepB K S H v r.data → (∀ d, r = .val d → Rep K S v d) → (r = .pool → ∃ a, B.pa = some a ∧ v = .ref a) → LkA K B S H vs rs → LkA K B S H (v :: vs) (r :: rs)
def DA (X : Cx) (es : List Expr) (m : DAM) (t : TA) : Prop := PA X es t ∧ ∀ (B : Bs) (S H : Hp) (env : En) (σ : St) (Q : En → List R → Prop) (Qv : List V → Hp → Prop), SR X.K B S H env σ → m env Q →
  (∀ vs H' S' env' rs, TPo X.K B S H env σ S' H' env' → LkA X.K B S' H' vs rs → vs.length = es.length → Q env' rs → Qv vs H') → t σ H Qv
def dNil : DAM := fun env Q => Q env []
def dCons (m : DM) (n : DAM) : DAM := fun env Q => m env fun env1 r => n env1 fun env2 rs => Q env2 (r :: rs)
theorem da_nil : DA X [] dNil tNil := ⟨pa_nil, fun B S H env σ Q Qv s q k => k [] H S env [] (.refl s) .nil rfl q⟩
theorem da_cons {es : List Expr} {n : DAM} {tn : TA} (ha : DE X a ma ta) (hb : DA X es n tn) (hs : starEach (a :: es) X.env = (false, eval a X.env) :: starEach es X.env := by rfl) : DA X (a :: es) (dCons ma n) (tCons ta tn) := by
  obtain ⟨a1, a2⟩ := ha
  obtain ⟨b1, b2⟩ := hb
  refine ⟨pa_cons a1 b1 hs, fun B S H env σ Q Qv s q k => ?_⟩
  refine a2 B S H env σ _ _ s q fun x H1 S1 env1 r1 e1 q1 => ?_
  refine b2 B S1 H1 env1 σ _ _ e1.sr q1 fun vs H2 S2 env2 rs e2 l2 len2 q2 => ?_
  refine k _ H2 S2 env2 _ (e1.t.trans e2) (.cons (RepB.go e1 rfl e2) (fun d e => ?_) (fun e => ?_) l2) (by rw [List.length_cons, List.length_cons, len2]) q2
  · subst e
    have := e1.res
    exact Rep.mono e2.go.ex this
  · subst e
    exact e1.res
/-- plain values -/
def vals : List R → Option (List D)
  | [] => some []
  | .val d :: r => (vals r).map (d :: ·)
  | _ => none
theorem LkA.vals {K : PySem.W.Frag} {B : Bs} {S H : Hp} : ∀ {vs : List V} {rs : List R} {ds : List D}, LkA K B S H vs rs → vals rs = some ds → Reps K S vs ds
  | _, _, ds, .nil, e => by
    cases e
    exact .nil
  | _, _, ds, .cons (r := r) (rs := rs) h k p t, e => by
    cases r with
    | val d =>
      have e' : (DL.vals rs).map (d :: ·) = some ds := e
      cases q : DL.vals rs with
      | none =>
        rw [q] at e'
        cases e'
      | some l =>
        rw [q] at e'
        cases e'
        exact .cons (k d rfl) (LkA.vals t q)
    | own l => cases e
    | brw i l => cases e
    | pool => cases e
theorem LkA.repBs {K : PySem.W.Frag} {B : Bs} {S H : Hp} : ∀ {vs : List V} {rs : List R}, LkA K B S H vs rs → RepBs K S H vs (rs.map R.data)
  | _, _, .nil => .nil
  | _, _, .cons h k p t => .cons h (LkA.repBs t)
def dTup (n : DAM) : DM := fun env Q => n env fun env' rs => ∃ ds, vals rs = some ds ∧ ds.length ≤ sizeLine ∧ Q env' (.val (.tup ds))
def dLst (n : DAM) : DM := fun env Q => n env fun env' rs => ∃ ds, vals rs = some ds ∧ ds.length ≤ sizeLine ∧ Q env' (.own ds)
def dCB (m : MA) (n : DAM) : DM := fun env Q => n env fun env' rs => m (rs.map R.data) fun q => Q env' q
theorem de_tup {es : List Expr} {x1} {n : DAM} {tn : TA} (h : DA X es n tn) : DE X (.Tuple es x1 pos) (dTup n) (tTup tn) := by
  obtain ⟨a1, a2⟩ := h
  refine ⟨pe_tup a1, fun B S H env σ Q Qv s q k => ?_⟩
  refine a2 B S H env σ _ _ s q fun vs H1 S1 env1 rs e1 l1 _ q1 => ?_
  obtain ⟨ds, h1, h2, h3⟩ := q1
  have r := l1.vals h1
  refine ⟨by rw [r.length]; exact h2, fun p hp => ?_⟩
  have n := Nw.add e1.sr.ex (o := .tup vs) hp
  exact k _ _ _ env1 (.val (.tup ds)) (EPo.fin e1 (q := .val (.tup ds)) ⟨n, .tup (SqT.of upd_same) (r.mono n.ex)⟩) h3
theorem de_lst {es : List Expr} {n : DAM} {tn : TA} (h : DA X es n tn) : DE X (.List es pos) (dLst n) (tLst tn) := by
  obtain ⟨a1, a2⟩ := h
  refine ⟨pe_lst a1, fun B S H env σ Q Qv s q k => ?_⟩
  refine a2 B S H env σ _ _ s q fun vs H1 S1 env1 rs e1 l1 _ q1 => ?_
  obtain ⟨ds, h1, h2, h3⟩ := q1
  have r := l1.vals h1
  refine ⟨by rw [r.length]; exact h2, fun p hp => ?_⟩
  have n := Nw.hid e1.sr.ex (o := .lst vs) hp
  exact k _ _ _ env1 (.own ds) (EPo.fin e1 (q := .own ds) ⟨n, p, vs, rfl, hp, e1.sr.sp0 hp, upd_same, r⟩) h3
theorem de_callB {id : String} {r : List V → Hp → VK → Prop} {m : MA} {x : Str} {p : Pos} {es : List Expr} {n : DAM} {tn : TA} (hc : CallR X (.builtin id) r) (hd : CallD X.K r m) (hg : Gl X x) (hm : X.mg x = none) (hv : bootBuiltins x = some (.builtin id)) (ha : DA X (a :: es) n tn)
    (hn : x ≠ "__name__" := by decide) (hdb : (x == ("__debug__" : Str)) = false := by decide)
    (he : starEach (a :: es) X.env = (false, eval a X.env) :: starEach es X.env := by rfl) (hpl : (backTo pos (starEach es X.env)).any (·.1) = false := by rfl) : DE X (.Call (.Name x p) (a :: es) [] pos) (dCB m n) (tCB r tn) := by
  obtain ⟨a1, a2⟩ := ha
  refine ⟨pe_callB hc hg hm hv a1 hn hdb he hpl, fun B S H env σ Q Qv s q k => ?_⟩
  refine a2 B S H env σ _ _ s q fun vs H1 S1 env1 rs e1 l1 _ q1 => ?_
  exact hd S1 H1 vs _ _ _ e1.sr.ex l1.repBs q1 fun v H3 S3 q n q3 => k v H3 S3 env1 q (.fin e1 n) q3
theorem de_callTy {T : String} {r : List V → Hp → VK → Prop} {m : MA} {x : Str} {p : Pos} {es : List Expr} {n : DAM} {tn : TA} (hc : CallR X (.type T) r) (hd : CallD X.K r m) (hg : Gl X x) (hm : X.mg x = none) (hv : bootBuiltins x = some (.type T)) (ha : DA X (a :: es) n tn)
    (hn : x ≠ "__name__" := by decide) (hdb : (x == ("__debug__" : Str)) = false := by decide)
    (he : starEach (a :: es) X.env = (false, eval a X.env) :: starEach es X.env := by rfl) (hpl : (backTo pos (starEach es X.env)).any (·.1) = false := by rfl) : DE X (.Call (.Name x p) (a :: es) [] pos) (dCB m n) (tCB r tn) := by
  obtain ⟨a1, a2⟩ := ha
  refine ⟨pe_callTy hc hg hm hv a1 hn hdb he hpl, fun B S H env σ Q Qv s q k => ?_⟩
  refine a2 B S H env σ _ _ s q fun vs H1 S1 env1 rs e1 l1 _ q1 => ?_
  exact hd S1 H1 vs _ _ _ e1.sr.ex l1.repBs q1 fun v H3 S3 q n q3 => k v H3 S3 env1 q (.fin e1 n) q3
end
end DL
end

section
set_option Elab.async false
set_option linter.all false
set_option maxRecDepth 100000
set_option maxHeartbeats 4000000
namespace DL
open PySem L2
open Evl (Ex)

/-- what an error tells: its class, its field, the field's data -/
structure Xd where
  C : Addr
  a : Str
  v : D
/-- the weakest wish of what leaves X -/
def wk (X : Cx) : WX := fun cls d σ H => ∀ u s', L2N.XE X (fun c' d' σ' H' => c' = cls ∧ d' = d ∧ σ' = σ ∧ H' = H) u s' → X.xe u s'
theorem takes_wk {X : Cx} : L2N.Takes X (wk X) := fun u s' ⟨a, B, sI, pins, σ, H, cls, d, e, I, nb, up, sky, na, os, ag, w⟩ => w u s' ⟨a, B, sI, pins, σ, H, cls, d, e, I, nb, up, sky, na, os, ag, rfl, rfl, rfl, rfl⟩
theorem wk_of {X : Cx} {W : WX} (t : L2N.Takes X W) {cls : Value} {d : Option Addr} {σ : L2.St} {H : Hp} (h : W cls d σ H) : wk X cls d σ H := fun u s' ⟨a, B, sI, pins, σ', H', cls', d', e, I, nb, up, sky, na, os, ag, w⟩ => by
  obtain ⟨rfl, rfl, rfl, rfl⟩ := w
  exact t u s' ⟨a, B, sI, pins, σ', H', cls', d', e, I, nb, up, sky, na, os, ag, h⟩
structure DEn where
  nx : En → Prop
  rt : En → R → Prop
  bk : En → Prop := fun _ => False
  ct : En → Prop := fun _ => False
  xc : Xd → Prop := fun _ => False
/-- what a def hands back -/
def RetR (K : PySem.W.Frag) (B : Bs) (S H : Hp) : R → V → Prop
  | .val d, v => Rep K S v d
  | .own l, v => ∃ p vs, v = .ref p ∧ S p = none ∧ B.H0 p = none ∧ H p = some (.lst vs) ∧ Reps K S vs l
  | .pool, v => ∃ a, B.pa = some a ∧ v = .ref a
  | .brw _ _, _ => False
/-- an error leaves -/
def XcOk (X : Cx) (B : Bs) (σ : L2.St) (Qx : Xd → Prop) : Prop := ∀ S H env d x v, SR X.K B S H env σ → B.H0 d = none → S d = none → H d = some (.xd [(x.a, v)]) → Rep X.K S v x.v → Qx x → wk X (.ref x.C) (some d) σ H
structure EndOk (X : Cx) (B : Bs) (E : DEn) (D : Ends) : Prop where
  nx : ∀ S H env σ, SR X.K B S H env σ → E.nx env → D.nx σ H
  rt : ∀ S H env σ r v, SR X.K B S H env σ → RetR X.K B S H r v → E.rt env r → D.rt v H
  bk : ∀ S H env σ, SR X.K B S H env σ → E.bk env → D.bk σ H
  ct : ∀ S H env σ, SR X.K B S H env σ → E.ct env → D.ct σ H
  xc : ∀ σ, XcOk X B σ E.xc := by intro _ _ _ _ _ _ _ _ _ _ _ _ z; exact z.elim
abbrev DSM := DEn → En → Prop
def DS (X : Cx) (st : Stmt) (m : DSM) (t : TS) : Prop := PS X st t ∧ ∀ (B : Bs) (S H : Hp) (env : En) (σ : St) (E : DEn) (D : Ends), SR X.K B S H env σ → m E env → EndOk X B E D → t D σ H
def DSs (X : Cx) (st : List Stmt) (m : DSM) (t : TS) : Prop := PSs X st t ∧ ∀ (B : Bs) (S H : Hp) (env : En) (σ : St) (E : DEn) (D : Ends), SR X.K B S H env σ → m E env → EndOk X B E D → t D σ H

/-! ### stores -/
def R.nv : R → Option Nv
  | .val d => some (.val d)
  | .own l => some (.own l)
  | .pool => some .pool
  | .brw _ _ => none
section
variable {K : PySem.W.Frag} {B : Bs} {S H S' H' : Hp} {env env' : En} {σ : St}
theorem set_self {env : En} {i : Nat} {n : Option Nv} {m : Nv} (h : Has (env.set i n) i m) : n = some m := by
  have hi : i < (env.set i n).length := (List.getElem?_eq_some_iff.mp h).1
  rw [List.length_set] at hi
  have q : (env.set i n)[i]? = some (some m) := h
  rw [List.getElem?_set_self hi] at q
  exact Option.some.inj q
theorem set_other {env : En} {i j : Nat} {n : Option Nv} {m : Nv} (h : Has (env.set i n) j m) (c : j ≠ i) : Has env j m := (List.getElem?_set_ne (Ne.symm c)).symm.trans h
theorem sset_self {σ : St} {i : Nat} {v : V} (h : i < σ.length) : Slt (σ.set i (some v)) i v := List.getElem?_set_self h
theorem sset_other {σ : St} {i j : Nat} {n : Option V} {v : V} (c : j ≠ i) : Slt (σ.set i n) j v ↔ Slt σ j v := by
  show (σ.set i n)[j]? = _ ↔ σ[j]? = _
  rw [List.getElem?_set_ne (Ne.symm c)]
/-- a name takes what an expression gave -/
theorem SR.store {i : Nat} {n : Option Nv} {v : V} (s : SR K B S H env σ) (hv : ∀ d, n = some (.val d) → Rep K S v d)
    (ho : ∀ l, n = some (.own l) → ∃ p vs, v = .ref p ∧ S p = none ∧ B.H0 p = none ∧ H p = some (.lst vs) ∧ Reps K S vs l ∧ (∀ j m, j ≠ i → Has env j (.own m) → ¬ Slt σ j (.ref p)) ∧ ∀ j m, ¬ Has env j (.fix p m)) (hp : n = some .pool → ∃ a, B.pa = some a ∧ v = .ref a) (hf : ∀ q m, n ≠ some (.fix q m) := by intro q m e; cases e) :
    SR K B S H (env.set i n) (σ.set i (some v)) := by
  have hl : ∀ j (m : Nv), Has (env.set i n) j m → j < σ.length := fun j m h => by
    have q := (List.getElem?_eq_some_iff.mp h).1
    rw [List.length_set] at q
    exact s.len ▸ q
  refine ⟨s.ex0, s.nw0, s.keep0, s.old0, by rw [List.length_set, List.length_set]; exact s.len, s.ex, fun j d h => ?_, fun j l h => ?_, fun j k l m p h1 h2 h3 h4 => ?_, fun j h => ?_, s.pool, fun j q m h => ?_, fun j k q m n h1 h2 h3 => ?_, fun j k q m n h1 h2 => ?_, s.pin⟩
  · by_cases c : j = i
    · subst c
      exact ⟨v, sset_self (hl _ _ h), hv d (set_self h)⟩
    · obtain ⟨w, q1, q2⟩ := s.val j d (set_other h c)
      exact ⟨w, (sset_other c).mpr q1, q2⟩
  · by_cases c : j = i
    · subst c
      obtain ⟨p, vs, rfl, q1, q2, q3, q4, _⟩ := ho l (set_self h)
      exact ⟨p, vs, sset_self (hl _ _ h), q1, q2, q3, q4⟩
    · obtain ⟨p, vs, q1, q2⟩ := s.own j l (set_other h c)
      exact ⟨p, vs, (sset_other c).mpr q1, q2⟩
  · by_cases c : j = i
    · subst c
      by_cases c2 : k = j
      · exact c2.symm
      · obtain ⟨q, vs, rfl, q1, q2, q3, q4, q5⟩ := ho l (set_self h1)
        cases Slt.ref h3 (sset_self (hl _ _ h1))
        exact absurd ((sset_other c2).mp h4) (q5.1 k m c2 (set_other h2 c2))
    · by_cases c2 : k = i
      · subst c2
        obtain ⟨q, vs, rfl, q1, q2, q3, q4, q5⟩ := ho m (set_self h2)
        cases Slt.ref h4 (sset_self (hl _ _ h2))
        exact absurd ((sset_other c).mp h3) (q5.1 j l c (set_other h1 c))
      · exact s.dis j k l m p (set_other h1 c) (set_other h2 c2) ((sset_other c).mp h3) ((sset_other c2).mp h4)
  · by_cases c : j = i
    · subst c
      obtain ⟨a, e1, e2⟩ := hp (set_self h)
      subst e2
      exact ⟨a, e1, sset_self (hl _ _ h)⟩
    · obtain ⟨a, e1, e2⟩ := s.pl j (set_other h c)
      exact ⟨a, e1, (sset_other c).mpr e2⟩
  · have c : j ≠ i := fun z => by
      subst z
      exact hf q m (set_self h)
    obtain ⟨k1, k2⟩ := s.fix j q m (set_other h c)
    exact ⟨(sset_other c).mpr k1, k2⟩
  · have c : j ≠ i := fun z => by
      subst z
      exact hf q m (set_self h1)
    by_cases c2 : k = i
    · subst c2
      obtain ⟨p, vs, rfl, _, _, _, _, _, nf⟩ := ho n (set_self h2)
      cases Slt.ref h3 (sset_self (hl _ _ h2))
      exact nf j m (set_other h1 c)
    · exact s.dfx j k q m n (set_other h1 c) (set_other h2 c2) ((sset_other c2).mp h3)
  · have c : j ≠ i := fun z => by
      subst z
      exact hf q m (set_self h1)
    have c2 : k ≠ i := fun z => by
      subst z
      exact hf q n (set_self h2)
    exact s.dff j k q m n (set_other h1 c) (set_other h2 c2)
theorem SR.storeD {i : Nat} {d : D} {v : V} (s : SR K B S H env σ) (h : Rep K S v d) : SR K B S H (env.set i (some (.val d))) (σ.set i (some v)) :=
  s.store (fun d' e => by cases e; exact h) (fun l e => by cases e) fun e => by cases e
/-- a name is forgotten -/
theorem SR.drop {i : Nat} {n : Option V} (s : SR K B S H env σ) : SR K B S H (env.set i none) (σ.set i n) := by
  have ne : ∀ j (m : Nv), Has (env.set i none) j m → j ≠ i := fun j m h c => by
    subst c
    exact nomatch set_self h
  exact ⟨s.ex0, s.nw0, s.keep0, s.old0, by rw [List.length_set, List.length_set]; exact s.len, s.ex,
    fun j d h => let ⟨w, q1, q2⟩ := s.val j d (set_other h (ne j _ h)); ⟨w, (sset_other (ne j _ h)).mpr q1, q2⟩,
    fun j l h => let ⟨p, vs, q1, q2⟩ := s.own j l (set_other h (ne j _ h)); ⟨p, vs, (sset_other (ne j _ h)).mpr q1, q2⟩,
    fun j k l m p h1 h2 h3 h4 => s.dis j k l m p (set_other h1 (ne j _ h1)) (set_other h2 (ne k _ h2)) ((sset_other (ne j _ h1)).mp h3) ((sset_other (ne k _ h2)).mp h4),
    fun j h => let ⟨a, e1, e2⟩ := s.pl j (set_other h (ne j _ h)); ⟨a, e1, (sset_other (ne j _ h)).mpr e2⟩, s.pool,
    fun j q m h => let ⟨k1, k2⟩ := s.fix j q m (set_other h (ne j _ h)); ⟨(sset_other (ne j _ h)).mpr k1, k2⟩,
    fun j k q m n h1 h2 h3 => s.dfx j k q m n (set_other h1 (ne j _ h1)) (set_other h2 (ne k _ h2)) ((sset_other (ne k _ h2)).mp h3),
    fun j k q m n h1 h2 => s.dff j k q m n (set_other h1 (ne j _ h1)) (set_other h2 (ne k _ h2)), s.pin⟩
/-- an own list is written -/
theorem SR.put {i : Nat} {l l' : List D} {p : Addr} {vs' : List V} (s : SR K B S H env σ) (h : Has env i (.own l)) (hp : Slt σ i (.ref p)) (r : Reps K S vs' l') : SR K B S (upd H p (.lst vs')) (env.set i (some (.own l'))) σ := by
  obtain ⟨q, vs, h1, h2, h3, h4, h5⟩ := s.own i l h
  cases Slt.ref hp h1
  have hi : i < env.length := (List.getElem?_eq_some_iff.mp h).1
  have npa : ∀ a, B.pa = some a → a ≠ p := fun a e c => by
    obtain ⟨_, o, q⟩ := s.pool a e
    rw [c, h3] at q
    cases q
  refine ⟨s.ex0, s.nw0, fun a o e c => ?_, fun a e => ?_, by rw [List.length_set]; exact s.len, fun a o e => ?_, fun j d e => ?_, fun j m e => ?_, fun j k m n q e1 e2 e3 e4 => ?_, fun j e => ?_, fun a e => ?_, fun j q m e => ?_, fun j k q m n e1 e2 e3 => ?_, fun j k q m n e1 e2 => ?_, fun a e => by rw [upd_ne (npa a e)]; exact s.pin a e⟩
  · rw [upd_ne (fun z => by rw [z, h3] at e; cases e)]
    exact s.keep0 a o e c
  · by_cases z : a = p
    · subst z
      exact h3
    · rw [upd_ne z] at e
      exact s.old0 a e
  · rw [upd_ne (fun z => by rw [z, h2] at e; cases e)]
    exact s.ex a o e
  · by_cases z : j = i
    · subst z
      exact nomatch set_self e
    · exact s.val j d (set_other e z)
  · by_cases z : j = i
    · subst z
      cases set_self e
      exact ⟨p, vs', hp, h2, h3, upd_same, r⟩
    · obtain ⟨q, ws, q1, q2, q3, q4, q5⟩ := s.own j m (set_other e z)
      refine ⟨q, ws, q1, q2, q3, ?_, q5⟩
      rw [upd_ne (fun c => z (s.dis j i m l p (set_other e z) h (by rw [← c]; exact q1) hp))]
      exact q4
  · have own' : ∀ j m, Has (env.set i (some (.own l'))) j (.own m) → ∃ m', Has env j (.own m') := fun j m e => by
      by_cases z : j = i
      · subst z
        exact ⟨l, h⟩
      · exact ⟨m, set_other e z⟩
    obtain ⟨m', e1'⟩ := own' j m e1
    obtain ⟨n', e2'⟩ := own' k n e2
    exact s.dis j k m' n' q e1' e2' e3 e4
  · by_cases z : j = i
    · subst z
      exact nomatch set_self e
    · exact s.pl j (set_other e z)
  · obtain ⟨⟨y, l', cells, pos, big, seed, cnt, bud, k1, k2, k3⟩, o⟩ := s.pool a e
    exact ⟨⟨y, l', cells, pos, big, seed, cnt, bud, (upd_ne (npa a e)).trans k1, k2, k3⟩, o⟩
  · have c : j ≠ i := fun z => by
      subst z
      cases set_self e
    obtain ⟨k1, k2, k3, ws, k4, k5⟩ := s.fix j q m (set_other e c)
    refine ⟨k1, k2, k3, ws, ?_, k5⟩
    rw [upd_ne (fun z => s.dfx j i q m l (set_other e c) h (by rw [z]; exact hp))]
    exact k4
  · have c : j ≠ i := fun z => by
      subst z
      cases set_self e1
    by_cases z : k = i
    · subst z
      exact s.dfx j k q m l (set_other e1 c) h e3
    · exact s.dfx j k q m n (set_other e1 c) (set_other e2 z) e3
  · have c : j ≠ i := fun z => by
      subst z
      cases set_self e1
    have c2 : k ≠ i := fun z => by
      subst z
      cases set_self e2
    exact s.dff j k q m n (set_other e1 c) (set_other e2 c2)
/-- another start: what is known now -/
theorem SR.base {S1 H1 : Hp} {env1 : En} {σ1 : St} (s1 : SR K B S1 H1 env1 σ1) : SR K ⟨S1, B.H0, B.pa⟩ S1 H1 env1 σ1 :=
  ⟨Ex.refl _, fun _ _ _ e => e, s1.keep0, s1.old0, s1.len, s1.ex, s1.val, s1.own, s1.dis, s1.pl, s1.pool, s1.fix, s1.dfx, s1.dff, s1.pin⟩
theorem SR.unbase {S1 H1 : Hp} {env1 : En} {σ1 : St} (s1 : SR K B S1 H1 env1 σ1) (s : SR K ⟨S1, B.H0, B.pa⟩ S H env σ) : SR K B S H env σ :=
  ⟨s1.ex0.trans s.ex0, fun a o h e => s.nw0 a o h (s1.nw0 a o h e), s.keep0, s.old0, s.len, s.ex, s.val, s.own, s.dis, s.pl, s.pool, s.fix, s.dfx, s.dff, s.pin⟩
theorem EndOk.base {S1 H1 : Hp} {env1 : En} {σ1 : St} {X : Cx} {E : DEn} {D : Ends} (s1 : SR X.K B S1 H1 env1 σ1) (e : EndOk X B E D) : EndOk X ⟨S1, B.H0, B.pa⟩ E D :=
  ⟨fun S H env σ s h => e.nx S H env σ (s1.unbase s) h, fun S H env σ r v s q h => e.rt S H env σ r v (s1.unbase s) (by cases r <;> exact q) h, fun S H env σ s h => e.bk S H env σ (s1.unbase s) h, fun S H env σ s h => e.ct S H env σ (s1.unbase s) h, fun σ S H env d x v s h0 h1 h r q => e.xc σ S H env d x v (s1.unbase s) h0 h1 h r q⟩
end

/-! ### small statements -/
def dNext : DSM := fun E env => E.nx env
def dSeq (m n : DSM) : DSM := fun E env => m { E with nx := n E } env
def dDrop (m : DM) : DSM := fun E env => m env fun env' _ => E.nx env'
def dSet (i : Nat) (m : DM) : DSM := fun E env => m env fun env' r => match r with
  | .val d => E.nx (env'.set i (some (.val d)))
  | .own l => E.nx (env'.set i (some (.own l)))
  | .brw j l => E.nx ((env'.set j (some (.val (.lst l)))).set i (some (.val (.lst l))))
  | .pool => E.nx (env'.set i (some .pool))
def dRet (m : DM) : DSM := fun E env => m env fun env' r => match r with
  | .val d => E.rt env' (.val d)
  | .own l => E.rt env' (.own l)
  | .brw _ l => E.rt env' (.own l)
  | .pool => E.rt env' .pool
def dRetN : DSM := fun E env => E.rt env (.val .non)
def dBrk : DSM := fun E env => E.bk env
def dCnt : DSM := fun E env => E.ct env
def dIfS (t : DTM) (m n : DSM) : DSM := fun E env => t env fun env1 c => dIte c (m E env1) (n E env1)
def dAug (i : Nat) (op : M2) (m : DM) : DSM := fun E env => ∃ x, Has env i (.val x) ∧ m env fun env1 r => op x r.data fun q => match q with
  | .val d => E.nx (env1.set i (some (.val d)))
  | _ => False
/-- name.append(e) -/
def dApp (i : Nat) (m : DM) : DSM := fun E env => match env[i]? with
  | some (some (.own _)) => dKeep m env fun env1 r => match r, env1[i]? with
    | .val d, some (some (.own l)) => l.length < sizeLine ∧ E.nx (env1.set i (some (.own (l ++ [d]))))
    | _, _ => False
  | _ => False
/-- name[e] = e2 -/
def dPut (i : Nat) (mi m : DM) : DSM := fun E env => dKeep m env fun env1 r => (∃ l0, Has env1 i (.own l0)) ∧ mi env1 fun env2 k => match r, k, env2[i]? with
  | .val d, .val (.int j), some (some (.own l)) => ∃ n, ixN l.length j = some n ∧ E.nx (env2.set i (some (.own (l.set n d))))
  | _, _, _ => False
def dNever : DSM := fun _ _ => False

section
variable {X : Cx} {a b c : Expr} {ma mb : DM} {pos : Pos} {st : Stmt} {rest sts : List Stmt} {m n : DSM} {ta tb : TE} {tc : TT} {tm tn : TS}
theorem dss_nil : DSs X [] dNext tNext := ⟨pss_nil, fun B S H env σ E D s q e => e.nx S H env σ s q⟩
theorem dss_cons (h : DS X st m tm) (k : DSs X rest n tn) : DSs X (st :: rest) (dSeq m n) (tSeq tm tn) := by
  obtain ⟨h1, h2⟩ := h
  obtain ⟨k1, k2⟩ := k
  exact ⟨pss_cons h1 k1, fun B S H env σ E D s q e => h2 B S H env σ { E with nx := n E } _ s q ⟨fun S' H' env' σ' s' q' => k2 B S' H' env' σ' E D s' q' e, e.rt, e.bk, e.ct, e.xc⟩⟩
theorem dss_one (h : DS X st m tm) : DSs X [st] m tm := by
  obtain ⟨h1, h2⟩ := h
  exact ⟨pss_one h1, h2⟩
theorem ds_pass : DS X (.Pass pos) dNext tNext := ⟨ps_pass, fun B S H env σ E D s q e => e.nx S H env σ s q⟩
theorem ds_break : DS X (.Break pos) dBrk tBreak := ⟨ps_break, fun B S H env σ E D s q e => e.bk S H env σ s q⟩
theorem ds_continue : DS X (.Continue pos) dCnt tCont := ⟨ps_continue, fun B S H env σ E D s q e => e.ct S H env σ s q⟩
theorem ds_never : DS X st dNever tNever := ⟨ps_never, fun B S H env σ E D s q e => q.elim⟩
theorem dss_never : DSs X sts dNever tNever := ⟨pss_never, fun B S H env σ E D s q e => q.elim⟩
theorem ds_expr (ha : DE X a ma ta) (hs : swapsWith a none pos.line X.env = pure false := by rfl) : DS X (.Expr a pos) (dDrop ma) (tDrop ta) := by
  obtain ⟨h1, h2⟩ := ha
  exact ⟨ps_expr h1 hs, fun B S H env σ E D s q e => h2 B S H env σ _ _ s q fun v H' S' env' r z q' => e.nx S' H' env' σ z.sr q'⟩
theorem ds_set {i : Nat} {x : Str} {pos' : Pos} (hN : X.N.Nodup) (hi : X.N[i]? = some x) (hx : Loc X.env.scope x) (ha : DE X a ma ta) (hs : swapsWith a (some (.Name x pos')) pos.line X.env = pure false := by rfl)
    (hf : X.fn x = true ∨ X.env.scope.names.lookup x = some .local := by first | exact .inl rfl | exact .inr rfl | assumption) : DS X (.Assign [.Name x pos'] a pos) (dSet i ma) (tAsg ta (gName i)) := by
  obtain ⟨h1, h2⟩ := ha
  refine ⟨ps_set hN hi hx h1 hs hf, fun B S H env σ E D s q e => h2 B S H env σ _ _ s q fun v H' S' env' r z q' => ?_⟩
  have zr := z.res
  cases r with
  | val d => exact e.nx S' H' _ _ (z.sr.storeD zr) q'
  | own l =>
    obtain ⟨p, vs, rfl, z1, z2, z3, z4, z5, z6⟩ := zr
    exact e.nx S' H' _ _ (z.sr.store (fun d e => by cases e) (fun l' e => by cases e; exact ⟨p, vs, rfl, z1, z2, z5, z6, fun j m _ h1 h2 => z4 (.inr (.inl ⟨j, m, h1, h2⟩)), fun j m h1 => z4 (.inr (.inr ⟨j, m, h1⟩))⟩) fun e => by cases e) q'
  | brw j l =>
    obtain ⟨p, rfl, z1, z2⟩ := zr
    obtain ⟨p', S2, y1, y2, y3⟩ := z.sr.frz z2
    cases Slt.ref z1 y1
    exact e.nx S2 H' _ _ (y2.sr.storeD y3) q'
  | pool =>
    obtain ⟨a, z1, rfl⟩ := zr
    exact e.nx S' H' _ _ (z.sr.store (fun d e => by cases e) (fun l' e => by cases e) fun _ => ⟨a, z1, rfl⟩) q'
theorem ds_ret (ha : DE X a ma ta) : DS X (.Return (some a) pos) (dRet ma) (tRet ta) := by
  obtain ⟨h1, h2⟩ := ha
  refine ⟨ps_ret h1, fun B S H env σ E D s q e => h2 B S H env σ _ _ s q fun v H' S' env' r z q' => ?_⟩
  have zr := z.res
  cases r with
  | val d => exact e.rt S' H' env' σ (.val d) v z.sr zr q'
  | own l =>
    obtain ⟨p, vs, rfl, z1, z2, z3, z4, z5, z6⟩ := zr
    exact e.rt S' H' env' σ (.own l) _ z.sr ⟨p, vs, rfl, z1, z2, z5, z6⟩ q'
  | brw j l =>
    obtain ⟨p, rfl, z1, z2⟩ := zr
    obtain ⟨p', vs, y1, y2, y3, y4, y5⟩ := z.sr.own j l z2
    cases Slt.ref z1 y1
    exact e.rt S' H' env' σ (.own l) _ z.sr ⟨p, vs, rfl, y2, y3, y4, y5⟩ q'
  | pool => exact e.rt S' H' env' σ .pool v z.sr zr q'
theorem ds_retN : DS X (.Return none pos) dRetN tRetN := ⟨ps_retN, fun B S H env σ E D s q e => e.rt S H env σ (.val .non) .non s .non q⟩
theorem ds_if {t : DTM} {p q : List Stmt} (hc : DT X c t tc) (h : DSs X p m tm) (k : DSs X q n tn) : DS X (.If c p q pos) (dIfS t m n) (tIfS tc tm tn) := by
  obtain ⟨c1, c2⟩ := hc
  obtain ⟨h1, h2⟩ := h
  obtain ⟨k1, k2⟩ := k
  refine ⟨ps_if c1 h1 k1, fun B S H env σ E D s q e => c2 B S H env σ _ _ s q fun b H1 S1 env1 z q1 => ?_⟩
  cases b with
  | true => exact h2 B S1 H1 env1 σ E D z.sr (dIte_t q1) e
  | false => exact k2 B S1 H1 env1 σ E D z.sr (dIte_f q1) e
theorem ds_aug {i : Nat} {x : Str} {op : Operator} {r : R2} {o : M2} {pos' : Pos} (hN : X.N.Nodup) (hi : X.N[i]? = some x) (hx : Loc X.env.scope x) (ha : DE X a ma ta) (ho : OpR X (inplaceOp op) r) (hd : OpD X.K r o)
    (hf : X.fn x = true ∨ X.env.scope.names.lookup x = some .local := by first | exact .inl rfl | exact .inr rfl | assumption) : DS X (.AugAssign (.Name x pos') op a pos) (dAug i o ma) (tAug i ta r) := by
  obtain ⟨h1, h2⟩ := ha
  refine ⟨ps_aug hN hi hx h1 (ti := r) (fun pins s σ H x y v u Q I => ho pins s σ H x y v u Q I) hf, fun B S H env σ E D s q e => ?_⟩
  obtain ⟨x, q1, q2⟩ := q
  obtain ⟨v, s1, s2⟩ := s.val i x q1
  refine ⟨v, s1, h2 B S H env σ _ _ s q2 fun w H' S' env' k z q' => ?_⟩
  refine hd S' H' v w _ _ _ _ z.sr.ex (.inl (s2.mono z.go.ex)) z.look1 q' fun u H2 S2 g n q2 => ?_
  split at q2
  · rename_i d
    exact e.nx S2 H2 _ _ ((z.sr.nw n.nw).storeD n.2) q2
  · exact q2.elim
theorem ds_app {i : Nat} {x : Str} {xp apos cpos : Pos} (hv : PE X (.Name x xp) (tVar i)) (ha : DE X a ma ta)
    (hbase : attributeBase (.Name x xp) "append" X.env (eval (.Name x xp) X.env) = eval (.Name x xp) X.env := by rfl)
    (hfew : ((backTo cpos (starEach (a :: []) X.env)).all (fun x => !x.1) && (backToKw cpos (keywordEach [] X.env)).all (fun x => x.1.isSome)
      && decide ((a :: []).length + ([] : List Keyword).length + (if ([] : List Keyword).isEmpty then 0 else 1) < 30)) = true := by rfl)
    (hline : (apos.endLine == cpos.line) = true := by rfl) (hs : starEach (a :: []) X.env = (false, eval a X.env) :: starEach [] X.env := by rfl) (hplain : (backTo cpos (starEach [] X.env)).any (·.1) = false := by rfl)
    (hsw : swapsWith (.Call (.Attribute (.Name x xp) "append" apos) [a] [] cpos) none pos.line X.env = pure false := by rfl) : DS X (.Expr (.Call (.Attribute (.Name x xp) "append" apos) [a] [] cpos) pos) (dApp i ma) (tDrop (tBM X.K "list" rAppend (tVar i) (tCons ta tNil))) := by
  obtain ⟨h1, h2⟩ := de_keep ha
  refine ⟨ps_expr (pe_bm PySem.F.plainAttrs_list PySem.F.slot_list_append PySem.F.type_list_append mt_append hv (pa_cons h1 pa_nil hs) hbase hfew hline hs hplain) hsw, fun B S H env σ E D s q e => ?_⟩
  unfold dApp at q
  split at q
  · rename_i l0 c0
    obtain ⟨p, vs, hp, p1, p2, p3, p4⟩ := s.own i l0 c0
    refine ⟨.ref p, hp, .inl ⟨rfl, _, SqL.of p3⟩, ?_⟩
    refine h2 B S H env σ _ _ s q fun v H' S' env' r z q' => ?_
    split at q'
    · rename_i d l c
      obtain ⟨p', ws, y1, y2, y3, y4, y5⟩ := z.sr.own i l c
      cases Slt.ref hp y1
      refine ⟨p, ws, v, rfl, rfl, y4, by rw [y5.length]; exact q'.1, ?_⟩
      exact e.nx S' _ _ σ (z.sr.put c hp (y5.append (.cons z.res .nil))) q'.2
    · exact q'.elim
  · exact q.elim
theorem ds_put {i : Nat} {x : Str} {xp tp : Pos} (hv : PE X (.Name x xp) (tVar i)) (hb : DE X b mb tb) (ha : DE X a ma ta)
    (hss : ∀ v, assign (.Subscript (.Name x xp) b tp) X.env v = (do
      let ov ← holding [v] (eval (.Name x xp) X.env)
      let iv ← holding [v, ov] (eval b X.env)
      standAt tp
      holding [v, ov, iv] (setItem ov iv v)
      release [v, ov, iv] []) := by intro _; rfl)
    (hs : swapsWithSole [.Subscript (.Name x xp) b tp] a pos.line X.env = pure false := by rfl) (hw : swappedStores [.Subscript (.Name x xp) b tp] a X.env = pure none := by rfl)
    (h1 : (assignEach [.Subscript (.Name x xp) b tp] X.env).map (·.2) = [assign (.Subscript (.Name x xp) b tp) X.env] := by rfl) : DS X (.Assign [.Subscript (.Name x xp) b tp] a pos) (dPut i mb ma) (tAsg ta (gSub (tVar i) tb rSetL)) := by
  obtain ⟨t1, t2⟩ := de_keep ha
  obtain ⟨u1, u2⟩ := hb
  refine ⟨ps_asg t1 (pg_sub hv u1 set_list hss) hs hw h1, fun B S H env σ E D s q e => ?_⟩
  refine t2 B S H env σ _ _ s q fun v H1 S1 env1 r z1 q1 => ?_
  obtain ⟨⟨l0, c0⟩, q1⟩ := q1
  obtain ⟨o, vs0, ho, _⟩ := z1.sr.own i l0 c0
  refine ⟨_, ho, u2 B S1 H1 env1 σ _ _ z1.sr q1 fun w H2 S2 env2 k z2 q2 => ?_⟩
  split at q2
  · rename_i d j l c
    obtain ⟨n, n1, n2⟩ := q2
    obtain ⟨p, vs, y1, y2, y3, y4, y5⟩ := z2.sr.own i l c
    have y1' := y1
    cases Slt.inj ho y1
    have e2 : w = .int j := by
      have := z2.res
      have h' : Rep X.K S2 w (.int j) := this
      cases h'
      rfl
    refine ⟨_, vs, j, n, rfl, e2, y4, by rw [y5.length]; exact n1, ?_⟩
    have r1 : Rep X.K S1 v d := z1.res
    exact e.nx S2 _ _ σ (z2.sr.put c y1' (y5.set n (r1.mono z2.go.ex))) n2
  · exact q2.elim
end
end DL
end

section
set_option Elab.async false
set_option linter.all false
set_option maxRecDepth 100000
set_option maxHeartbeats 4000000
namespace L2
open PySem PySem.Spec PyProof.Rows
section
variable {X : Cx} {tg : Expr}
/-- a list or a tuple, walked -/
def iSeq (K : PySem.W.Frag) (tl : TE) : TI := fun σ H R => tl σ H fun x H1 => ∃ a, x = .ref a ∧ (((∃ xs, SqL K H1 a xs) ∧ R (Itl K a) H1) ∨ ((∃ xs, SqT K H1 a xs) ∧ R (Itt K a) H1))
theorem pi_seq {l : Expr} {tl : TE} (hl : PE X l tl) : PI X tg l (iSeq X.K tl) := by
  refine ⟨fun pins s σ H R I h => ?_⟩
  refine thn (hl.run pins s σ H _ I h) fun v s1 ⟨x, H1, I1, r1, q1⟩ => ?_
  obtain ⟨a, e, q⟩ := q1
  subst e
  cases r1
  rcases q with ⟨⟨xs, hq⟩, q⟩ | ⟨⟨xs, hq⟩, q⟩
  · obtain ⟨its, rv, p, hz⟩ := I1.list hq
    refine wpAny_pyIter_list p.isList ?_
    refine ⟨s1.heap.objs.size, [s1.heap.objs.size], _, _, H1, rfl, I1.kept (t' := s1.toks) fun b o e => Heap.get?_push_of_some _ e, turn_list a _, ⟨_, Heap.get?_push_size _ rfl, rfl, rfl⟩, fun b hb => ?_, q⟩
    have e : b = s1.heap.objs.size := by simpa using hb
    subst e
    exact I1.fpOk (Nat.le_refl _) (I1.hok.fresh (Nat.le_refl _))
  · obtain ⟨its, rv, p, hz⟩ := I1.tuple hq
    refine wpAny_pyIter_tuple (show s1.heap.IsTuple a its.toArray from p) ?_
    refine ⟨s1.heap.objs.size, [s1.heap.objs.size], _, _, H1, rfl, I1.kept (t' := s1.toks) fun b o e => Heap.get?_push_of_some _ e, turn_tuple a _, ⟨_, Heap.get?_push_size _ rfl, rfl, rfl⟩, fun b hb => ?_, q⟩
    have e : b = s1.heap.objs.size := by simpa using hb
    subst e
    exact I1.fpOk (Nat.le_refl _) (I1.hok.fresh (Nat.le_refl _))
end
end L2
namespace DL
open PySem L2
open Evl (Ex)

/-! ### what a loop walks -/
structure ItD (K : PySem.W.Frag) (J : It) (S : Hp) (ds : List D) : Prop where
  go : ∀ i, i < ds.length → ∀ S' H', Ex S S' → Ex S' H' → J.go i H'
  yld : ∀ i d, ds[i]? = some d → ∀ S' H' x H'', Ex S S' → Ex S' H' → J.yld i H' x H'' → ∃ S'', Nw S' H' S'' H'' ∧ Rep K S'' x d
  stop : ∀ S' H', Ex S S' → Ex S' H' → J.stop ds.length H'
abbrev DIM := En → (En → List D → Prop) → Prop
def DI (X : Cx) (tg iter : Expr) (mi : DIM) (wi : TI) : Prop := PI X tg iter wi ∧ ∀ (B : Bs) (S H : Hp) (env : En) (σ : St) (Q : En → List D → Prop) (R : It → Hp → Prop), SR X.K B S H env σ → mi env Q →
  (∀ J H' S' env' ds, TPo X.K B S H env σ S' H' env' → ItD X.K J S' ds → Q env' ds → R J H') → wi σ H R
def itemsOf : D → Option (List D)
  | .lst l => some l
  | .tup l => some l
  | _ => none
/-- over a list or a tuple -/
def dOver (m : DM) : DIM := fun env Q => dKeep m env fun env' r => match r with
  | .val (.lst l) => Q env' l
  | .val (.tup l) => Q env' l
  | _ => False
def rangeD (lo hi : Int) : List D := (List.range (hi - lo).toNat).map fun k => .int (lo + (k : Nat))
def dRng1 (m : DM) : DIM := fun env Q => m env fun env' r => match r with
  | .val (.int j) => -(2 ^ 62) ≤ j ∧ j < 2 ^ 62 ∧ Q env' (rangeD 0 j)
  | _ => False
def dRng2 (m n : DM) : DIM := fun env Q => m env fun env1 r => n env1 fun env2 q => match r, q with
  | .val (.int i), .val (.int j) => (-(2 ^ 62) ≤ i ∧ i < 2 ^ 62 ∧ -(2 ^ 62) ≤ j ∧ j < 2 ^ 62) ∧ Q env2 (rangeD i j)
  | _, _ => False
section
variable {X : Cx} {tg a b : Expr} {ma mb : DM} {pos : Pos} {ta tb : TE} {tc : TT} {tm : TS}
theorem ItD.list {K : PySem.W.Frag} {S : Hp} {p : Addr} {vs : List V} {ds : List D} (h : SqL K S p vs) (r : Reps K S vs ds) : ItD K (Itl K p) S ds :=
  ⟨fun i hi S' H' e1 e2 => ⟨vs, vs[i]'(by rw [r.length]; exact hi), Evl.ex_l (e1.trans e2) h, List.getElem?_eq_getElem _⟩,
   fun i d hd S' H' x H'' e1 e2 y => by
    obtain ⟨rfl, y⟩ := y
    obtain ⟨v, h1, h2⟩ := r.get hd
    have q := y vs (Evl.ex_l (e1.trans e2) h)
    rw [h1] at q
    cases q
    exact ⟨S', .refl e2, h2.mono e1⟩,
   fun S' H' e1 e2 => ⟨vs, Evl.ex_l (e1.trans e2) h, by rw [r.length]; exact Nat.le_refl _⟩⟩
theorem ItD.tup {K : PySem.W.Frag} {S : Hp} {p : Addr} {vs : List V} {ds : List D} (h : SqT K S p vs) (r : Reps K S vs ds) : ItD K (Itt K p) S ds :=
  ⟨fun i hi S' H' e1 e2 => ⟨vs, vs[i]'(by rw [r.length]; exact hi), Evl.ex_t (e1.trans e2) h, List.getElem?_eq_getElem _⟩,
   fun i d hd S' H' x H'' e1 e2 y => by
    obtain ⟨rfl, y⟩ := y
    obtain ⟨v, h1, h2⟩ := r.get hd
    have q := y vs (Evl.ex_t (e1.trans e2) h)
    rw [h1] at q
    cases q
    exact ⟨S', .refl e2, h2.mono e1⟩,
   fun S' H' e1 e2 => ⟨vs, Evl.ex_t (e1.trans e2) h, by rw [r.length]; exact Nat.le_refl _⟩⟩
theorem ItD.range {K : PySem.W.Frag} {S : Hp} (lo hi : Int) : ItD K (Itr lo (hi - lo).toNat) S (rangeD lo hi) := by
  have hl : (rangeD lo hi).length = (hi - lo).toNat := by unfold rangeD; simp
  refine ⟨fun i h S' H' _ _ => hl ▸ h, fun i d hd S' H' x H'' e1 e2 y => ?_, fun S' H' _ _ => Nat.le_of_eq hl.symm⟩
  obtain ⟨rfl, rfl⟩ := y
  have hi' : i < (hi - lo).toNat := hl ▸ (List.getElem?_eq_some_iff.mp hd).1
  have : d = .int (lo + (i : Nat)) := by
    have q : (rangeD lo hi)[i]? = some d := hd
    unfold rangeD at q
    simp [hi'] at q
    exact q.symm
  subst this
  exact ⟨S', .refl e2, .int _⟩
theorem di_over (ha : DE X a ma ta) : DI X tg a (dOver ma) (iSeq X.K ta) := by
  obtain ⟨h1, h2⟩ := de_keep ha
  refine ⟨pi_seq h1, fun B S H env σ Q R s q k => h2 B S H env σ _ _ s q fun v H' S' env' r z q' => ?_⟩
  split at q'
  · rename_i l
    have zr : Rep X.K S' v (.lst l) := z.res
    cases zr with
    | lst h r => exact ⟨_, rfl, .inl ⟨⟨_, SqL.of (z.sr.ex _ _ h)⟩, k _ H' S' env' l z.t (.list (SqL.of h) r) q'⟩⟩
  · rename_i l
    have zr : Rep X.K S' v (.tup l) := z.res
    cases zr with
    | tup h r => exact ⟨_, rfl, .inr ⟨⟨_, Evl.ex_t z.sr.ex h⟩, k _ H' S' env' l z.t (.tup h r) q'⟩⟩
  · exact q'.elim
theorem di_rng1 {p : Pos} (hg : Gl X "range") (hm : X.mg "range" = none) (ha : DE X a ma ta) (hs : starEach [a] X.env = [(false, eval a X.env)] := by rfl) : DI X tg (.Call (.Name "range" p) [a] [] pos) (dRng1 ma) (iRng1 (tCons ta tNil)) := by
  obtain ⟨h1, h2⟩ := ha
  refine ⟨pi_range1 hg hm (pa_cons h1 pa_nil (by rw [hs] <;> rfl)) hs, fun B S H env σ Q R s q k => h2 B S H env σ _ _ s q fun v H' S' env' r z q' => ?_⟩
  split at q'
  · rename_i j
    have zr : Rep X.K S' v (.int j) := z.res
    cases zr
    have d := ItD.range (K := X.K) (S := S') 0 j
    rw [Int.sub_zero] at d
    exact ⟨j, rfl, q'.1, q'.2.1, k _ H' S' env' _ z.t d q'.2.2⟩
  · exact q'.elim
theorem di_rng2 {p : Pos} (hg : Gl X "range") (hm : X.mg "range" = none) (ha : DE X a ma ta) (hb : DE X b mb tb) (hs : starEach [a, b] X.env = [(false, eval a X.env), (false, eval b X.env)] := by rfl) (hs2 : starEach [b] X.env = [(false, eval b X.env)] := by rfl) :
    DI X tg (.Call (.Name "range" p) [a, b] [] pos) (dRng2 ma mb) (iRng2 (tCons ta (tCons tb tNil))) := by
  obtain ⟨h1, h2⟩ := ha
  obtain ⟨k1, k2⟩ := hb
  refine ⟨pi_range2 hg hm (pa_cons h1 (pa_cons k1 pa_nil (by rw [hs2] <;> rfl)) (by rw [hs, hs2])) hs hs2, fun B S H env σ Q R s q k => h2 B S H env σ _ _ s q fun v H1 S1 env1 r z q1 => k2 B S1 H1 env1 σ _ _ z.sr q1 fun w H' S' env' g y q' => ?_⟩
  split at q'
  · rename_i i j
    have zr : Rep X.K S1 v (.int i) := z.res
    cases zr
    have yr : Rep X.K S' w (.int j) := y.res
    cases yr
    exact ⟨i, j, rfl, q'.1, k _ H' S' env' _ (z.t.trans y.t) (.range i j) q'.2⟩
  · exact q'.elim

/-! ### targets -/
abbrev DGM := D → En → (En → Prop) → Prop
def DG (X : Cx) (tg : Expr) (g : DGM) (t : TG) : Prop := PG X tg t ∧ ∀ (B : Bs) (S H : Hp) (env : En) (σ : St) (v : V) (d : D) (Q : En → Prop) (Qv : St → Hp → Prop), SR X.K B S H env σ → Rep X.K S v d → g d env Q →
  (∀ env' σ', SR X.K B S H env' σ' → Q env' → Qv σ' H) → t v σ H Qv
abbrev DGsM := List D → En → (En → Prop) → Prop
def DGs (X : Cx) (ts : List Expr) (g : DGsM) (t : TGs) : Prop := PGs X ts t ∧ ∀ (B : Bs) (S H : Hp) (env : En) (σ : St) (vs : List V) (ds : List D) (Q : En → Prop) (Qv : St → Hp → Prop), SR X.K B S H env σ → Reps X.K S vs ds → g ds env Q →
  (∀ env' σ', SR X.K B S H env' σ' → Q env' → Qv σ' H) → t vs σ H Qv
def dName (i : Nat) : DGM := fun d env Q => Q (env.set i (some (.val d)))
def dTNil : DGsM := fun ds env Q => match ds with
  | [] => Q env
  | _ => False
def dTCons (g : DGM) (h : DGsM) : DGsM := fun ds env Q => match ds with
  | d :: r => g d env fun env' => h r env' Q
  | [] => False
def dTg (n : Nat) (h : DGsM) : DGM := fun d env Q => match d with
  | .tup l => l.length = n ∧ h l env Q
  | _ => False
theorem dg_name {i : Nat} {x : Str} (hN : X.N.Nodup) (hi : X.N[i]? = some x) (hx : Loc X.env.scope x) (hf : X.fn x = true ∨ X.env.scope.names.lookup x = some .local := by first | exact .inl rfl | exact .inr rfl | assumption) : DG X (.Name x pos) (dName i) (gName i) :=
  ⟨pg_name hN hi hx hf, fun B S H env σ v d Q Qv s r q k => k _ _ (s.storeD r) q⟩
theorem dgs_nil : DGs X [] dTNil gNil := ⟨pgs_nil, fun B S H env σ vs ds Q Qv s r q k => by
  cases r with
  | nil => exact ⟨rfl, k env σ s q⟩
  | cons h r => exact q.elim⟩
theorem dgs_cons {e : Expr} {es : List Expr} {g : DGM} {h : DGsM} {tg1 : TG} {tg2 : TGs} (h1 : DG X e g tg1) (h2 : DGs X es h tg2) (hs : (assignEach (e :: es) X.env).map (·.2) = assign e X.env :: (assignEach es X.env).map (·.2) := by rfl) : DGs X (e :: es) (dTCons g h) (gCons tg1 tg2) := by
  obtain ⟨t1, t2⟩ := h1
  obtain ⟨u1, u2⟩ := h2
  refine ⟨pgs_cons t1 u1 hs, fun B S H env σ vs ds Q Qv s r q k => ?_⟩
  cases r with
  | nil => exact q.elim
  | cons r1 r2 => exact ⟨_, _, rfl, t2 B S H env σ _ _ _ _ s r1 q fun env' σ' s' q' => u2 B S H env' σ' _ _ _ _ s' r2 q' k⟩
theorem dg_tup {es : List Expr} {k : Nat} {h : DGsM} {n : Nat} (hc : X.calm = true) {tg2 : TGs} (hh : DGs X es h tg2) (hn : (assignEach es X.env).length = n := by rfl) (hst : (assignEach es X.env).findIdx? (·.1) = none := by rfl) : DG X (.Tuple es k pos) (dTg n h) (gTup X.K n tg2) := by
  obtain ⟨t1, t2⟩ := hh
  refine ⟨pg_tup hc t1 hn hst, fun B S H env σ v d Q Qv s r q k => ?_⟩
  unfold dTg at q
  split at q
  · rename_i l
    cases r with
    | tup h r => exact ⟨_, _, rfl, Evl.ex_t s.ex h, by rw [r.length]; exact q.1, t2 B S H env σ _ _ _ _ s r q.2 k⟩
  · exact q.elim
/-- targets = e -/
def dAsg (g : DGM) (m : DM) : DSM := fun E env => dKeep m env fun env' r => match r with
  | .val d => g d env' E.nx
  | _ => False
theorem ds_asg {g : DGM} {tg1 : TG} (ha : DE X a ma ta) (hg : DG X tg g tg1) (hs : swapsWithSole [tg] a pos.line X.env = pure false := by rfl) (hw : swappedStores [tg] a X.env = pure none := by rfl)
    (h1 : (assignEach [tg] X.env).map (·.2) = [assign tg X.env] := by rfl) : DS X (.Assign [tg] a pos) (dAsg g ma) (tAsg ta tg1) := by
  obtain ⟨t1, t2⟩ := de_keep ha
  obtain ⟨u1, u2⟩ := hg
  refine ⟨ps_asg t1 u1 hs hw h1, fun B S H env σ E D s q e => t2 B S H env σ _ _ s q fun v H' S' env' r z q' => ?_⟩
  split at q'
  · rename_i d
    exact u2 B S' H' env' σ v d _ _ z.sr z.res q' fun env2 σ2 s2 q2 => e.nx S' H' env2 σ2 s2 q2
  · exact q'.elim

/-! ### loops -/
def dLoop (g : DGM) (m : DSM) (E : DEn) : List D → En → Prop
  | [], env => E.nx env
  | d :: r, env => g d env fun env' => m { E with nx := dLoop g m E r, ct := dLoop g m E r, bk := E.nx } env'
def dFor (mi : DIM) (g : DGM) (m : DSM) : DSM := fun E env => mi env fun env' ds => dLoop g m E ds env'
theorem ds_for {iter : Expr} {body : List Stmt} {mi : DIM} {g : DGM} {m : DSM} {wi : TI} {tg1 : TG} (hp : PassesOwn (model X.prog X.w) X.A X.env X.xe) (hc : X.calm = true) (hi : DI X tg iter mi wi) (hg : DG X tg g tg1) (hb : DSs X body m tm)
    (hs : ∀ x, foldedSetIterable iter X.env x = pure x := by intro _; rfl) : DS X (.For tg iter body [] pos) (dFor mi g m) (tFor wi tg1 tm) := by
  obtain ⟨i1, i2⟩ := hi
  obtain ⟨g1, g2⟩ := hg
  obtain ⟨b1, b2⟩ := hb
  refine ⟨ps_for hp hc i1 g1 b1 hs, fun B S H env σ E D s q e => i2 B S H env σ _ _ s q fun J H1 S1 env1 ds z it q1 => ?_⟩
  have s1 := z.sr
  let B' : Bs := ⟨S1, B.H0, B.pa⟩
  have eb : EndOk X B' E D := e.base s1
  refine ⟨fun i m' σ' H' => m' = ds.length - i ∧ i ≤ ds.length ∧ ∃ S' env', SR X.K B' S' H' env' σ' ∧ dLoop g m E (ds.drop i) env', ⟨_, rfl, Nat.zero_le _, S1, env1, s1.base, q1⟩, ?_⟩
  rintro i m' σ' H' ⟨rfl, hi, S', env', s', l'⟩
  have ex1 : Ex S1 S' := s'.ex0
  by_cases c : i < ds.length
  · refine .inr ⟨it.go i c S' H' ex1 s'.ex, fun σ2 H2 => ∃ S2 env2, SR X.K B' S2 H2 env2 σ2 ∧ dLoop g m E (ds.drop (i + 1)) env2, fun σ2 H2 ⟨S2, env2, a1, a2⟩ => ⟨_, by omega, rfl, c, S2, env2, a1, a2⟩, fun x H2 y => ?_⟩
    have hd : ds[i]? = some ds[i] := List.getElem?_eq_getElem c
    obtain ⟨S2, n2, r2⟩ := it.yld i _ hd S' H' x H2 ex1 s'.ex y
    rw [List.drop_eq_getElem_cons c] at l'
    refine g2 B' S2 H2 env' σ' x _ _ _ (s'.nw n2) r2 l' fun env3 σ3 s3 q3 => ?_
    exact b2 B' S2 H2 env3 σ3 _ _ s3 q3 ⟨fun S4 H4 env4 σ4 s4 q4 => ⟨S4, env4, s4, q4⟩, eb.rt, fun S4 H4 env4 σ4 s4 q4 => eb.nx S4 H4 env4 σ4 s4 q4, fun S4 H4 env4 σ4 s4 q4 => ⟨S4, env4, s4, q4⟩, eb.xc⟩
  · have hi' : i = ds.length := by omega
    subst hi'
    rw [List.drop_length] at l'
    exact .inl ⟨it.stop S' H' ex1 s'.ex, eb.nx S' H' env' σ' s' l'⟩
def dWh (t : DTM) (m : DSM) (E : DEn) : Nat → En → Prop
  | 0, _ => False
  | n + 1, env => t env fun env1 b => dIte b (m { E with nx := dWh t m E n, ct := dWh t m E n, bk := E.nx } env1) (E.nx env1)
def dWhile (t : DTM) (m : DSM) : DSM := fun E env => ∃ n, dWh t m E n env
theorem ds_while {c : Expr} {body : List Stmt} {t : DTM} {m : DSM} (hp : PassesOwn (model X.prog X.w) X.A X.env X.xe) (hc : DT X c t tc) (hb : DSs X body m tm) : DS X (.While c body [] pos) (dWhile t m) (tWhile tc tm) := by
  obtain ⟨c1, c2⟩ := hc
  obtain ⟨b1, b2⟩ := hb
  refine ⟨ps_while hp c1 b1, fun B S H env σ E D s q e => ?_⟩
  obtain ⟨n, q⟩ := q
  refine ⟨fun n σ' H' => ∃ S' env', SR X.K B S' H' env' σ' ∧ dWh t m E n env', ⟨n, S, env, s, q⟩, ?_⟩
  rintro n σ' H' ⟨S', env', s', q'⟩
  cases n with
  | zero => exact q'.elim
  | succ n =>
    refine c2 B S' H' env' σ' _ _ s' q' fun b H1 S1 env1 z q1 => ?_
    cases b with
    | true =>
      rw [if_pos rfl]
      refine ⟨fun σ2 H2 => ∃ S2 env2, SR X.K B S2 H2 env2 σ2 ∧ dWh t m E n env2, fun σ2 H2 a => ⟨n, Nat.lt_succ_self n, a⟩, ?_⟩
      exact b2 B S1 H1 env1 σ' _ _ z.sr (dIte_t q1) ⟨fun S4 H4 env4 σ4 s4 q4 => ⟨S4, env4, s4, q4⟩, e.rt, fun S4 H4 env4 σ4 s4 q4 => e.nx S4 H4 env4 σ4 s4 q4, fun S4 H4 env4 σ4 s4 q4 => ⟨S4, env4, s4, q4⟩, e.xc⟩
    | false =>
      rw [if_neg Bool.false_ne_true]
      exact e.nx S1 H1 env1 σ' z.sr (dIte_f q1)
end
end DL
end

section
set_option Elab.async false
set_option linter.all false
set_option maxRecDepth 100000
set_option maxHeartbeats 4000000
namespace DL
open PySem L2
open Evl (Ex)

/-! ### comprehensions -/
def wipeD (env : En) : List Nat → En
  | [] => env
  | v :: vs => (wipeD env vs).set v none
/-- the names of a block take back what they held -/
def backD (env0 : En) (env : En) : List Nat → En
  | [] => env
  | v :: vs => (backD env0 env vs).set v (env0[v]?.getD none)
def plainAt (env : En) : List Nat → Bool
  | [] => true
  | v :: vs => (match env[v]? with
    | some (some (.val _)) => true
    | some none => true
    | _ => false) && plainAt env vs
def DTs (X : Cx) (es : List Expr) (m : DTM) (t : TT) : Prop := PTs X es t ∧ ∀ (B : Bs) (S H : Hp) (env : En) (σ : St) (Q : En → Bool → Prop) (Qv : Bool → Hp → Prop), SR X.K B S H env σ → m env Q →
  (∀ b H' S' env', TPo X.K B S H env σ S' H' env' → Q env' b → Qv b H') → t σ H Qv
def dYes : DTM := fun env Q => Q env true
theorem dts_nil {X : Cx} : DTs X [] dYes tYes := ⟨pts_nil, fun B S H env σ Q Qv s q k => k true H S env (.refl s) q⟩
theorem dts_one {X : Cx} {c : Expr} {m : DTM} {t : TT} (h : DT X c m t) : DTs X [c] m t := ⟨pts_one h.1, h.2⟩
def dLcT (t : DTM) (m : DM) (nxt : En → List D → Prop) (acc : List D) : En → Prop := fun env1 => t env1 fun env2 b => dIte b
      (dKeep m env2 fun env3 q => match q with
        | .val x => acc.length < sizeLine ∧ nxt env3 (acc ++ [x])
        | _ => False)
      (nxt env2 acc)
def dLcL (vs : List Nat) (g : DGM) (t : DTM) (m : DM) : List D → En → List D → (En → List D → Prop) → Prop
  | [], env, acc, Q => Q env acc
  | d :: r, env, acc, Q => g d env (dLcT t m (fun env acc => dLcL vs g t m r (wipeD env vs) acc Q) acc)
def dLc (mi : DIM) (vs : List Nat) (g : DGM) (t : DTM) (m : DM) : DM := fun env Q => mi env fun env1 ds => plainAt env1 vs = true ∧ dLcL vs g t m ds (wipeD env1 vs) [] fun env2 acc => Q (backD env1 env2 vs) (.own acc)
/-- a target stores into the block's own names alone -/
def TgIn (t : TG) (vs : List Nat) : Prop := ∀ (v : V) (σ : St) (H : Hp) (Q Q' : St → Hp → Prop), (∀ σ2 H2, wipe σ2 vs = wipe σ vs → Q σ2 H2 → Q' σ2 H2) → t v σ H Q → t v σ H Q'
def TgsIn (t : TGs) (vs : List Nat) : Prop := ∀ (us : List V) (σ : St) (H : Hp) (Q Q' : St → Hp → Prop), (∀ σ2 H2, wipe σ2 vs = wipe σ vs → Q σ2 H2 → Q' σ2 H2) → t us σ H Q → t us σ H Q'
theorem wipe_set {σ : St} {i : Nat} {x : Option V} : ∀ {vs : List Nat}, i ∈ vs → wipe (σ.set i x) vs = wipe σ vs
  | [], h => by cases h
  | v :: vs, h => by
    unfold wipe
    by_cases c : i ∈ vs
    · rw [wipe_set c]
    · have e : i = v := by
        rcases List.mem_cons.mp h with e | e
        · exact e
        · exact absurd e c
      subst e
      have gen : ∀ (ws : List Nat) (τ : St), (wipe (τ.set i x) ws).set i none = (wipe τ ws).set i none := by
        intro ws
        induction ws with
        | nil => intro τ; unfold wipe; rw [List.set_set]
        | cons w ws ih =>
          intro τ
          unfold wipe
          by_cases d : w = i
          · subst d
            rw [List.set_set, List.set_set]
            exact ih τ
          · rw [List.set_comm _ _ d, List.set_comm _ _ d, ih]
      exact gen vs σ
theorem tgin_name {i : Nat} {vs : List Nat} (h : i ∈ vs) : TgIn (gName i) vs := fun v σ H Q Q' k q => k _ _ (wipe_set h) q
theorem tgsin_nil {vs : List Nat} : TgsIn gNil vs := fun us σ H Q Q' k q => ⟨q.1, k _ _ rfl q.2⟩
theorem tgsin_cons {vs : List Nat} {t : TG} {u : TGs} (h : TgIn t vs) (k : TgsIn u vs) : TgsIn (gCons t u) vs := fun us σ H Q Q' w q => by
  obtain ⟨v, r, e, q⟩ := q
  exact ⟨v, r, e, h _ _ _ _ _ (fun σ2 H2 z q2 => k _ _ _ _ _ (fun σ3 H3 z3 q3 => w σ3 H3 (z3.trans z) q3) q2) q⟩
theorem tgin_tup {K : PySem.W.Frag} {n : Nat} {vs : List Nat} {u : TGs} (k : TgsIn u vs) : TgIn (gTup K n u) vs := fun v σ H Q Q' w q => by
  obtain ⟨a, xs, e, h, l, q⟩ := q
  exact ⟨a, xs, e, h, l, k _ _ _ _ _ w q⟩

section
variable {K : PySem.W.Frag} {B : Bs} {S H S' H' : Hp} {env env' : En} {σ σ' : St}
theorem SR.wipe (s : SR K B S H env σ) : ∀ vs : List Nat, SR K B S H (wipeD env vs) (L2.wipe σ vs)
  | [] => s
  | v :: vs => (SR.wipe s vs).drop
/-- more is known of the slots -/
theorem SR.more (s : SR K B S H env σ) (hl : σ'.length = σ.length) (h : ∀ i v, Slt σ i v → Slt σ' i v) : SR K B S H env σ' := by
  refine ⟨s.ex0, s.nw0, s.keep0, s.old0, s.len.trans hl.symm, s.ex, fun i d e => let ⟨v, h1, h2⟩ := s.val i d e; ⟨v, h i v h1, h2⟩,
    fun i l e => let ⟨p, vs, h1, h2⟩ := s.own i l e; ⟨p, vs, h _ _ h1, h2⟩, fun i j l m p h1 h2 h3 h4 => ?_, fun i e => let ⟨a, h1, h2⟩ := s.pl i e; ⟨a, h1, h _ _ h2⟩, s.pool, fun i p l e => let ⟨k1, k2⟩ := s.fix i p l e; ⟨h _ _ k1, k2⟩, fun i j p l m e1 e2 e3 => ?_, s.dff, s.pin⟩
  obtain ⟨p1, _, q1, _⟩ := s.own i l h1
  obtain ⟨p2, _, q2, _⟩ := s.own j m h2
  have e1 := Slt.ref h3 (h _ _ q1)
  have e2 := Slt.ref h4 (h _ _ q2)
  subst e1
  subst e2
  exact s.dis i j l m _ h1 h2 q1 q2
  obtain ⟨p1, _, q1, _⟩ := s.own j m e2
  have e4 := Slt.ref e3 (h _ _ q1)
  subst e4
  exact s.dfx i j _ l m e1 e2 q1
/-- a name that is not told is told a value again -/
theorem SR.tell {i : Nat} {n : Option Nv} (s : SR K B S H env σ) (h : ∀ m, n = some m → ∃ d v, m = .val d ∧ Slt σ i v ∧ Rep K S v d) : SR K B S H (env.set i n) σ := by
  have ow : ∀ j l, Has (env.set i n) j (.own l) → j ≠ i ∧ Has env j (.own l) := fun j l e => by
    by_cases c : j = i
    · subst c
      obtain ⟨d, v, e2, _⟩ := h _ (set_self e)
      cases e2
    · exact ⟨c, set_other e c⟩
  have fw : ∀ j p l, Has (env.set i n) j (.fix p l) → Has env j (.fix p l) := fun j p l e => by
    by_cases c : j = i
    · subst c
      obtain ⟨d, v, e2, _⟩ := h _ (set_self e)
      cases e2
    · exact set_other e c
  refine ⟨s.ex0, s.nw0, s.keep0, s.old0, by rw [List.length_set]; exact s.len, s.ex, fun j d e => ?_, fun j l e => s.own j l (ow j l e).2, fun j k l m p h1 h2 h3 h4 => s.dis j k l m p (ow _ _ h1).2 (ow _ _ h2).2 h3 h4, fun j e => ?_, s.pool, fun j p l e => s.fix j p l (fw j p l e), fun j k p l m e1 e2 e3 => s.dfx j k p l m (fw j p l e1) (ow k m e2).2 e3, fun j k p l m e1 e2 => s.dff j k p l m (fw j p l e1) (fw k p m e2), s.pin⟩
  · by_cases c : j = i
    · subst c
      obtain ⟨d', v, e2, h1, h2⟩ := h _ (set_self e)
      cases e2
      exact ⟨v, h1, h2⟩
    · exact s.val j d (set_other e c)
  · by_cases c : j = i
    · subst c
      obtain ⟨d', v, e2, _⟩ := h _ (set_self e)
      cases e2
    · exact s.pl j (set_other e c)
/-- an object that is nobody's is written -/
theorem SR.stray {p : Addr} {o : HO} (s : SR K B S H env σ) (h1 : S p = none) (h2 : B.H0 p = none) (h3 : ¬ Ow B env σ p) : SR K B S (upd H p o) env σ := by
  refine ⟨s.ex0, s.nw0, fun a u e c => ?_, fun a e => ?_, s.len, fun a u e => ?_, s.val, fun i l e => ?_, s.dis, s.pl, fun a e => ?_, fun i q l e => ?_, s.dfx, s.dff, fun a e => by rw [upd_ne (fun z => h3 (.inl (by rw [← z]; exact e)))]; exact s.pin a e⟩
  · rw [upd_ne (fun z => by rw [z, h2] at e; cases e)]
    exact s.keep0 a u e c
  · by_cases z : a = p
    · rw [z]; exact h2
    · rw [upd_ne z] at e
      exact s.old0 a e
  · rw [upd_ne (fun z => by rw [z, h1] at e; cases e)]
    exact s.ex a u e
  · obtain ⟨q, vs, q1, q2, q3, q4, q5⟩ := s.own i l e
    refine ⟨q, vs, q1, q2, q3, ?_, q5⟩
    rw [upd_ne (fun z => h3 (.inr (.inl ⟨i, l, e, by rw [← z]; exact q1⟩)))]
    exact q4
  · obtain ⟨⟨y, l', cells, pos, big, seed, cnt, bud, k1, k2, k3⟩, o⟩ := s.pool a e
    exact ⟨⟨y, l', cells, pos, big, seed, cnt, bud, (upd_ne (fun z => h3 (.inl (by rw [← z]; exact e)))).trans k1, k2, k3⟩, o⟩
  · obtain ⟨k1, k2, k3, ws, k4, k5⟩ := s.fix i q l e
    refine ⟨k1, k2, k3, ws, ?_, k5⟩
    rw [upd_ne (fun z => h3 (.inr (.inr ⟨i, l, by rw [← z]; exact e⟩)))]
    exact k4
theorem wipeD_length : ∀ vs : List Nat, (wipeD env vs).length = env.length
  | [] => rfl
  | v :: vs => by unfold wipeD; rw [List.length_set, wipeD_length vs]
theorem backD_length : ∀ vs : List Nat, (backD env env' vs).length = env'.length
  | [] => rfl
  | v :: vs => by unfold backD; rw [List.length_set, backD_length vs]
theorem wipeD_has {i : Nat} {n : Nv} : ∀ {vs : List Nat}, Has (wipeD env vs) i n → Has env i n ∧ i ∉ vs
  | [], h => ⟨h, by simp⟩
  | v :: vs, h => by
    have c : i ≠ v := fun c => by
      subst c
      exact nomatch set_self h
    obtain ⟨h1, h2⟩ := wipeD_has (set_other h c)
    exact ⟨h1, fun z => by
      rcases List.mem_cons.mp z with z | z
      · exact c z
      · exact h2 z⟩
theorem wipeD_out {i : Nat} : ∀ {vs : List Nat}, i ∉ vs → (wipeD env vs)[i]? = env[i]?
  | [], _ => rfl
  | v :: vs, h => by
    unfold wipeD
    rw [List.getElem?_set_ne (fun e => h (by rw [e]; exact List.mem_cons_self))]
    exact wipeD_out fun z => h (List.mem_cons_of_mem _ z)
theorem backD_out {i : Nat} : ∀ {vs : List Nat}, i ∉ vs → (backD env env' vs)[i]? = env'[i]?
  | [], _ => rfl
  | v :: vs, h => by
    unfold backD
    rw [List.getElem?_set_ne (fun e => h (by rw [e]; exact List.mem_cons_self))]
    exact backD_out fun z => h (List.mem_cons_of_mem _ z)
theorem backD_in {i : Nat} (hl : env'.length = env.length) : ∀ {vs : List Nat}, i ∈ vs → (backD env env' vs)[i]? = env[i]?
  | [], h => by cases h
  | v :: vs, h => by
    unfold backD
    by_cases c : i = v
    · subst c
      by_cases d : i < env.length
      · rw [List.getElem?_set_self (by rw [backD_length, hl]; exact d), List.getElem?_eq_getElem d]
        rfl
      · rw [List.getElem?_eq_none (by rw [List.length_set, backD_length, hl]; omega), List.getElem?_eq_none (by omega)]
    · rw [List.getElem?_set_ne (Ne.symm c)]
      exact backD_in hl ((List.mem_cons.mp h).resolve_left c)
theorem plainAt_mem {i : Nat} : ∀ {vs : List Nat}, plainAt env vs = true → i ∈ vs → (∃ d, env[i]? = some (some (.val d))) ∨ env[i]? = some none
  | [], _, h => by cases h
  | v :: vs, p, h => by
    unfold plainAt at p
    rw [Bool.and_eq_true] at p
    by_cases c : i = v
    · subst c
      have p1 := p.1
      split at p1
      · rename_i d e
        exact .inl ⟨d, e⟩
      · rename_i e
        exact .inr e
      · cases p1
    · exact plainAt_mem p.2 ((List.mem_cons.mp h).resolve_left c)
theorem SR.back {env1 : En} {S1 H1 : Hp} (s1 : SR K B S1 H1 env1 σ) (s : SR K B S H env σ) (e : Ex S1 S) (hl : env.length = env1.length) : ∀ vs : List Nat, plainAt env1 vs = true → SR K B S H (backD env1 env vs) σ
  | [], _ => s
  | v :: vs, p => by
    have p' := p
    unfold plainAt at p
    rw [Bool.and_eq_true] at p
    unfold backD
    refine SR.tell (SR.back s1 s e hl vs p.2) fun m hm => ?_
    rcases plainAt_mem p' (List.mem_cons_self (a := v) (l := vs)) with ⟨d, q⟩ | q
    · rw [q] at hm
      cases hm
      obtain ⟨w, h1, h2⟩ := s1.val v d q
      exact ⟨d, w, rfl, h1, h2.mono e⟩
    · rw [q] at hm
      cases hm
/-- ownership shrinks when names are wiped -/
theorem Ow.wipe {a : Addr} {vs : List Nat} (h : Ow B (wipeD env vs) (L2.wipe σ vs) a) : Ow B env σ a := by
  rcases h with h | ⟨i, l, h1, h2⟩ | ⟨i, l, h1⟩
  · exact .inl h
  · exact .inr (.inl ⟨i, l, (wipeD_has h1).1, (wipe_some h2).1⟩)
  · exact .inr (.inr ⟨i, l, (wipeD_has h1).1⟩)
end
/-- what stays of the names through a block: each as it was, or come to stand still, or a name of the block -/
def Fz (vs : List Nat) (env env' : En) : Prop := env'.length = env.length ∧ ∀ i : Nat, i ∉ vs → env'[i]? = env[i]? ∨ ∃ l, Has env i (.own l) ∧ Has env' i (.val (.lst l))
theorem Fz.trans {vs : List Nat} {a b c : En} (h : Fz vs a b) (k : Frz b c) : Fz vs a c := ⟨k.1.trans h.1, fun i hi => by
  rcases h.2 i hi with e | ⟨l, e1, e2⟩
  · rcases k.2 i with q | ⟨l, q1, q2⟩
    · exact .inl (q.trans e)
    · exact .inr ⟨l, e.symm.trans q1, q2⟩
  · rcases k.2 i with q | ⟨m, q1, q2⟩
    · exact .inr ⟨l, e1, q.trans e2⟩
    · exact nomatch Has.inj e2 q1⟩
theorem Fz.wipe {vs : List Nat} {a b : En} (h : Fz vs a b) : Fz vs a (wipeD b vs) := ⟨(wipeD_length vs).trans h.1, fun i hi => by
  rcases h.2 i hi with e | ⟨l, e1, e2⟩
  · exact .inl ((wipeD_out hi).trans e)
  · exact .inr ⟨l, e1, (wipeD_out hi).trans e2⟩⟩
theorem Fz.back {vs : List Nat} {a b : En} (h : Fz vs a b) : Frz a (backD a b vs) := ⟨(backD_length vs).trans h.1, fun i => by
  by_cases c : i ∈ vs
  · exact .inl (backD_in h.1 c)
  · rcases h.2 i c with e | ⟨l, e1, e2⟩
    · exact .inl ((backD_out c).trans e)
    · exact .inr ⟨l, e1, (backD_out c).trans e2⟩⟩
/-- the target's names are the block's -/
structure GFact (vs : List Nat) (env env' : En) : Prop where
  len : env'.length = env.length
  out : ∀ i : Nat, i ∉ vs → env'[i]? = env[i]?
  own : ∀ i l, Has env' i (.own l) → Has env i (.own l)
  fix : ∀ i p l, Has env' i (.fix p l) → Has env i (.fix p l)
def GIn (g : DGM) (vs : List Nat) : Prop := ∀ d env (Q Q' : En → Prop), (∀ env', GFact vs env env' → Q env' → Q' env') → g d env Q → g d env Q'
def GsIn (g : DGsM) (vs : List Nat) : Prop := ∀ d env (Q Q' : En → Prop), (∀ env', GFact vs env env' → Q env' → Q' env') → g d env Q → g d env Q'
theorem GFact.refl (vs : List Nat) (env : En) : GFact vs env env := ⟨rfl, fun _ _ => rfl, fun _ _ h => h, fun _ _ _ h => h⟩
theorem GFact.trans {vs : List Nat} {a b c : En} (h : GFact vs a b) (k : GFact vs b c) : GFact vs a c := ⟨k.len.trans h.len, fun i hi => (k.out i hi).trans (h.out i hi), fun i l e => h.own i l (k.own i l e), fun i p l e => h.fix i p l (k.fix i p l e)⟩
theorem gin_name {i : Nat} {vs : List Nat} (h : i ∈ vs) : GIn (dName i) vs := fun d env Q Q' k q => k _ ⟨List.length_set, fun j hj => List.getElem?_set_ne (fun e => hj (by rw [← e]; exact h)), fun j l e => by
  by_cases c : j = i
  · subst c
    exact nomatch set_self e
  · exact set_other e c, fun j p l e => by
  by_cases c : j = i
  · subst c
    exact nomatch set_self e
  · exact set_other e c⟩ q
theorem gsin_nil {vs : List Nat} : GsIn dTNil vs := fun ds env Q Q' k q => by
  unfold dTNil at q ⊢
  split at q
  · exact k _ (.refl _ _) q
  · exact q.elim
theorem gsin_cons {vs : List Nat} {g : DGM} {h : DGsM} (hi : GIn g vs) (k : GsIn h vs) : GsIn (dTCons g h) vs := fun ds env Q Q' w q => by
  cases ds with
  | nil => exact q.elim
  | cons d r => exact hi d env _ _ (fun env1 f1 q1 => k r env1 _ _ (fun env2 f2 q2 => w env2 (f1.trans f2) q2) q1) q
theorem gin_tup {vs : List Nat} {n : Nat} {h : DGsM} (k : GsIn h vs) : GIn (dTg n h) vs := fun d env Q Q' w q => by
  unfold dTg at q ⊢
  split at q
  · exact ⟨q.1, k _ env _ _ w q.2⟩
  · exact q.elim
theorem wipe_out {σ : St} {i : Nat} : ∀ {vs : List Nat}, i ∉ vs → (wipe σ vs)[i]? = σ[i]?
  | [], _ => rfl
  | v :: vs, h => by
    unfold wipe
    rw [List.getElem?_set_ne (fun e => h (by rw [e]; exact List.mem_cons_self))]
    exact wipe_out fun z => h (List.mem_cons_of_mem _ z)
theorem Go.stray {A : Addr → Prop} {S H S' H' : Hp} {p : Addr} {o : HO} (g : Go A S H S' H') (h : H p = none) : Go A S H S' (upd H' p o) :=
  ⟨g.ex, fun a u e n => by rw [upd_ne (ne_of_none e h)]; exact g.keep a u e n, g.nw, fun a e => by
    by_cases z : a = p
    · rw [z]; exact h
    · rw [upd_ne z] at e
      exact g.old a e⟩
section
variable {X : Cx}
/-- the state within a block -/
structure LcI (K : PySem.W.Frag) (B : Bs) (S1 H1 : Hp) (env1 : En) (σ : St) (vs : List Nat) (D : Addr) (S H : Hp) (env : En) (acc : List DL.D) : Prop where
  sr : SR K ⟨S1, B.H0, B.pa⟩ S H env (wipe σ vs)
  go : Go (Ow B env1 σ) S1 H1 S H
  fz : Fz vs env1 env
  wp : ∀ i n, Has env i n → i ∉ vs
  dn : S D = none
  dh : ∃ ws, H D = some (.lst ws) ∧ Reps K S ws acc
theorem de_lc {elt tg iter : Expr} {ifs : List Expr} {scope : Scope} (own : List (Str × Nat)) {pos : Pos} {mi : DIM} {wi : TI} {g : DGM} {tg1 : Shared → Hp → Addr → List (Str × Addr) → List Addr → TG} {t : DTM} {tt : Shared → Hp → Addr → List (Str × Addr) → List Addr → TT} {m : DM} {te : Shared → Hp → Addr → List (Str × Addr) → List Addr → TE} (hc : X.calm = true) (hN : X.N.Nodup) (hi : DI X tg iter mi wi) (ok : BlkOk X.N X.env.scope scope own)
    (hg : ∀ (s : Shared) (H : Hp) (C : Addr) (cl : List (Str × Addr)) (fp : List Addr), DG (X.blk s H scope (compEnvC scope cl C X.env) fp) tg g (tg1 s H C cl fp)) (ht : ∀ (s : Shared) (H : Hp) (C : Addr) (cl : List (Str × Addr)) (fp : List Addr), DTs (X.blk s H scope (compEnvC scope cl C X.env) fp) ifs t (tt s H C cl fp))
    (he : ∀ (s : Shared) (H : Hp) (C : Addr) (cl : List (Str × Addr)) (fp : List Addr), DE (X.blk s H scope (compEnvC scope cl C X.env) fp) elt m (te s H C cl fp)) (i1 : TgIn (tg1 X.s_0 X.H_0 0 [] []) (own.map (·.2))) (i2 : GIn g (own.map (·.2)))
    (e1 : ∀ s H C cl fp, tg1 s H C cl fp = tg1 X.s_0 X.H_0 0 [] [] := by intros; rfl) (e2 : ∀ s H C cl fp, tt s H C cl fp = tt X.s_0 X.H_0 0 [] [] := by intros; rfl) (e3 : ∀ s H C cl fp, te s H C cl fp = te X.s_0 X.H_0 0 [] [] := by intros; rfl) (hs : ∀ x, foldedSetIterable iter X.env x = pure x := by intro _; rfl) :
    DE X (.ListComp elt [⟨tg, iter, ifs, 0⟩] scope pos) (dLc mi (own.map (·.2)) g t m) (tLc wi (tg1 X.s_0 X.H_0 0 [] []) (tt X.s_0 X.H_0 0 [] []) (te X.s_0 X.H_0 0 [] []) (own.map (·.2))) := by
  have hg : ∀ (s : Shared) (H : Hp) (C : Addr) (cl : List (Str × Addr)) (fp : List Addr), DG (X.blk s H scope (compEnvC scope cl C X.env) fp) tg g (tg1 X.s_0 X.H_0 0 [] []) := fun s H C cl fp => e1 s H C cl fp ▸ hg s H C cl fp
  have ht : ∀ (s : Shared) (H : Hp) (C : Addr) (cl : List (Str × Addr)) (fp : List Addr), DTs (X.blk s H scope (compEnvC scope cl C X.env) fp) ifs t (tt X.s_0 X.H_0 0 [] []) := fun s H C cl fp => e2 s H C cl fp ▸ ht s H C cl fp
  have he : ∀ (s : Shared) (H : Hp) (C : Addr) (cl : List (Str × Addr)) (fp : List Addr), DE (X.blk s H scope (compEnvC scope cl C X.env) fp) elt m (te X.s_0 X.H_0 0 [] []) := fun s H C cl fp => e3 s H C cl fp ▸ he s H C cl fp
  clear e1 e2 e3
  generalize tg1 X.s_0 X.H_0 0 [] [] = tg1 at *
  generalize tt X.s_0 X.H_0 0 [] [] = tt at *
  generalize te X.s_0 X.H_0 0 [] [] = te at *
  have g2 := (hg X.s_0 X.H_0 0 [] []).2
  have t2 := (ht X.s_0 X.H_0 0 [] []).2
  have e2 := (de_keep (he X.s_0 X.H_0 0 [] [])).2
  refine ⟨pe_lc hc hN hi.1 ok (fun s H C cl fp => (hg s H C cl fp).1) (fun s H C cl fp => (ht s H C cl fp).1) (fun s H C cl fp => (he s H C cl fp).1) hs, ?_⟩
  clear hg ht he
  generalize own.map (·.2) = vs at *
  intro B S H env σ Q Qv s q k
  refine hi.2 B S H env σ _ _ s q fun J H1 S1 env1 ds z it q1 => ?_
  obtain ⟨pl, q1⟩ := q1
  have s1 := z.sr
  intro D hD
  have hD0 := s1.hp0 hD
  have hDn := s1.now hD
  have hDs := s1.sp0 hD
  have hD1 : Has env1 0 .pool → True := fun _ => trivial
  -- the names that own in a block's state own ahead of it
  have sub : ∀ {S' H' : Hp} {env' : En} {acc : List DL.D}, LcI X.K B S1 H1 env1 σ vs D S' H' env' acc → ∀ a, Ow ⟨S1, B.H0, B.pa⟩ env' (wipe σ vs) a → Ow B env1 σ a := fun {S' H' env' acc} I a h => by
    rcases h with h | ⟨i, l, h1, h2⟩ | ⟨i, l, h1⟩
    · exact .inl h
    · have hi := I.wp i _ h1
      rcases I.fz.2 i hi with e | ⟨l', e1, e2⟩
      · exact .inr (.inl ⟨i, l, e.symm.trans h1, (wipe_some h2).1⟩)
      · exact nomatch Has.inj h1 e2
    · have hi := I.wp i _ h1
      rcases I.fz.2 i hi with e | ⟨l', e1, e2⟩
      · exact .inr (.inr ⟨i, l, e.symm.trans h1⟩)
      · exact nomatch Has.inj h1 e2
  refine ⟨fun i m' H' => m' = ds.length - i ∧ i ≤ ds.length ∧ ∃ S' env' acc, LcI X.K B S1 H1 env1 σ vs D S' H' env' acc ∧ dLcL vs g t m (ds.drop i) env' acc fun env2 acc => Q (backD env1 env2 vs) (.own acc), ⟨_, rfl, Nat.zero_le _, S1, wipeD env1 vs, [], ⟨?_, Go.stray .refl hD, ⟨wipeD_length vs, fun i hi => .inl (wipeD_out hi)⟩, fun i n h => (wipeD_has h).2, hDs, [], upd_same, .nil⟩, q1⟩, ?_⟩
  · exact (s1.base.stray hDs hD0 hDn).wipe vs
  rintro i m' H' ⟨rfl, hil, S', env', acc, I, l⟩
  have ex1 : Ex S1 S' := I.sr.ex0
  by_cases c : i < ds.length
  · refine .inr ⟨it.go i c S' H' ex1 I.sr.ex, fun H2 => ∃ S2 env2 acc2, LcI X.K B S1 H1 env1 σ vs D S2 H2 env2 acc2 ∧ dLcL vs g t m (ds.drop (i + 1)) env2 acc2 fun env2 acc => Q (backD env1 env2 vs) (.own acc), fun H2 ⟨S2, env2, acc2, a1, a2⟩ => ⟨_, by omega, rfl, c, S2, env2, acc2, a1, a2⟩, fun x H2 y => ?_⟩
    have hd : ds[i]? = some ds[i] := List.getElem?_eq_getElem c
    obtain ⟨S2, n2, r2⟩ := it.yld i _ hd S' H' x H2 ex1 I.sr.ex y
    rw [List.drop_eq_getElem_cons c] at l
    refine i1 _ _ _ _ _ (fun σ3 H3 w3 h3 => ?_) (g2 ⟨S1, B.H0, B.pa⟩ S2 H2 env' (wipe σ vs) x _ _ (fun σ3 H3 => H3 = H2 ∧ ∃ env3, SR X.K ⟨S1, B.H0, B.pa⟩ S2 H2 env3 σ3 ∧ GFact vs env' env3 ∧ dLcT t m (fun env acc => dLcL vs g t m (ds.drop (i + 1)) (wipeD env vs) acc fun env2 acc => Q (backD env1 env2 vs) (.own acc)) acc env3) (I.sr.nw n2) r2 (i2 _ _ _ (fun env3 => GFact vs env' env3 ∧ dLcT t m (fun env acc => dLcL vs g t m (ds.drop (i + 1)) (wipeD env vs) acc fun env2 acc => Q (backD env1 env2 vs) (.own acc)) acc env3) (fun _ f q => ⟨f, q⟩) l) fun env3 σ3 s3 q3 => ⟨rfl, env3, s3, q3.1, q3.2⟩)
    obtain ⟨rfl, env3, s3, ⟨f1, f2, f3, f4⟩, q3⟩ := h3
    have w3 : wipe σ3 vs = wipe σ vs := w3.trans (by
      have : ∀ us : List Nat, (∀ i ∈ us, i ∈ vs) → wipe (wipe σ vs) us = wipe σ vs := by
        intro us
        induction us with
        | nil => intro _; rfl
        | cons u us ih =>
          intro h
          show (wipe (wipe σ vs) us).set u none = wipe σ vs
          rw [ih fun i hi => h i (List.mem_cons_of_mem _ hi)]
          refine List.ext_getElem? fun j => ?_
          by_cases cj : j = u
          · subst cj
            by_cases cl : j < (wipe σ vs).length
            · rw [List.getElem?_set_self cl, List.getElem?_eq_getElem cl]
              cases q : (wipe σ vs)[j] with
              | none => rfl
              | some v =>
                have q' : (wipe σ vs)[j]? = some (some v) := by rw [List.getElem?_eq_getElem cl, q]
                exact absurd (h j List.mem_cons_self) (wipe_some q').2
            · rw [List.getElem?_eq_none (by rw [List.length_set]; omega), List.getElem?_eq_none (by omega)]
          · rw [List.getElem?_set_ne (Ne.symm cj)]
      exact this vs fun i h => h)
    have sub3 : ∀ a, Ow ⟨S1, B.H0, B.pa⟩ env3 σ3 a → Ow B env1 σ a := fun a h => by
      rcases h with h | ⟨j, l', h1, h2⟩ | ⟨j, l', h1⟩
      · exact .inl h
      rotate_left
      · exact sub I a (.inr (.inr ⟨j, l', f4 j a l' h1⟩))
      · have h1' := f3 j l' h1
        have hj := I.wp j _ h1'
        refine sub I a (.inr (.inl ⟨j, l', h1', ?_⟩))
        show (wipe σ vs)[j]? = _
        rw [← w3, wipe_out hj]
        exact h2
    have go3 : Go (Ow B env1 σ) S1 H1 S2 H3 := I.go.trans (A' := fun _ => False) n2.go fun _ _ _ _ h => h
    have dh3 : ∃ ws, H3 D = some (.lst ws) ∧ Reps X.K S2 ws acc := let ⟨ws, w1, w2⟩ := I.dh; ⟨ws, n2.keep _ _ w1, w2.mono n2.ex⟩
    have dn3 : S2 D = none := let ⟨ws, w1, w2⟩ := I.dh; n2.nw _ _ w1 I.dn
    have fz3 : Fz vs env1 env3 := ⟨f1.trans I.fz.1, fun i hi => by
      rcases I.fz.2 i hi with e | ⟨l, e1, e2⟩
      · exact .inl ((f2 i hi).trans e)
      · exact .inr ⟨l, e1, (f2 i hi).trans e2⟩⟩
    have nd3 : ¬ Ow ⟨S1, B.H0, B.pa⟩ env3 σ3 D := fun h => hDn (sub3 D h)
    refine ⟨w3, ?_⟩
    refine t2 ⟨S1, B.H0, B.pa⟩ S2 H3 env3 σ3 _ _ s3 q3 fun b H4 S4 env4 z4 q4 => ?_
    have sub4 : ∀ a, Ow ⟨S1, B.H0, B.pa⟩ env4 σ3 a → Ow B env1 σ a := fun a h => sub3 a (Ow.frz z4.fz h)
    have go4 : Go (Ow B env1 σ) S1 H1 S4 H4 := go3.trans z4.go fun x o _ n w => n (sub3 x w)
    have dh4 : ∃ ws, H4 D = some (.lst ws) ∧ Reps X.K S4 ws acc := let ⟨ws, w1, w2⟩ := dh3; ⟨ws, z4.go.keep _ _ w1 nd3, w2.mono z4.go.ex⟩
    have dn4 : S4 D = none := let ⟨ws, w1, w2⟩ := dh3; z4.go.nw _ _ w1 nd3 dn3
    have fz4 : Fz vs env1 env4 := fz3.trans z4.fz
    cases b with
    | true =>
      rw [if_pos rfl]
      have q4 := dIte_t q4
      refine e2 ⟨S1, B.H0, B.pa⟩ S4 H4 env4 σ3 _ _ z4.sr q4 fun v H5 S5 env5 r z5 q5 => ?_
      split at q5
      · rename_i d5
        have nd4 : ¬ Ow ⟨S1, B.H0, B.pa⟩ env4 σ3 D := fun h => hDn (sub4 D h)
        obtain ⟨ws, w1, w2⟩ := dh4
        have w1' := z5.go.keep _ _ w1 nd4
        have dn5 := z5.go.nw _ _ w1 nd4 dn4
        refine ⟨ws, w1', by rw [w2.length]; exact q5.1, S5, wipeD env5 vs, acc ++ [d5], ⟨?_, ?_, (fz4.trans z5.fz).wipe, fun i n h => (wipeD_has h).2, dn5, _, upd_same, (w2.mono z5.go.ex).append (.cons z5.res .nil)⟩, q5.2⟩
        · have := (z5.sr.stray (p := D) (o := .lst (ws ++ [v])) dn5 hD0 fun h => nd4 (Ow.frz z5.fz h)).wipe vs
          rw [w3] at this
          exact this
        · exact (go4.trans z5.go fun x o _ n w => n (sub4 x w)).stray hD
      · exact q5.elim
    | false =>
      rw [if_neg Bool.false_ne_true]
      refine ⟨S4, wipeD env4 vs, acc, ⟨?_, go4, fz4.wipe, fun i n h => (wipeD_has h).2, dn4, dh4⟩, dIte_f q4⟩
      have := z4.sr.wipe vs
      rw [w3] at this
      exact this
  · have hi' : i = ds.length := by omega
    subst hi'
    rw [List.drop_length] at l
    refine .inl ⟨it.stop S' H' ex1 I.sr.ex, ?_⟩
    obtain ⟨ws, w1, w2⟩ := I.dh
    have sf := (s1.unbase I.sr).more (σ' := σ) (wipe_length σ vs).symm (fun i v h => (wipe_some h).1)
    refine k _ H' S' _ (.own acc) ⟨SR.back s1 sf ex1 I.fz.1 vs pl, z.go.trans I.go fun x o _ n w => n (Ow.frz z.fz w), z.fz.trans I.fz.back, D, ws, rfl, I.dn, hD0, z.go.old D hD, fun w => hDn (Ow.frz I.fz.back w), w1, w2⟩ l
end
end DL
end

section
set_option Elab.async false
set_option linter.all false
set_option maxRecDepth 100000
set_option maxHeartbeats 4000000
namespace DL
open PySem PySem.Spec PyProof.Rows L2
open Evl (Ex)

/-! ### defs -/
/-- the arguments: values, the pool -/
inductive ArgR (K : PySem.W.Frag) (S : Hp) (pa : Option Addr) : List V → List R → Prop
  | nil : ArgR K S pa [] []
  | val {v : V} {d : D} {vs : List V} {rs : List R} : Rep K S v d → ArgR K S pa vs rs → ArgR K S pa (v :: vs) (.val d :: rs)
  | pool {a : Addr} {vs : List V} {rs : List R} : pa = some a → ArgR K S pa vs rs → ArgR K S pa (.ref a :: vs) (.pool :: rs)
structure DRet (K : PySem.W.Frag) (S H : Hp) (pa : Option Addr) (S' H' : Hp) (r : R) (v : V) : Prop where
  ex : Ex S S'
  sh : Ex S' H'
  keep : ∀ a o, H a = some o → pa ≠ some a → H' a = some o
  nw : ∀ a o, H a = some o → S a = none → S' a = none
  old : ∀ a, H' a = none → H a = none
  pool : ∀ a, pa = some a → PoolAt S' H' a
  pin : ∀ a, pa = some a → headO (H' a) = headO (H a)
  ret : RetR K ⟨S, H, pa⟩ S' H' r v
abbrev FM := List R → (R → Prop) → Prop
def spF (K : PySem.W.Frag) (n : Nat) (F : FM) : Sp := fun vs H Q _ => ∃ (S : Hp) (pa : Option Addr) (rs : List R) (Qd : R → Prop), Ex S H ∧ (∀ a, pa = some a → PoolAt S H a) ∧ ArgR K S pa vs rs ∧ vs.length = n ∧ F rs Qd ∧
  ∀ v H' S' r, DRet K S H pa S' H' r v → Qd r → Q v H'
def startD (n : Nat) (rs : List R) : En := rs.map R.nv ++ List.replicate (n - rs.length) none
/-- what a body makes of the arguments -/
def bodyF (n : Nat) (m : DSM) : FM := fun rs Qd => m { nx := fun _ => Qd (.val .non), rt := fun _ r => Qd r } (startD n rs)
theorem spF.imp {K : PySem.W.Frag} {n : Nat} {F F' : FM} (h : ∀ rs Q, F' rs Q → F rs Q) : ∀ vs H Q E, spF K n F' vs H Q E → spF K n F vs H Q E :=
  fun vs H Q E ⟨S, pa, rs, Qd, h1, h2, h3, h4, h5, h6⟩ => ⟨S, pa, rs, Qd, h1, h2, h3, h4, h _ _ h5, h6⟩
section
variable {K : PySem.W.Frag} {S H : Hp} {pa : Option Addr}
theorem ArgR.length : ∀ {vs : List V} {rs : List R}, ArgR K S pa vs rs → vs.length = rs.length
  | _, _, .nil => rfl
  | _, _, .val _ r => by rw [List.length_cons, List.length_cons, ArgR.length r]
  | _, _, .pool _ r => by rw [List.length_cons, List.length_cons, ArgR.length r]
theorem ArgR.get : ∀ {vs : List V} {rs : List R} {i : Nat} {n : Nv}, ArgR K S pa vs rs → (rs.map R.nv)[i]? = some (some n) → ∃ v, vs[i]? = some v ∧ ((∃ d, n = .val d ∧ Rep K S v d) ∨ (n = .pool ∧ ∃ a, pa = some a ∧ v = .ref a))
  | _, _, _, _, .nil, e => by simp at e
  | _, _, 0, n, .val h _, e => by
    have e' : n = .val _ := (Option.some.inj (Option.some.inj e)).symm
    exact ⟨_, rfl, .inl ⟨_, e', h⟩⟩
  | _, _, 0, n, .pool h _, e => by
    have e' : n = .pool := (Option.some.inj (Option.some.inj e)).symm
    exact ⟨_, rfl, .inr ⟨e', _, h, rfl⟩⟩
  | _, _, i + 1, n, .val _ r, e => by
    obtain ⟨v, h1, h2⟩ := ArgR.get (i := i) (n := n) r (by simpa using e)
    exact ⟨v, by simpa using h1, h2⟩
  | _, _, i + 1, n, .pool _ r, e => by
    obtain ⟨v, h1, h2⟩ := ArgR.get (i := i) (n := n) r (by simpa using e)
    exact ⟨v, by simpa using h1, h2⟩
theorem SR.entry {vs : List V} {rs : List R} {N : List Str} (h1 : Ex S H) (h2 : ∀ a, pa = some a → PoolAt S H a) (h3 : ArgR K S pa vs rs) : SR K ⟨S, H, pa⟩ S H (startD N.length rs) (L2.start N vs) := by
  have hl := h3.length
  have get : ∀ i n, Has (startD N.length rs) i n → (rs.map R.nv)[i]? = some (some n) := fun i n h => by
    unfold startD at h
    by_cases c : i < (rs.map R.nv).length
    · have h' : (rs.map R.nv ++ List.replicate (N.length - rs.length) none)[i]? = some (some n) := h
      rw [List.getElem?_append_left c] at h'
      exact h'
    · have h' : (rs.map R.nv ++ List.replicate (N.length - rs.length) none)[i]? = some (some n) := h
      rw [List.getElem?_append_right (by omega)] at h'
      have := List.mem_of_getElem? h'
      rw [List.mem_replicate] at this
      cases this.2
  have slt : ∀ i v, vs[i]? = some v → Slt (L2.start N vs) i v := fun i v h => by
    unfold L2.start
    have c : i < (vs.map some).length := by
      rw [List.length_map]
      exact (List.getElem?_eq_some_iff.mp h).1
    show (vs.map some ++ List.replicate (N.length - vs.length) none)[i]? = some (some v)
    rw [List.getElem?_append_left c, List.getElem?_map, h]
    rfl
  refine ⟨Ex.refl _, fun _ _ _ h => h, fun _ _ h _ => h, fun _ h => h, ?_, h1, fun i d h => ?_, fun i l h => ?_, fun i j l m p h => ?_, fun i h => ?_, fun a h => ⟨h2 a h, ?_⟩, fun i q l h => ?_, fun i j q l m h _ _ => ?_, fun i j q l m h _ => ?_, fun _ _ => rfl⟩
  · unfold startD L2.start
    simp only [List.length_append, List.length_map, List.length_replicate]
    omega
  · obtain ⟨v, q1, ⟨d', e, q2⟩ | ⟨e, _⟩⟩ := h3.get (get i _ h)
    · cases e
      exact ⟨v, slt i v q1, q2⟩
    · cases e
  · obtain ⟨v, q1, ⟨d', e, q2⟩ | ⟨e, _⟩⟩ := h3.get (get i _ h)
    · cases e
    · cases e
  · obtain ⟨v, q1, ⟨d', e, q2⟩ | ⟨e, _⟩⟩ := h3.get (get i _ h)
    · cases e
    · cases e
  · obtain ⟨v, q1, ⟨d', e, q2⟩ | ⟨e, a, q2, q3⟩⟩ := h3.get (get i _ h)
    · cases e
    · subst q3
      exact ⟨a, q2, slt i _ q1⟩
  · obtain ⟨_, l, cells, pos, big, seed, cnt, bud, k1, _⟩ := h2 a h
    exact ⟨_, k1⟩
  all_goals
    obtain ⟨v, q1, ⟨d', e, q2⟩ | ⟨e, _⟩⟩ := h3.get (get i _ h)
    · cases e
    · cases e
theorem SR.ret {B : Bs} {S' H' : Hp} {env : En} {σ : L2.St} {r : R} {v : V} (s : SR K B S H env σ) (d : DRet K S H B.pa S' H' r v) : SR K B S' H' env σ where
  ex0 := s.ex0.trans d.ex
  nw0 := fun a o h e => by
    by_cases c : B.pa = some a
    · exact (d.pool a c).1
    · exact d.nw a o (s.keep0 a o h c) (s.nw0 a o h e)
  keep0 := fun a o h c => d.keep a o (s.keep0 a o h c) c
  old0 := fun a h => s.old0 a (d.old a h)
  len := s.len
  ex := d.sh
  val := fun i d' h => let ⟨v, h1, h2⟩ := s.val i d' h; ⟨v, h1, h2.mono d.ex⟩
  own := fun i l h => by
    obtain ⟨p, vs, h1, h2, h3, h4, h5⟩ := s.own i l h
    have np : B.pa ≠ some p := fun e => by
      obtain ⟨_, o, q⟩ := s.pool p e
      rw [h3] at q
      cases q
    exact ⟨p, vs, h1, d.nw _ _ h4 h2, h3, d.keep _ _ h4 np, h5.mono d.ex⟩
  dis := s.dis
  fix := fun i q l h => by
    obtain ⟨k1, k2, k3, vs, k4, k5⟩ := s.fix i q l h
    have np : B.pa ≠ some q := fun e => by
      obtain ⟨_, o, z⟩ := s.pool q e
      rw [k3] at z
      cases z
    exact ⟨k1, d.nw _ _ k4 k2, k3, vs, d.keep _ _ k4 np, k5.mono d.ex⟩
  dfx := s.dfx
  dff := s.dff
  pin := fun a e => (d.pin a e).trans (s.pin a e)
  pl := s.pl
  pool := fun a h => let ⟨q, o⟩ := s.pool a h; ⟨d.pool a h, o⟩
end
def argsOk : List R → Bool
  | [] => true
  | .val _ :: r => argsOk r
  | .pool :: r => argsOk r
  | _ => false
theorem LkA.args {K : PySem.W.Frag} {B : Bs} {S H : Hp} : ∀ {vs : List V} {rs : List R}, LkA K B S H vs rs → argsOk rs = true → ArgR K S B.pa vs rs
  | _, _, .nil, _ => .nil
  | _, _, .cons (r := r) h k p t, e => by
    cases r with
    | val d => exact .val (k d rfl) (LkA.args t e)
    | pool =>
      obtain ⟨a, e1, e2⟩ := p rfl
      subst e2
      exact .pool e1 (LkA.args t e)
    | own l => cases e
    | brw i l => cases e
/-- f(e, ..) -/
def dCall (F : FM) (n : DAM) : DM := fun env Q => n env fun env' rs => argsOk rs = true ∧ F rs fun r => match r with
  | .brw _ _ => False
  | r => Q env' r
section
variable {X : Cx} {k : Nat} {f C : Addr} {fd : FuncData} {ps : List Str} {F : FM} {x m : Str} {p pos apos : Pos} {e o : Expr} {es : List Expr} {n : DAM} {tn : TA} {np : Nat}
theorem spF_call {B : Bs} {S H : Hp} {env : En} {σ : L2.St} {vs : List V} {rs : List R} {Q : En → R → Prop} {Qv : VK} {E : XK} (s : SR X.K B S H env σ) (l : LkA X.K B S H vs rs) (h : argsOk rs = true) (hl : vs.length = np) (hF : F rs fun r => match r with
    | .brw _ _ => False
    | r => Q env r) (k : ∀ v H' S' env' r, EPo X.K B S H env σ S' H' env' r v → Q env' r → Qv v H') : spF X.K np F vs H Qv E := by
  refine ⟨S, B.pa, rs, _, s.ex, fun a e => (s.pool a e).1, l.args h, hl, hF, fun v H' S' r d q => ?_⟩
  have s' := s.ret d
  have go : Go (Ow B env σ) S H S' H' := ⟨d.ex, fun a o h n => d.keep a o h fun e => n (.inl e), fun a o h n e => d.nw a o h e, d.old⟩
  have dr := d.ret
  cases r with
  | val d0 => exact k v H' S' env (.val d0) ⟨s', go, .refl _, dr⟩ q
  | own l =>
    obtain ⟨p, ws, rfl, h1, h2, h3, h4⟩ := dr
    exact k _ H' S' env (.own l) ⟨s', go, .refl _, p, ws, rfl, h1, s.hp0 h2, h2, s.now h2, h3, h4⟩ q
  | pool => exact k v H' S' env .pool ⟨s', go, .refl _, dr⟩ q
  | brw i l => exact q.elim
theorem de_call (hF : FnOk X.prog X.w X.K X.mg X.base CX0 k f fd ps (spF X.K np F)) (hr : Room k X.A) (hg : Gl X x) (hm : X.mg x = some (.ref f)) (hk : PySem.W.keepIn X.K (.ref f) = true) (hb : Binds X.K fd ps [])
    (ha : DA X (e :: es) n tn) (hlen : (e :: es).length = np) (hdb : (x == ("__debug__" : Str)) = false := by decide) (he : starEach (e :: es) X.env = (false, eval e X.env) :: starEach es X.env := by rfl) (hpl : (backTo pos (starEach es X.env)).any (·.1) = false := by rfl) :
    DE X (.Call (.Name x p) (e :: es) [] pos) (dCall F n) (tCall (spF X.K np F) [] E0 tn) := by
  refine ⟨pe_call hF hr hg hm hk hb .nil pass0 ha.1 hdb he hpl, fun B S H env σ Q Qv s q k => ha.2 B S H env σ _ _ s q fun vs H1 S1 env1 rs z l len q1 => ?_⟩
  show spF X.K np F (vs ++ []) H1 Qv E0
  rw [List.append_nil]
  exact spF_call z.sr l q1.1 (len.trans hlen) q1.2 fun v H' S' env' r a b => k v H' S' env' r (z.e a) b
theorem fn_d {P : Program} {w : World} {K : PySem.W.Frag} {mg : Str → Option Value} {base : Heap} {x qual : Str} {st : Stmt} {f : Addr} {fd : FuncData} {N ps : List Str} {k : Nat} {m : DSM} (F : Fun K x qual st f fd) (Sc : FnScope N ps (defScope st))
    (hbody : ∀ (cdv : Value) (A : Around) (outer : List Env) (s : Shared) (H : Hp) (E : XK), Room k (A.deeper (envOfC qual (defScope st) s.heap.objs.size f cdv)) → ∃ t, DSs (cxOf CX0 P w K mg base N qual (defScope st) f cdv A outer s H E).nox (defBody st) m t) :
    FnOk P w K mg base CX0 (k + 1) f fd ps (spF K ps.length (bodyF N.length m)) := by
  refine F.ok Sc (fun vs H Q E h => ?_) fun cdv A outer s H vs Q E hr h => ?_
  · obtain ⟨S, pa, rs, Qd, h1, h2, h3, h4, h5⟩ := h
    exact h4
  · obtain ⟨S, pa, rs, Qd, h1, h2, h3, h4, h5, h6⟩ := h
    obtain ⟨t, t1, t2⟩ := hbody cdv A outer s H E hr
    refine ⟨t, t1, t2 ⟨S, H, pa⟩ S H _ _ _ _ (SR.entry h1 h2 h3) h5 ?_⟩
    have fin : ∀ {S' H' : Hp} {env : En} {σ : L2.St} {r : R} {v : V}, SR K ⟨S, H, pa⟩ S' H' env σ → RetR K ⟨S, H, pa⟩ S' H' r v → Qd r → Q v H' := fun s r q => h6 _ _ _ _ ⟨s.ex0, s.ex, s.keep0, s.nw0, s.old0, fun a e => (s.pool a e).1, s.pin, r⟩ q
    exact ⟨fun S' H' env σ s q => fin s (r := .val .non) .non q, fun S' H' env σ r v s q z => fin s q z, fun _ _ _ _ _ z => z.elim, fun _ _ _ _ _ z => z.elim, fun _ _ _ _ _ _ _ _ _ _ _ _ z => z.elim⟩
end
end DL
end

section
set_option Elab.async false
set_option linter.all false
set_option maxRecDepth 100000
set_option maxHeartbeats 4000000
namespace DL
open PySem L2
open Evl (Ex)
/-! ### operations by values -/
section
variable {K : PySem.W.Frag} {S H S' H' : Hp}
theorem nwr_val {v : V} {d : D} (e : Ex S H) (h : Rep K S v d) : NwR K S H S H (.val d) v := ⟨.refl e, h⟩
theorem nwr_tup {p : Addr} {vs : List V} {ds : List D} (e : Ex S H) (hp : H p = none) (r : Reps K S vs ds) : NwR K S H (upd S p (.tup vs)) (upd H p (.tup vs)) (.val (.tup ds)) (.ref p) :=
  let n := Nw.add e (o := .tup vs) hp
  ⟨n, .tup (SqT.of upd_same) (r.mono n.ex)⟩
theorem nwr_lst {p : Addr} {vs : List V} {ds : List D} (e : Ex S H) (hp : H p = none) (r : Reps K S vs ds) : NwR K S H S (upd H p (.lst vs)) (.own ds) (.ref p) :=
  ⟨Nw.hid e hp, p, vs, rfl, hp, Evl.fresh_back e hp, upd_same, r⟩
end
/-- ints -/
def m2I (C : Int → Int → Prop) (g : Int → Int → D) : M2 := fun x y Q => match x, y with
  | .int i, .int j => C i j ∧ Q (.val (g i j))
  | _, _ => False
def m2I0 (g : Int → Int → D) : M2 := fun x y Q => match x, y with
  | .int i, .int j => Q (.val (g i j))
  | _, _ => False
theorem opd_I {K : PySem.W.Frag} {C : Int → Int → Prop} {g : Int → Int → V} {gd : Int → Int → D} (h : ∀ S i j, Rep K S (g i j) (gd i j)) : OpD K (rI C g) (m2I C gd) := by
  intro S H x y dx dy Q Qv e hx hy m k
  unfold m2I at m
  split at m
  · rename_i i j
    exact ⟨i, j, hx.int, hy.int, m.1, k _ _ _ _ (nwr_val e (h S i j)) m.2⟩
  · exact m.elim
theorem opd_I0 {K : PySem.W.Frag} {g : Int → Int → V} {gd : Int → Int → D} (h : ∀ S i j, Rep K S (g i j) (gd i j)) : OpD K (rI0 g) (m2I0 gd) := by
  intro S H x y dx dy Q Qv e hx hy m k
  unfold m2I0 at m
  split at m
  · rename_i i j
    exact ⟨i, j, hx.int, hy.int, k _ _ _ _ (nwr_val e (h S i j)) m⟩
  · exact m.elim
/-- either rule -/
theorem opd_or {K : PySem.W.Frag} {r r' : R2} {m m' : M2} (h : OpD K r m) (h' : OpD K r' m') : OpD K (fun x y H Q => r x y H Q ∨ r' x y H Q) (fun x y Q => m x y Q ∨ m' x y Q) := by
  intro S H x y dx dy Q Qv e hx hy m k
  rcases m with m | m
  · exact .inl (h S H x y dx dy Q Qv e hx hy m k)
  · exact .inr (h' S H x y dx dy Q Qv e hx hy m k)
theorem OpD.imp {K : PySem.W.Frag} {r : R2} {m m' : M2} (h : OpD K r m) (k : ∀ x y Q, m' x y Q → m x y Q) : OpD K r m' := fun S H x y dx dy Q Qv e hx hy q => h S H x y dx dy Q Qv e hx hy (k _ _ _ q)
/-- + -/
def mAdd : M2 := fun x y Q => match x, y with
  | .int i, .int j => Q (.val (.int (i + j)))
  | .str a, .str b => a.length + b.length ≤ sizeLine ∧ Q (.val (.str (a ++ b)))
  | .lst a, .lst b => a.length + b.length ≤ sizeLine ∧ Q (.own (a ++ b))
  | _, _ => False
def rAddA : R2 := fun x y H Q => rI0 (fun i j => .int (i + j)) x y H Q ∨ ((∃ i j, x = .str i ∧ y = .str j ∧ i.length + j.length ≤ sizeLine ∧ Q (.str (i ++ j)) H) ∨ rCat x y H Q)
theorem op_addA {X : Cx} : OpR X (binaryOp .Add) rAddA := OpR.or op_add (OpR.or op_add_str op_cat)
theorem opd_add {K : PySem.W.Frag} : OpD K rAddA mAdd := by
  intro S H x y dx dy Q Qv e hx hy m k
  unfold mAdd at m
  split at m
  · rename_i i j
    exact .inl ⟨i, j, hx.int, hy.int, k _ _ _ _ (nwr_val e (.int _)) m⟩
  · rename_i i j
    exact .inr (.inl ⟨i, j, hx.str, hy.str, m.1, k _ _ _ _ (nwr_val e (.str _)) m.2⟩)
  · rename_i a b
    obtain ⟨p, vs, rfl, h1, h2⟩ := hx.lstH e
    obtain ⟨q, ws, rfl, k1, k2⟩ := hy.lstH e
    exact .inr (.inr ⟨p, q, vs, ws, rfl, rfl, h1, k1, by rw [h2.length, k2.length]; exact m.1, fun u hu => k _ _ _ _ (nwr_lst e hu (h2.append k2)) m.2⟩)
  · exact m.elim
def mSub : M2 := m2I0 fun i j => .int (i - j)
def mMul : M2 := m2I CMul fun i j => .int (i * j)
def mDiv : M2 := m2I CDivW fun i j => .int (i / j)
def mMod : M2 := m2I (fun _ j => 0 < j) fun i j => .int (i % j)
def mPow : M2 := m2I CPow fun i j => .int (i ^ j.toNat)
theorem opd_sub {K : PySem.W.Frag} : OpD K (rI0 fun i j => .int (i - j)) mSub := opd_I0 fun _ _ _ => .int _
theorem opd_mul {K : PySem.W.Frag} : OpD K (rI CMul fun i j => .int (i * j)) mMul := opd_I fun _ _ _ => .int _
theorem opd_div {K : PySem.W.Frag} : OpD K (rI CDivW fun i j => .int (i / j)) mDiv := opd_I fun _ _ _ => .int _
theorem opd_mod {K : PySem.W.Frag} : OpD K (rI (fun _ j => 0 < j) fun i j => .int (i % j)) mMod := opd_I fun _ _ _ => .int _
theorem opd_pow {K : PySem.W.Frag} : OpD K (rI CPow fun i j => .int (i ^ j.toNat)) mPow := opd_I fun _ _ _ => .int _
/-- [..] * n -/
def mRep : M2 := fun x y Q => match x, y with
  | .lst a, .int k => (-(2 ^ 63) ≤ k ∧ k < 2 ^ 63 ∧ a.length * k.toNat ≤ sizeLine) ∧ Q (.own (List.replicate k.toNat a).flatten)
  | _, _ => False
theorem Reps.rep {K : PySem.W.Frag} {S : Hp} {vs : List V} {ds : List D} (h : Reps K S vs ds) : ∀ n : Nat, Reps K S (List.replicate n vs).flatten (List.replicate n ds).flatten
  | 0 => .nil
  | n + 1 => by
    rw [List.replicate_succ, List.replicate_succ, List.flatten_cons, List.flatten_cons]
    exact h.append (Reps.rep h n)
theorem opd_rep {K : PySem.W.Frag} : OpD K rRep mRep := by
  intro S H x y dx dy Q Qv e hx hy m k
  unfold mRep at m
  split at m
  · rename_i a j
    obtain ⟨p, vs, rfl, h1, h2⟩ := hx.lstH e
    exact ⟨p, j, vs, rfl, hy.int, h1, m.1.1, m.1.2.1, by rw [h2.length]; exact m.1.2.2, fun u hu => k _ _ _ _ (nwr_lst e hu (h2.rep _)) m.2⟩
  · exact m.elim
/-- comparisons of ints -/
def mLt : M2 := m2I0 fun i j => .bl (decide (i < j))
def mLe : M2 := m2I0 fun i j => .bl (decide (i ≤ j))
def mGt : M2 := m2I0 fun i j => .bl (decide (j < i))
def mGe : M2 := m2I0 fun i j => .bl (decide (j ≤ i))
theorem opd_lt {K : PySem.W.Frag} : OpD K (rI0 fun i j => .bl (decide (i < j))) mLt := opd_I0 fun _ _ _ => .bl _
theorem opd_le {K : PySem.W.Frag} : OpD K (rI0 fun i j => .bl (decide (i ≤ j))) mLe := opd_I0 fun _ _ _ => .bl _
theorem opd_gt {K : PySem.W.Frag} : OpD K (rI0 fun i j => .bl (decide (j < i))) mGt := opd_I0 fun _ _ _ => .bl _
theorem opd_ge {K : PySem.W.Frag} : OpD K (rI0 fun i j => .bl (decide (j ≤ i))) mGe := opd_I0 fun _ _ _ => .bl _
/-- ==, != of data -/
def mEq : M2 := fun x y Q => (okD x ∧ okD y) ∧ Q (.val (.bl (eqD x y)))
def mNe : M2 := fun x y Q => (okD x ∧ okD y) ∧ Q (.val (.bl (!eqD x y)))
theorem opd_eq {K : PySem.W.Frag} : OpD K (rEqD K) mEq := by
  intro S H x y dx dy Q Qv e hx hy m k
  exact ⟨_, _, hx.dp e m.1.1.1, hy.dp e m.1.2.1, m.1.1.2, m.1.2.2, k _ _ _ _ (nwr_val e (.bl _)) m.2⟩
theorem opd_ne {K : PySem.W.Frag} : OpD K (rNeD K) mNe := by
  intro S H x y dx dy Q Qv e hx hy m k
  exact ⟨_, _, hx.dp e m.1.1.1, hy.dp e m.1.2.1, m.1.1.2, m.1.2.2, k _ _ _ _ (nwr_val e (.bl _)) m.2⟩
/-- is None -/
def mIs : M2 := fun x y Q => match y with
  | .non => ∃ b, isNon x = some b ∧ Q (.val (.bl b))
  | _ => False
def mIsN : M2 := fun x y Q => match y with
  | .non => ∃ b, isNon x = some b ∧ Q (.val (.bl (!b)))
  | _ => False
theorem opd_is {K : PySem.W.Frag} : OpD K (fun x y H Q => y = .non ∧ Q (.bl (decide (x = .non))) H) mIs := by
  intro S H x y dx dy Q Qv e hx hy m k
  unfold mIs at m
  split at m
  · obtain ⟨b, h1, h2⟩ := m
    refine ⟨hy.non, ?_⟩
    rw [hx.isNon h1]
    exact k _ _ _ _ (nwr_val e (.bl _)) h2
  · exact m.elim
theorem opd_isN {K : PySem.W.Frag} : OpD K (fun x y H Q => y = .non ∧ Q (.bl (!decide (x = .non))) H) mIsN := by
  intro S H x y dx dy Q Qv e hx hy m k
  unfold mIsN at m
  split at m
  · obtain ⟨b, h1, h2⟩ := m
    refine ⟨hy.non, ?_⟩
    rw [hx.isNon h1]
    exact k _ _ _ _ (nwr_val e (.bl _)) h2
  · exact m.elim
end DL
namespace L2
open PySem PySem.Spec PyProof.Rows
section
variable {X : Cx}
/-- x in a tuple of data -/
def rInT (K : PySem.W.Frag) : R2 := fun x y H Q => ∃ d ds, Dp K H x d ∧ Dp K H y (.tuple ds) ∧ SeqAt.shaped d = true ∧ SeqAt.shaped (.tuple ds) = true ∧ Q (.bl (ds.any fun z => PyData.eqv z d)) H
def rNotInT (K : PySem.W.Frag) : R2 := fun x y H Q => ∃ d ds, Dp K H x d ∧ Dp K H y (.tuple ds) ∧ SeqAt.shaped d = true ∧ SeqAt.shaped (.tuple ds) = true ∧ Q (.bl (!ds.any fun z => PyData.eqv z d)) H
theorem op_inT (hu : X.A.units + 65 < cLine) : OpR X (compareOp .In) (rInT X.K) := by
  intro pins s σ H x y v u Q I rx ry h
  obtain ⟨d, ds, hd, he, sd, se, q⟩ := h
  obtain ⟨as, r1⟩ := Dp.reads I d x v hd rx
  obtain ⟨bs, r2⟩ := Dp.reads I (.tuple ds) y u he ry
  exact SeqAt.in_tuple_reads r2 r1 (SeqAt.canLay_of_shaped se) (SeqAt.canLay_of_shaped sd) (room_in_shaped sd hu) ⟨.bl _, H, I, rfl, q⟩
theorem op_notInT (hu : X.A.units + 65 < cLine) : OpR X (compareOp .NotIn) (rNotInT X.K) := by
  intro pins s σ H x y v u Q I rx ry h
  obtain ⟨d, ds, hd, he, sd, se, q⟩ := h
  obtain ⟨as, r1⟩ := Dp.reads I d x v hd rx
  obtain ⟨bs, r2⟩ := Dp.reads I (.tuple ds) y u he ry
  exact SeqAt.notIn_tuple_reads r2 r1 (SeqAt.canLay_of_shaped se) (SeqAt.canLay_of_shaped sd) (room_in_shaped sd hu) ⟨.bl _, H, I, rfl, q⟩
end
end L2
end

section
set_option Elab.async false
set_option linter.all false
set_option maxRecDepth 100000
set_option maxHeartbeats 4000000
namespace DL
open PySem L2
open Evl (Ex)
theorem toPys_map : ∀ l : List D, toPys l = l.map toPy
  | [] => by rw [toPys] <;> rfl
  | d :: l => by rw [toPys, toPys_map l] <;> rfl
def inD (x : D) (l : List D) : Bool := l.any fun z => eqD z x
/-- in, not in: lists, tuples -/
def mIn : M2 := fun x y Q => match y with
  | .lst l => (okD x ∧ okD y) ∧ Q (.val (.bl (inD x l)))
  | .tup l => (okD x ∧ okD y) ∧ Q (.val (.bl (inD x l)))
  | _ => False
def mNotIn : M2 := fun x y Q => match y with
  | .lst l => (okD x ∧ okD y) ∧ Q (.val (.bl (!inD x l)))
  | .tup l => (okD x ∧ okD y) ∧ Q (.val (.bl (!inD x l)))
  | _ => False
theorem inD_py (x : D) (l : List D) : ((toPys l).any fun z => PyData.eqv z (toPy x)) = inD x l := by
  rw [toPys_map, List.any_map]
  rfl
def rInA (K : PySem.W.Frag) : R2 := fun x y H Q => rInD K x y H Q ∨ rInT K x y H Q
def rNotInA (K : PySem.W.Frag) : R2 := fun x y H Q => rNotInD K x y H Q ∨ rNotInT K x y H Q
theorem op_inA {X : Cx} (hu : X.A.units + 65 < cLine) : OpR X (compareOp .In) (rInA X.K) := OpR.or (op_inD hu) (op_inT hu)
theorem op_notInA {X : Cx} (hu : X.A.units + 65 < cLine) : OpR X (compareOp .NotIn) (rNotInA X.K) := OpR.or (op_notInD hu) (op_notInT hu)
theorem opd_in {K : PySem.W.Frag} : OpD K (rInA K) mIn := by
  intro S H x y dx dy Q Qv e hx hy m k
  unfold mIn at m
  split at m
  · rename_i l
    have q := hy.dp e m.1.2.1
    have s := m.1.2.2
    rw [toPy] at q s
    exact .inl ⟨_, _, hx.dp e m.1.1.1, q, m.1.1.2, s, by rw [inD_py]; exact k _ _ _ _ (nwr_val e (.bl _)) m.2⟩
  · rename_i l
    have q := hy.dp e m.1.2.1
    have s := m.1.2.2
    rw [toPy] at q s
    exact .inr ⟨_, _, hx.dp e m.1.1.1, q, m.1.1.2, s, by rw [inD_py]; exact k _ _ _ _ (nwr_val e (.bl _)) m.2⟩
  · exact m.elim
theorem opd_notIn {K : PySem.W.Frag} : OpD K (rNotInA K) mNotIn := by
  intro S H x y dx dy Q Qv e hx hy m k
  unfold mNotIn at m
  split at m
  · rename_i l
    have q := hy.dp e m.1.2.1
    have s := m.1.2.2
    rw [toPy] at q s
    exact .inl ⟨_, _, hx.dp e m.1.1.1, q, m.1.1.2, s, by rw [inD_py]; exact k _ _ _ _ (nwr_val e (.bl _)) m.2⟩
  · rename_i l
    have q := hy.dp e m.1.2.1
    have s := m.1.2.2
    rw [toPy] at q s
    exact .inr ⟨_, _, hx.dp e m.1.1.1, q, m.1.1.2, s, by rw [inD_py]; exact k _ _ _ _ (nwr_val e (.bl _)) m.2⟩
  · exact m.elim
/-- x[i] -/
def mIx : M2 := fun x y Q => match x, y with
  | .lst l, .int i => ∃ d, atI l i = some d ∧ Q (.val d)
  | .tup l, .int i => ∃ d, atI l i = some d ∧ Q (.val d)
  | .str z, .int i => ∃ c, (z.length ≤ sizeLine ∧ atI z.cps.toList i = some c) ∧ Q (.val (.str ⟨#[c]⟩))
  | _, _ => False
theorem Reps.atI {K : PySem.W.Frag} {S : Hp} {vs : List V} {ds : List D} {i : Int} {d : D} (r : Reps K S vs ds) (h : L2.atI ds i = some d) : ∃ v, L2.atI vs i = some v ∧ Rep K S v d := by
  unfold L2.atI at h ⊢
  rw [r.length]
  cases q : ixN ds.length i with
  | none =>
    rw [q] at h
    cases h
  | some j =>
    rw [q] at h
    exact r.get h
theorem opd_ix {K : PySem.W.Frag} : OpD K (rIx K) mIx := by
  intro S H x y dx dy Q Qv e hx hy m k
  unfold mIx at m
  split at m
  · rename_i l i
    obtain ⟨d, h1, h2⟩ := m
    obtain ⟨p, vs, rfl, k1, k2⟩ := hx.lst e
    obtain ⟨v, q1, q2⟩ := k2.atI h1
    exact .inl ⟨p, vs, i, v, rfl, hy.int, k1, q1, k _ _ _ _ (nwr_val e q2) h2⟩
  · rename_i l i
    obtain ⟨d, h1, h2⟩ := m
    obtain ⟨p, vs, rfl, k1, k2⟩ := hx.tup e
    obtain ⟨v, q1, q2⟩ := k2.atI h1
    exact .inr (.inl ⟨p, vs, i, v, rfl, hy.int, k1, q1, k _ _ _ _ (nwr_val e q2) h2⟩)
  · rename_i z i
    obtain ⟨c, h1, h2⟩ := m
    exact .inr (.inr ⟨z, i, c, hx.str, hy.int, h1.1, h1.2, k _ _ _ _ (nwr_val e (.str _)) h2⟩)
  · exact m.elim
/-- x[a:b] -/
def cutD (xs : List D) (lo hi : Option Int) : List D := (xs.drop (HT.sIx xs.length 0 lo)).take (HT.sIx xs.length xs.length hi - HT.sIx xs.length 0 lo)
theorem Reps.cut {K : PySem.W.Frag} {S : Hp} {vs : List V} {ds : List D} (r : Reps K S vs ds) (lo hi : Option Int) : Reps K S (cutV vs lo hi) (cutD ds lo hi) := by
  unfold cutV cutD
  rw [r.length]
  exact (r.drop _).take _
abbrev M3 := D → Option Int → Option Int → (R → Prop) → Prop
def mSl : M3 := fun x lo hi Q => match x with
  | .lst l => Q (.own (cutD l lo hi))
  | .tup l => ¬ (HT.sIx l.length 0 lo = 0 ∧ HT.sIx l.length l.length hi = l.length) ∧ Q (.val (.tup (cutD l lo hi)))
  | .str z => z.length ≤ sizeLine ∧ Q (.val (.str (cutS z lo hi)))
  | _ => False
def rSl (K : PySem.W.Frag) : V → Option Int → Option Int → Hp → VK → Prop := fun x lo hi H Q => rSlL K x lo hi H Q ∨ (rSlT K x lo hi H Q ∨ rSlS x lo hi H Q)
theorem sl_any {X : Cx} : SlR X (rSl X.K) := sl_list.or (sl_tup.or sl_str)
abbrev DOM := En → (En → Option Int → Prop) → Prop
def DO (X : Cx) (e : Option Expr) (m : DOM) (t : TO) : Prop := PO X e t ∧ ∀ (B : Bs) (S H : Hp) (env : En) (σ : St) (Q : En → Option Int → Prop) (Qv : Option Int → Hp → Prop), SR X.K B S H env σ → m env Q →
  (∀ o H' S' env', TPo X.K B S H env σ S' H' env' → Q env' o → Qv o H') → t σ H Qv
def dNoPart : DOM := fun env Q => Q env none
def dPart (m : DM) : DOM := fun env Q => m env fun env' r => match r with
  | .val (.int i) => Q env' (some i)
  | _ => False
section
variable {X : Cx} {a b c e o : Expr} {ma mb me mo : DM} {pos : Pos} {ta tb te to : TE}
theorem do_none : DO X none dNoPart tNoPart := ⟨po_none, fun B S H env σ Q Qv s q k => k none H S env (.refl s) q⟩
theorem do_some (ha : DE X a ma ta) : DO X (some a) (dPart ma) (tPart ta) := by
  refine ⟨po_some ha.1, fun B S H env σ Q Qv s q k => ha.2 B S H env σ _ _ s q fun v H' S' env' r z q' => ?_⟩
  split at q'
  · rename_i i
    have zr : Rep X.K S' v (.int i) := z.res
    cases zr
    exact ⟨i, rfl, k _ H' S' env' z.t q'⟩
  · exact q'.elim
def dSl (m : DM) (l h : DOM) : DM := fun env Q => m env fun env1 r => l env1 fun env2 lo => h env2 fun env3 hi => mSl r.data lo hi fun q => Q env3 q
theorem de_slice {lo hi : Option Expr} {ml mh : DOM} {tl th : TO} {p2 : Pos} (ha : DE X a ma ta) (hl : DO X lo ml tl) (hh : DO X hi mh th) : DE X (.Subscript a (.Slice lo hi none p2) pos) (dSl ma ml mh) (tSl (rSl X.K) ta tl th) := by
  refine ⟨pe_slice sl_any ha.1 hl.1 hh.1, fun B S H env σ Q Qv s q k => ha.2 B S H env σ _ _ s q fun v H1 S1 env1 r z1 q1 => ?_⟩
  refine hl.2 B S1 H1 env1 σ _ _ z1.sr q1 fun lo H2 S2 env2 z2 q2 => ?_
  refine hh.2 B S2 H2 env2 σ _ _ z2.sr q2 fun hi H3 S3 env3 z3 q3 => ?_
  have z := (z1.t.trans z2).trans z3
  have hx := RepB.go z1 rfl (z2.trans z3)
  have e := z3.sr.ex
  unfold mSl at q3
  split at q3
  · rename_i l c
    rw [c] at hx
    obtain ⟨p, vs, rfl, k1, k2⟩ := hx.lst e
    exact .inl ⟨p, vs, rfl, k1, fun u hu => k _ _ _ env3 (.own _) (.fin z (q := .own _) (nwr_lst e hu (k2.cut lo hi))) q3⟩
  · rename_i l c
    rw [c] at hx
    obtain ⟨p, vs, rfl, k1, k2⟩ := hx.tup e
    refine .inr (.inl ⟨p, vs, rfl, k1, ?_, fun u hu => k _ _ _ env3 (.val _) (.fin z (q := .val _) (nwr_tup e hu (k2.cut lo hi))) q3.2⟩)
    rw [k2.length]
    exact q3.1
  · rename_i y c
    rw [c] at hx
    exact .inr (.inr ⟨y, hx.str, q3.1, k _ _ _ env3 (.val _) (.fin z (q := .val _) (nwr_val e (.str _))) q3.2⟩)
  · exact q3.elim
end
/-! ### built-ins by values -/
section
variable {K : PySem.W.Frag}
def mLen : MA := fun ds Q => match ds with
  | [.lst l] => Q (.val (.int l.length))
  | [.tup l] => Q (.val (.int l.length))
  | [.str z] => z.length ≤ sizeLine ∧ Q (.val (.int z.length))
  | _ => False
theorem RepBs.one {S H : Hp} {vs : List V} {d : D} (h : RepBs K S H vs [d]) : ∃ v, vs = [v] ∧ RepB K S H v d := by
  cases h with
  | cons h r =>
    cases r
    exact ⟨_, rfl, h⟩
theorem RepBs.two {S H : Hp} {vs : List V} {d d2 : D} (h : RepBs K S H vs [d, d2]) : ∃ v w, vs = [v, w] ∧ RepB K S H v d ∧ RepB K S H w d2 := by
  cases h with
  | cons h r =>
    cases r with
    | cons h2 r =>
      cases r
      exact ⟨_, _, rfl, h, h2⟩
theorem cd_len : CallD K (fun xs H Q => ∃ x n, xs = [x] ∧ LenV K x H n ∧ Q (.int n) H) mLen := by
  intro S H vs ds Q Qv e r m k
  unfold mLen at m
  split at m
  · rename_i l
    obtain ⟨v, rfl, h⟩ := r.one
    obtain ⟨p, ws, rfl, k1, k2⟩ := h.lst e
    exact ⟨_, l.length, rfl, .inl ⟨ws, k1, k2.length.symm⟩, k _ _ _ _ (nwr_val e (.int _)) m⟩
  · rename_i l
    obtain ⟨v, rfl, h⟩ := r.one
    obtain ⟨p, ws, rfl, k1, k2⟩ := h.tup e
    exact ⟨_, l.length, rfl, .inr ⟨ws, k1, k2.length.symm⟩, k _ _ _ _ (nwr_val e (.int _)) m⟩
  · rename_i z
    obtain ⟨v, rfl, h⟩ := r.one
    rw [h.str]
    exact ⟨_, z.length, rfl, ⟨m.1, rfl⟩, k _ _ _ _ (nwr_val e (.int _)) m.2⟩
  · exact m.elim
/-- either rule, of calls -/
theorem cd_or {r r' : List V → Hp → VK → Prop} {m m' : MA} (h : CallD K r m) (h' : CallD K r' m') : CallD K (fun xs H Q => r xs H Q ∨ r' xs H Q) (fun ds Q => m ds Q ∨ m' ds Q) := by
  intro S H vs ds Q Qv e r m k
  rcases m with m | m
  · exact .inl (h S H vs ds Q Qv e r m k)
  · exact .inr (h' S H vs ds Q Qv e r m k)
def mInt : MA := fun ds Q => match ds with
  | [.int i] => Q (.val (.int i))
  | [.bl b] => Q (.val (.int (if b then 1 else 0)))
  | [.str a] => ∃ n, (PySem.intText? a = some n ∧ a.length ≤ 640) ∧ Q (.val (.int n))
  | _ => False
def rInt : List V → Hp → VK → Prop := fun xs H Q => ((∃ i, xs = [.int i] ∧ Q (.int i) H) ∨ ∃ k, xs = [.bl k] ∧ Q (.int (if k then 1 else 0)) H) ∨ (∃ a n, xs = [.str a] ∧ PySem.intText? a = some n ∧ a.length ≤ 640 ∧ Q (.int n) H)
theorem call_intA {X : Cx} : CallR X (.type "int") rInt := CallR.or call_int1 call_int_str
theorem cd_int : CallD K rInt mInt := by
  intro S H vs ds Q Qv e r m k
  unfold mInt at m
  split at m
  · rename_i i
    obtain ⟨v, rfl, h⟩ := r.one
    exact .inl (.inl ⟨i, by rw [h.int], k _ _ _ _ (nwr_val e (.int _)) m⟩)
  · rename_i b
    obtain ⟨v, rfl, h⟩ := r.one
    exact .inl (.inr ⟨b, by rw [h.bl], k _ _ _ _ (nwr_val e (.int _)) m⟩)
  · rename_i a
    obtain ⟨v, rfl, h⟩ := r.one
    obtain ⟨n, h1, h2⟩ := m
    exact .inr ⟨a, n, by rw [h.str], h1.1, h1.2, k _ _ _ _ (nwr_val e (.int _)) h2⟩
  · exact m.elim
def mStr : MA := fun ds Q => match ds with
  | [.int i] => i.natAbs.log2 < 1920 ∧ Q (.val (.str (toString i)))
  | _ => False
theorem cd_str : CallD K (fun xs H Q => ∃ i : Int, xs = [.int i] ∧ i.natAbs.log2 < 1920 ∧ Q (.str (toString i)) H) mStr := by
  intro S H vs ds Q Qv e r m k
  unfold mStr at m
  split at m
  · rename_i i
    obtain ⟨v, rfl, h⟩ := r.one
    exact ⟨i, by rw [h.int], m.1, k _ _ _ _ (nwr_val e (.str _)) m.2⟩
  · exact m.elim
def mList : MA := fun ds Q => match ds with
  | [.lst l] => Q (.own l)
  | [.tup l] => Q (.own l)
  | [.scr ns] => Q (.own (ns.map D.int))
  | _ => False
theorem RepB.scr {S H : Hp} (e : Ex S H) {v : V} {ns : List Int} (h : RepB K S H v (.scr ns)) : ∃ p, v = .ref p ∧ SqL K H p (ns.map V.int) := by
  rcases h with h | ⟨p, vs, l, rfl, h2, h3, h4⟩
  · cases h with
    | scr h => exact ⟨_, rfl, Evl.ex_l e h⟩
  · cases h2
theorem cd_list : CallD K (fun xs H Q => ∃ p ys, xs = [.ref p] ∧ (SqL K H p ys ∨ SqT K H p ys) ∧ ∀ l, H l = none → Q (.ref l) (upd H l (.lst ys))) mList := by
  intro S H vs ds Q Qv e r m k
  unfold mList at m
  split at m
  · rename_i l
    obtain ⟨v, rfl, h⟩ := r.one
    obtain ⟨p, ws, rfl, k1, k2⟩ := h.lst e
    exact ⟨p, ws, rfl, .inl k1, fun u hu => k _ _ _ _ (nwr_lst e hu k2) m⟩
  · rename_i l
    obtain ⟨v, rfl, h⟩ := r.one
    obtain ⟨p, ws, rfl, k1, k2⟩ := h.tup e
    exact ⟨p, ws, rfl, .inr k1, fun u hu => k _ _ _ _ (nwr_lst e hu k2) m⟩
  · rename_i ns
    obtain ⟨v, rfl, h⟩ := r.one
    obtain ⟨p, rfl, k1⟩ := h.scr e
    exact ⟨p, ns.map V.int, rfl, .inl k1, fun u hu => k _ _ _ _ (nwr_lst e hu (Reps.ints ns)) m⟩
  · exact m.elim
def mTuple : MA := fun ds Q => match ds with
  | [.lst l] => Q (.val (.tup l))
  | [.tup l] => Q (.val (.tup l))
  | _ => False
theorem cd_tuple : CallD K (fun xs H Q => ∃ p ys, xs = [.ref p] ∧ ((SqL K H p ys ∧ ∀ l, H l = none → Q (.ref l) (upd H l (.tup ys))) ∨ (SqT K H p ys ∧ Q (.ref p) H))) mTuple := by
  intro S H vs ds Q Qv e r m k
  unfold mTuple at m
  split at m
  · rename_i l
    obtain ⟨v, rfl, h⟩ := r.one
    obtain ⟨p, ws, rfl, k1, k2⟩ := h.lst e
    exact ⟨p, ws, rfl, .inl ⟨k1, fun u hu => k _ _ _ _ (nwr_tup e hu k2) m⟩⟩
  · rename_i l
    obtain ⟨v, rfl, h⟩ := r.one
    rcases h with h | ⟨p, ws, l', rfl, h2, _⟩
    · cases h with
      | tup h r => exact ⟨_, _, rfl, .inr ⟨Evl.ex_t e h, k _ _ _ _ (nwr_val e (.tup h r)) m⟩⟩
    · cases h2
  · exact m.elim
/-- a list of ints -/
def intsOf : List D → Option (List Int)
  | [] => some []
  | .int i :: r => (intsOf r).map (i :: ·)
  | _ => none
theorem intsOf_map (l : List Int) : intsOf (l.map D.int) = some l := by
  induction l with
  | nil => rfl
  | cons i l ih =>
    show (intsOf (l.map D.int)).map (i :: ·) = _
    rw [ih]
    rfl
theorem intsOf_eq : ∀ {ds : List D} {l : List Int}, intsOf ds = some l → ds = l.map D.int
  | [], l, h => by cases h; rfl
  | .int i :: r, l, h => by
    have h' : (intsOf r).map (i :: ·) = some l := h
    cases q : intsOf r with
    | none => rw [q] at h'; cases h'
    | some l2 =>
      rw [q] at h'
      cases h'
      rw [intsOf_eq q]
      rfl
  | .non :: _, _, h => by cases h
  | .bl _ :: _, _, h => by cases h
  | .str _ :: _, _, h => by cases h
  | .tup _ :: _, _, h => by cases h
  | .lst _ :: _, _, h => by cases h
  | .ins _ _ _ :: _, _, h => by cases h
  | .any :: _, _, h => by cases h
def mSum : MA := fun ds Q => match ds with
  | [.lst l] => ∃ ns, intsOf l = some ns ∧ Q (.val (.int ns.sum))
  | _ => False
theorem cd_sum : CallD K (rSum K) mSum := by
  intro S H vs ds Q Qv e r m k
  unfold mSum at m
  split at m
  · rename_i l
    obtain ⟨ns, h1, h2⟩ := m
    obtain ⟨v, rfl, h⟩ := r.one
    obtain ⟨p, ws, rfl, k1, k2⟩ := h.lst e
    rw [intsOf_eq h1] at k2
    rw [k2.ints_inv] at k1
    exact ⟨p, ns, rfl, k1, k _ _ _ _ (nwr_val e (.int _)) h2⟩
  · exact m.elim
def mMin1 : MA := fun ds Q => match ds with
  | [.lst l] => ∃ ns, intsOf l = some ns ∧ 0 < ns.length ∧ ∀ m, m ∈ ns → (∀ y, y ∈ ns → m ≤ y) → Q (.val (.int m))
  | _ => False
theorem cd_min1 : CallD K (rMin K) mMin1 := by
  intro S H vs ds Q Qv e r m k
  unfold mMin1 at m
  split at m
  · rename_i l
    obtain ⟨ns, h1, h2, h3⟩ := m
    obtain ⟨v, rfl, h⟩ := r.one
    obtain ⟨p, ws, rfl, k1, k2⟩ := h.lst e
    rw [intsOf_eq h1] at k2
    rw [k2.ints_inv] at k1
    exact ⟨p, ns, rfl, k1, h2, fun j a b => k _ _ _ _ (nwr_val e (.int _)) (h3 j a b)⟩
  · exact m.elim
def mMax1 : MA := fun ds Q => match ds with
  | [.lst l] => ∃ ns, intsOf l = some ns ∧ 0 < ns.length ∧ ∀ m, m ∈ ns → (∀ y, y ∈ ns → y ≤ m) → Q (.val (.int m))
  | _ => False
theorem cd_max1 : CallD K (rMax K) mMax1 := by
  intro S H vs ds Q Qv e r m k
  unfold mMax1 at m
  split at m
  · rename_i l
    obtain ⟨ns, h1, h2, h3⟩ := m
    obtain ⟨v, rfl, h⟩ := r.one
    obtain ⟨p, ws, rfl, k1, k2⟩ := h.lst e
    rw [intsOf_eq h1] at k2
    rw [k2.ints_inv] at k1
    exact ⟨p, ns, rfl, k1, h2, fun j a b => k _ _ _ _ (nwr_val e (.int _)) (h3 j a b)⟩
  · exact m.elim
def mMin2 : MA := fun ds Q => match ds with
  | [.int i, .int j] => Q (.val (.int (if j < i then j else i)))
  | _ => False
def mMax2 : MA := fun ds Q => match ds with
  | [.int i, .int j] => Q (.val (.int (if j > i then j else i)))
  | _ => False
theorem cd_min2 : CallD K (fun xs H Q => ∃ i j, xs = [.int i, .int j] ∧ Q (.int (if j < i then j else i)) H) mMin2 := by
  intro S H vs ds Q Qv e r m k
  unfold mMin2 at m
  split at m
  · rename_i i j
    obtain ⟨v, w, rfl, h1, h2⟩ := r.two
    exact ⟨i, j, by rw [h1.int, h2.int], k _ _ _ _ (nwr_val e (.int _)) m⟩
  · exact m.elim
theorem cd_max2 : CallD K (fun xs H Q => ∃ i j, xs = [.int i, .int j] ∧ Q (.int (if j > i then j else i)) H) mMax2 := by
  intro S H vs ds Q Qv e r m k
  unfold mMax2 at m
  split at m
  · rename_i i j
    obtain ⟨v, w, rfl, h1, h2⟩ := r.two
    exact ⟨i, j, by rw [h1.int, h2.int], k _ _ _ _ (nwr_val e (.int _)) m⟩
  · exact m.elim
/-- a list of truth values -/
def blsOf : List D → Option (List Bool)
  | [] => some []
  | .bl i :: r => (blsOf r).map (i :: ·)
  | _ => none
theorem blsOf_map (l : List Bool) : blsOf (l.map D.bl) = some l := by
  induction l with
  | nil => rfl
  | cons i l ih =>
    show (blsOf (l.map D.bl)).map (i :: ·) = _
    rw [ih]
    rfl
theorem blsOf_eq : ∀ {ds : List D} {l : List Bool}, blsOf ds = some l → ds = l.map D.bl
  | [], l, h => by cases h; rfl
  | .bl i :: r, l, h => by
    have h' : (blsOf r).map (i :: ·) = some l := h
    cases q : blsOf r with
    | none => rw [q] at h'; cases h'
    | some l2 =>
      rw [q] at h'
      cases h'
      rw [blsOf_eq q]
      rfl
  | .non :: _, _, h => by cases h
  | .int _ :: _, _, h => by cases h
  | .str _ :: _, _, h => by cases h
  | .tup _ :: _, _, h => by cases h
  | .lst _ :: _, _, h => by cases h
  | .ins _ _ _ :: _, _, h => by cases h
  | .any :: _, _, h => by cases h
def mAll : MA := fun ds Q => match ds with
  | [.lst l] => ∃ bs, blsOf l = some bs ∧ Q (.val (.bl (bs.all id)))
  | _ => False
theorem cd_all : CallD K (rAll K) mAll := by
  intro S H vs ds Q Qv e r m k
  unfold mAll at m
  split at m
  · rename_i l
    obtain ⟨ns, h1, h2⟩ := m
    obtain ⟨v, rfl, h⟩ := r.one
    obtain ⟨p, ws, rfl, k1, k2⟩ := h.lst e
    rw [blsOf_eq h1] at k2
    rw [k2.bls_inv] at k1
    exact ⟨p, ns, rfl, k1, k _ _ _ _ (nwr_val e (.bl _)) h2⟩
  · exact m.elim
def mAny : MA := fun ds Q => match ds with
  | [.lst l] => ∃ bs, blsOf l = some bs ∧ Q (.val (.bl (bs.any id)))
  | _ => False
theorem cd_any : CallD K (rAny K) mAny := by
  intro S H vs ds Q Qv e r m k
  unfold mAny at m
  split at m
  · rename_i l
    obtain ⟨ns, h1, h2⟩ := m
    obtain ⟨v, rfl, h⟩ := r.one
    obtain ⟨p, ws, rfl, k1, k2⟩ := h.lst e
    rw [blsOf_eq h1] at k2
    rw [k2.bls_inv] at k1
    exact ⟨p, ns, rfl, k1, k _ _ _ _ (nwr_val e (.bl _)) h2⟩
  · exact m.elim
def mSortI : MA := fun ds Q => match ds with
  | [.lst l] => ∃ ns, intsOf l = some ns ∧ ∀ ns' : List Int, ns'.Perm ns → ns'.Pairwise (· ≤ ·) → Q (.own (ns'.map D.int))
  | _ => False
theorem cd_sortI : CallD K (rSortedI K) mSortI := by
  intro S H vs ds Q Qv e r m k
  unfold mSortI at m
  split at m
  · rename_i l
    obtain ⟨ns, h1, h2⟩ := m
    obtain ⟨v, rfl, h⟩ := r.one
    obtain ⟨p, ws, rfl, k1, k2⟩ := h.lst e
    rw [intsOf_eq h1] at k2
    rw [k2.ints_inv] at k1
    exact ⟨p, ns, rfl, k1, fun ns' u hp hs hu => k _ _ _ _ (nwr_lst e hu (Reps.ints ns')) (h2 ns' hp hs)⟩
  · exact m.elim
end
/-! ### isinstance with a built-in class -/
def tyD : D → Option String
  | .non => some "NoneType"
  | .bl _ => some "bool"
  | .int _ => some "int"
  | .str _ => some "str"
  | .tup _ => some "tuple"
  | .lst _ => some "list"
  | _ => none
/-- the built-in classes that are asked for -/
inductive BT where
  | tuple | list | bool | int | str
def BT.name : BT → String
  | .tuple => "tuple"
  | .list => "list"
  | .bool => "bool"
  | .int => "int"
  | .str => "str"
def isTup : D → Bool
  | .tup _ => true
  | _ => false
def isLst : D → Bool
  | .lst _ => true
  | _ => false
def isBl : D → Bool
  | .bl _ => true
  | _ => false
def isIntB : D → Bool
  | .int _ => true
  | .bl _ => true
  | _ => false
def isStr : D → Bool
  | .str _ => true
  | _ => false
def isNo : D → Bool
  | .non => true
  | _ => false
/-- has it a built-in class? -/
def hasTy : D → Bool
  | .ins _ _ _ => false
  | .any => false
  | .err _ _ _ _ _ => false
  | .scr _ => false
  | _ => true
def isB (T : BT) (x : D) : Option Bool := match hasTy x with
  | false => none
  | true => match T with
    | .tuple => some (isTup x)
    | .list => some (isLst x)
    | .bool => some (isBl x)
    | .int => some (isIntB x)
    | .str => some (isStr x)
def mIsi (T : BT) : M1 := fun x Q => ∃ b, isB T x = some b ∧ Q (.val (.bl b))
theorem kb_NoneType_tuple : kitB "NoneType" "tuple" = some false := by decide +kernel
theorem kb_NoneType_list : kitB "NoneType" "list" = some false := by decide +kernel
theorem kb_NoneType_bool : kitB "NoneType" "bool" = some false := by decide +kernel
theorem kb_NoneType_int : kitB "NoneType" "int" = some false := by decide +kernel
theorem kb_NoneType_str : kitB "NoneType" "str" = some false := by decide +kernel
theorem kb_bool_tuple : kitB "bool" "tuple" = some false := by decide +kernel
theorem kb_bool_list : kitB "bool" "list" = some false := by decide +kernel
theorem kb_bool_bool : kitB "bool" "bool" = some true := by decide +kernel
theorem kb_bool_int : kitB "bool" "int" = some true := by decide +kernel
theorem kb_bool_str : kitB "bool" "str" = some false := by decide +kernel
theorem kb_int_tuple : kitB "int" "tuple" = some false := by decide +kernel
theorem kb_int_list : kitB "int" "list" = some false := by decide +kernel
theorem kb_int_bool : kitB "int" "bool" = some false := by decide +kernel
theorem kb_int_int : kitB "int" "int" = some true := by decide +kernel
theorem kb_int_str : kitB "int" "str" = some false := by decide +kernel
theorem kb_str_tuple : kitB "str" "tuple" = some false := by decide +kernel
theorem kb_str_list : kitB "str" "list" = some false := by decide +kernel
theorem kb_str_bool : kitB "str" "bool" = some false := by decide +kernel
theorem kb_str_int : kitB "str" "int" = some false := by decide +kernel
theorem kb_str_str : kitB "str" "str" = some true := by decide +kernel
theorem kb_tuple_tuple : kitB "tuple" "tuple" = some true := by decide +kernel
theorem kb_tuple_list : kitB "tuple" "list" = some false := by decide +kernel
theorem kb_tuple_bool : kitB "tuple" "bool" = some false := by decide +kernel
theorem kb_tuple_int : kitB "tuple" "int" = some false := by decide +kernel
theorem kb_tuple_str : kitB "tuple" "str" = some false := by decide +kernel
theorem kb_list_tuple : kitB "list" "tuple" = some false := by decide +kernel
theorem kb_list_list : kitB "list" "list" = some true := by decide +kernel
theorem kb_list_bool : kitB "list" "bool" = some false := by decide +kernel
theorem kb_list_int : kitB "list" "int" = some false := by decide +kernel
theorem kb_list_str : kitB "list" "str" = some false := by decide +kernel
theorem isB_kit {T : BT} {x : D} {b : Bool} (h : isB T x = some b) : ∃ t, tyD x = some t ∧ kitB t T.name = some b := by
  cases x with
  | ins C ns l => cases h
  | any => cases h
  | err _ _ _ _ _ => cases h
  | scr _ => cases h
  | non => cases T with
    | tuple => cases h; exact ⟨_, rfl, kb_NoneType_tuple⟩
    | list => cases h; exact ⟨_, rfl, kb_NoneType_list⟩
    | bool => cases h; exact ⟨_, rfl, kb_NoneType_bool⟩
    | int => cases h; exact ⟨_, rfl, kb_NoneType_int⟩
    | str => cases h; exact ⟨_, rfl, kb_NoneType_str⟩
  | bl c => cases T with
    | tuple => cases h; exact ⟨_, rfl, kb_bool_tuple⟩
    | list => cases h; exact ⟨_, rfl, kb_bool_list⟩
    | bool => cases h; exact ⟨_, rfl, kb_bool_bool⟩
    | int => cases h; exact ⟨_, rfl, kb_bool_int⟩
    | str => cases h; exact ⟨_, rfl, kb_bool_str⟩
  | int c => cases T with
    | tuple => cases h; exact ⟨_, rfl, kb_int_tuple⟩
    | list => cases h; exact ⟨_, rfl, kb_int_list⟩
    | bool => cases h; exact ⟨_, rfl, kb_int_bool⟩
    | int => cases h; exact ⟨_, rfl, kb_int_int⟩
    | str => cases h; exact ⟨_, rfl, kb_int_str⟩
  | str c => cases T with
    | tuple => cases h; exact ⟨_, rfl, kb_str_tuple⟩
    | list => cases h; exact ⟨_, rfl, kb_str_list⟩
    | bool => cases h; exact ⟨_, rfl, kb_str_bool⟩
    | int => cases h; exact ⟨_, rfl, kb_str_int⟩
    | str => cases h; exact ⟨_, rfl, kb_str_str⟩
  | tup c => cases T with
    | tuple => cases h; exact ⟨_, rfl, kb_tuple_tuple⟩
    | list => cases h; exact ⟨_, rfl, kb_tuple_list⟩
    | bool => cases h; exact ⟨_, rfl, kb_tuple_bool⟩
    | int => cases h; exact ⟨_, rfl, kb_tuple_int⟩
    | str => cases h; exact ⟨_, rfl, kb_tuple_str⟩
  | lst c => cases T with
    | tuple => cases h; exact ⟨_, rfl, kb_list_tuple⟩
    | list => cases h; exact ⟨_, rfl, kb_list_list⟩
    | bool => cases h; exact ⟨_, rfl, kb_list_bool⟩
    | int => cases h; exact ⟨_, rfl, kb_list_int⟩
    | str => cases h; exact ⟨_, rfl, kb_list_str⟩
end DL
end

section
set_option Elab.async false
set_option linter.all false
set_option maxRecDepth 100000
set_option maxHeartbeats 4000000
namespace DL
open PySem L2
open Evl (Ex)
/-- a op b op' c -/
def dChain (m m' : M2) (ma mb mc : DM) : DM := fun env Q => ma env fun env1 x => mb env1 fun env2 y => m x.data y.data fun q => match q with
  | .val (.bl k) => dIte k (mc env2 fun env3 z => m' y.data z.data fun q => Q env3 q) (Q env2 (.val (.bl false)))
  | _ => False
/-- ints or texts -/
def m2S (p : List Nat → List Nat → Bool) (g : Int → Int → Bool) : M2 := fun x y Q => match x, y with
  | .int i, .int j => Q (.val (.bl (g i j)))
  | .str i, .str j => Q (.val (.bl (p i.cps.toList j.cps.toList)))
  | _, _ => False
def r2S (p : List Nat → List Nat → Bool) (g : Int → Int → Bool) : R2 := fun x y H Q => rI0 (fun i j => .bl (g i j)) x y H Q ∨ ∃ i j, x = .str i ∧ y = .str j ∧ Q (.bl (p i.cps.toList j.cps.toList)) H
theorem opd_S {K : PySem.W.Frag} {p : List Nat → List Nat → Bool} {g : Int → Int → Bool} : OpD K (r2S p g) (m2S p g) := by
  intro S H x y dx dy Q Qv e hx hy m k
  unfold m2S at m
  split at m
  · rename_i i j
    exact .inl ⟨i, j, hx.int, hy.int, k _ _ _ _ (nwr_val e (.bl _)) m⟩
  · rename_i i j
    exact .inr ⟨i, j, hx.str, hy.str, k _ _ _ _ (nwr_val e (.bl _)) m⟩
  · exact m.elim
abbrev mLtA : M2 := m2S (fun i j => decide (i < j)) fun i j => decide (i < j)
abbrev mLeA : M2 := m2S (fun i j => !decide (j < i)) fun i j => decide (i ≤ j)
abbrev mGtA : M2 := m2S (fun i j => decide (j < i)) fun i j => decide (j < i)
abbrev mGeA : M2 := m2S (fun i j => !decide (i < j)) fun i j => decide (j ≤ i)
section
variable {X : Cx}
theorem op_ltA : OpR X (compareOp .Lt) (r2S (fun i j => decide (i < j)) fun i j => decide (i < j)) := OpR.or op_lt op_lt_str
theorem op_leA : OpR X (compareOp .LtE) (r2S (fun i j => !decide (j < i)) fun i j => decide (i ≤ j)) := OpR.or op_le op_le_str
theorem op_gtA : OpR X (compareOp .Gt) (r2S (fun i j => decide (j < i)) fun i j => decide (j < i)) := OpR.or op_gt op_gt_str
theorem op_geA : OpR X (compareOp .GtE) (r2S (fun i j => !decide (i < j)) fun i j => decide (j ≤ i)) := OpR.or op_ge op_ge_str
end
section
variable {X : Cx} {a b c e o : Expr} {ma mb mc me mo : DM} {pos : Pos} {ta tb tc te to : TE}
theorem de_chain {op op' : CmpOp} {r r' : R2} {m m' : M2} (ho : OpR X (compareOp op) r) (hd : OpD X.K r m) (ho' : OpR X (compareOp op') r') (hd' : OpD X.K r' m') (ha : DE X a ma ta) (hb : DE X b mb tb) (hc : DE X c mc tc)
    (hm : lastMarks [op, op'] [b, c] = false := by with_unfolding_all rfl) : DE X (.Compare a [op, op'] [b, c] pos) (dChain m m' ma mb mc) (tChain r r' ta tb tc) := by
  refine ⟨pe_chain ho ho' ha.1 hb.1 hc.1 hm, fun B S H env σ Q Qv s q k => ?_⟩
  refine ha.2 B S H env σ _ _ s q fun x H1 S1 env1 r1 e1 q1 => ?_
  refine hb.2 B S1 H1 env1 σ _ _ e1.sr q1 fun y H2 S2 env2 r2 e2 q2 => ?_
  refine hd S2 H2 x y _ _ _ _ e2.sr.ex (e1.look e2) e2.look1 q2 fun v H3 S3 q n q3 => ?_
  have z3 := EPo.fin (e1.t.trans e2.t) n
  split at q3
  · rename_i k0
    refine ⟨k0, z3.res.bl, ?_⟩
    cases k0 with
    | true =>
      refine hc.2 B S3 H3 env2 σ _ _ z3.sr (dIte_t q3) fun z H4 S4 env3 r4 e4 q4 => ?_
      have hy : RepB X.K S4 H4 y r2.data := RepB.go e2 rfl (TPo.trans (⟨z3.sr, n.nw.go, .refl _⟩ : TPo X.K B S2 H2 env2 σ S3 H3 env2) e4.t)
      exact hd' S4 H4 y z _ _ _ _ e4.sr.ex hy e4.look1 q4 fun v H5 S5 q n5 q5 => k v H5 S5 env3 q (.fin (z3.t.trans e4.t) n5) q5
    | false => exact k _ H3 S3 env2 (.val (.bl false)) ⟨z3.sr, z3.go, z3.fz, Rep.bl _⟩ (dIte_f q3)
  · exact q3.elim
theorem dt_chain {op op' : CmpOp} {r r' : R2} {m m' : M2} (ho : OpR X (compareOp op) r) (hd : OpD X.K r m) (ho' : OpR X (compareOp op') r') (hd' : OpD X.K r' m') (ha : DE X a ma ta) (hb : DE X b mb tb) (hc : DE X c mc tc)
    (hm : lastMarks [op, op'] [b, c] = false := by with_unfolding_all rfl) : DT X (.Compare a [op, op'] [b, c] pos) (dB (dChain m m' ma mb mc)) (tTest (tChain r r' ta tb tc)) := by
  refine ⟨pt_chain ho ho' ha.1 hb.1 hc.1 hm, fun B S H env σ Q Qv s q k => ?_⟩
  refine (de_chain ho hd ho' hd' ha hb hc (pos := pos) hm).2 B S H env σ _ _ s q fun v H1 S1 env1 r1 e1 q1 => ?_
  split at q1
  · rename_i c
    exact ⟨c, e1.res.bl, k _ H1 S1 env1 e1.t q1⟩
  · exact q1.elim
/-- a constant of the module -/
theorem de_gint {x : Str} {i : Int} {t : Tok} (hg : Gl X x) (hm : X.mg x = some (.int i t)) (hd : (x == ("__debug__" : Str)) = false := by decide) : DE X (.Name x pos) (dC (.int i)) (tC (.int i)) := de_c (pe_glob hg hm ⟨_, rfl⟩ hd) fun _ _ => .int i
theorem de_gstr {x y : Str} {t : Tok} (hg : Gl X x) (hm : X.mg x = some (.str y t)) (hd : (x == ("__debug__" : Str)) = false := by decide) : DE X (.Name x pos) (dC (.str y)) (tC (.str y)) := de_c (pe_glob hg hm ⟨_, rfl⟩ hd) fun _ _ => .str y
theorem de_gref {x : Str} {a : Addr} {d : D} (hg : Gl X x) (hm : X.mg x = some (.ref a)) (hr : ∀ S, Rep X.K S (.ref a) d) (hd : (x == ("__debug__" : Str)) = false := by decide) : DE X (.Name x pos) (dC d) (tC (.ref a)) :=
  ⟨pe_glob hg hm rfl hd, fun B S H env σ Q Qv s q k => k _ H S env (.val d) ⟨s, .refl, .refl _, hr S⟩ q⟩
theorem RepB.ty {K : PySem.W.Frag} {S H : Hp} {v : V} {d : D} {t : String} (e : Ex S H) (h : RepB K S H v d) (q : tyD d = some t) : TyX K H v (.type t) := by
  cases d with
  | non => rw [h.non]; cases q; exact .base .non
  | bl b => rw [h.bl]; cases q; exact .base (.bl b)
  | int i => rw [h.int]; cases q; exact .base (.int i)
  | str x => rw [h.str]; cases q; exact .base (.str x)
  | lst l =>
    obtain ⟨p, vs, rfl, h1, h2⟩ := h.lstH e
    cases q
    exact .base (.lst h1)
  | tup l =>
    obtain ⟨p, vs, rfl, h1, h2⟩ := h.tup e
    cases q
    rcases h1 with (h1 | ⟨o, h1⟩) | ⟨o, its, n, h1, h3, _⟩
    · exact .base (.tup h1)
    · exact .fTuple h1
    · exact .kTuple h1 h3
  | ins C ns l => cases q
  | any => cases q
  | err _ _ _ _ _ => cases q
  | scr _ => cases q
def dIsi (T : BT) (m : DM) : DM := fun env Q => m env fun env' r => mIsi T r.data fun q => Q env' q
/-- isinstance(e, T), T a built-in class -/
theorem de_isi {x : Str} {T : BT} {p p2 : Pos} (hg : Gl X "isinstance") (hm : X.mg "isinstance" = none) (hv : bootBuiltins "isinstance" = some (.builtin "isinstance")) (hg2 : Gl X x) (hm2 : X.mg x = none) (hv2 : bootBuiltins x = some (.type T.name)) (ha : DE X a ma ta)
    (hn : x ≠ "__name__" := by decide) (hd : (x == ("__debug__" : Str)) = false := by decide)
    (he : starEach (a :: [.Name x p2]) X.env = (false, eval a X.env) :: starEach [.Name x p2] X.env := by rfl) (he2 : starEach (.Name x p2 :: []) X.env = (false, eval (.Name x p2) X.env) :: starEach [] X.env := by rfl) (hpl : (backTo pos (starEach [.Name x p2] X.env)).any (·.1) = false := by rfl) :
    DE X (.Call (.Name "isinstance" p) (a :: [.Name x p2]) [] pos) (dIsi T ma) (tCB (rIsi X.K) (tCons ta (tCons (tC (.ty T.name)) tNil))) := by
  refine ⟨pe_callB call_isi hg hm hv (pa_cons ha.1 (pa_cons (pe_bltn hg2 hm2 hv2 rfl hn hd) pa_nil he2) he) (by decide) (by decide) he hpl, fun B S H env σ Q Qv s q k => ?_⟩
  refine ha.2 B S H env σ _ _ s q fun x H1 S1 env1 r1 e1 q1 => ?_
  obtain ⟨b, h1, h3⟩ := q1
  obtain ⟨t, h1, h2⟩ := isB_kit h1
  exact ⟨x, .ty T.name, _, _, b, rfl, .ty T.name, e1.look1.ty e1.sr.ex h1, kit_ty h2, k _ H1 S1 env1 (.val (.bl b)) ⟨e1.sr, e1.go, e1.fz, Rep.bl _⟩ h3⟩
/-- s.m(e) of a text -/
def dM1 (m : D → D → (R → Prop) → Prop) (mo me : DM) : DM := fun env Q => mo env fun env1 x => (∃ z, x.data = .str z) ∧ me env1 fun env2 y => m x.data y.data fun q => Q env2 q
def M1D (K : PySem.W.Frag) (r : V → List V → Hp → VK → Prop) (m : M2) : Prop := ∀ (S H : Hp) (x y : V) (dx dy : D) (Q : R → Prop) (Qv : VK), Ex S H → RepB K S H x dx → RepB K S H y dy → m dx dy Q →
  (∀ v H' S' q, NwR K S H S' H' q v → Q q → Qv v H') → r x [y] H Qv
theorem de_m1 {E : Expr} {r : V → List V → Hp → VK → Prop} {m : M2} (h : PE X E (tM1 r to te)) (hd : M1D X.K r m) (ho : DE X o mo to) (he : DE X e me te) : DE X E (dM1 m mo me) (tM1 r to te) := by
  refine ⟨h, fun B S H env σ Q Qv s q k => ?_⟩
  refine ho.2 B S H env σ _ _ s q fun x H1 S1 env1 r1 e1 q1 => ?_
  obtain ⟨⟨z, hz⟩, q1⟩ := q1
  have hx := e1.look1
  rw [hz] at hx
  refine ⟨⟨z, hx.str⟩, he.2 B S1 H1 env1 σ _ _ e1.sr q1 fun y H2 S2 env2 r2 e2 q2 => ?_⟩
  exact hd S2 H2 x y _ _ _ _ e2.sr.ex (e1.look e2) e2.look1 q2 fun v H3 S3 q n q3 => k v H3 S3 env2 q (.fin (e1.t.trans e2.t) n) q3
/-- a list of texts -/
def strsOf : List D → Option (List Str)
  | [] => some []
  | .str i :: r => (strsOf r).map (i :: ·)
  | _ => none
theorem strsOf_map (l : List Str) : strsOf (l.map D.str) = some l := by
  induction l with
  | nil => rfl
  | cons i l ih =>
    show (strsOf (l.map D.str)).map (i :: ·) = _
    rw [ih]
    rfl
theorem strsOf_eq : ∀ {ds : List D} {l : List Str}, strsOf ds = some l → ds = l.map D.str
  | [], l, h => by cases h; rfl
  | .str i :: r, l, h => by
    have h' : (strsOf r).map (i :: ·) = some l := h
    cases q : strsOf r with
    | none => rw [q] at h'; cases h'
    | some l2 =>
      rw [q] at h'
      cases h'
      rw [strsOf_eq q]
      rfl
  | .non :: _, _, h => by cases h
  | .bl _ :: _, _, h => by cases h
  | .int _ :: _, _, h => by cases h
  | .tup _ :: _, _, h => by cases h
  | .lst _ :: _, _, h => by cases h
  | .ins _ _ _ :: _, _, h => by cases h
  | .any :: _, _, h => by cases h
def mJoin : M2 := fun x y Q => match x, y with
  | .str a, .lst l => ∃ ys, strsOf l = some ys ∧ (ys.map (·.length)).sum + ys.length * a.length ≤ 16777216 ∧ Q (.val (.str (Txt.join a ys)))
  | _, _ => False
theorem md_join {K : PySem.W.Frag} : M1D K (fun x xs H Q => ∃ a p, ∃ ys : List Str, x = .str a ∧ xs = [.ref p] ∧ (SqL K H p (ys.map V.str) ∨ SqT K H p (ys.map V.str)) ∧
      (ys.map (·.length)).sum + ys.length * a.length ≤ 16777216 ∧ Q (.str (Txt.join a ys)) H) mJoin := by
  intro S H x y dx dy Q Qv e hx hy m k
  unfold mJoin at m
  split at m
  · rename_i a l
    obtain ⟨ys, h1, h2, h3⟩ := m
    obtain ⟨p, vs, rfl, k1, k2⟩ := hy.lst e
    rw [strsOf_eq h1] at k2
    rw [k2.strs_inv] at k1
    exact ⟨a, p, ys, hx.str, rfl, .inl k1, h2, k _ _ _ _ (nwr_val e (.str _)) h3⟩
  · exact m.elim
def mSplit : M2 := fun x y Q => match x, y with
  | .str a, .str b => ((b.length == 0) = false ∧ a.length + 2 ≤ sizeLine) ∧ Q (.own ((Txt.split a b).map D.str))
  | _, _ => False
theorem md_split {K : PySem.W.Frag} : M1D K (fun x xs H Q => ∃ a b, x = .str a ∧ xs = [.str b] ∧ (b.length == 0) = false ∧ a.length + 2 ≤ sizeLine ∧ rNewStrs (Txt.split a b) H Q) mSplit := by
  intro S H x y dx dy Q Qv e hx hy m k
  unfold mSplit at m
  split at m
  · rename_i a b
    exact ⟨a, b, hx.str, by rw [hy.str], m.1.1, m.1.2, fun p hp => k _ _ _ _ (nwr_lst e hp (Reps.strs _)) m.2⟩
  · exact m.elim
theorem de_join {apos : Pos} (ho : DE X o mo to) (he : DE X e me te) (hs : starEach [e] X.env = [(false, eval e X.env)] := by rfl) (hbase : attributeBase o "join" X.env (eval o X.env) = eval o X.env := by rfl) (hline : (apos.endLine == pos.line) = true := by rfl) :
    DE X (.Call (.Attribute o "join" apos) [e] [] pos) (dM1 mJoin mo me) (tM1 (fun x xs H Q => ∃ a p, ∃ ys : List Str, x = .str a ∧ xs = [.ref p] ∧ (SqL X.K H p (ys.map V.str) ∨ SqT X.K H p (ys.map V.str)) ∧
      (ys.map (·.length)).sum + ys.length * a.length ≤ 16777216 ∧ Q (.str (Txt.join a ys)) H) to te) := de_m1 (pe_join ho.1 he.1 hs hbase hline) md_join ho he
theorem de_split {apos : Pos} (ho : DE X o mo to) (he : DE X e me te) (hs : starEach [e] X.env = [(false, eval e X.env)] := by rfl) (hbase : attributeBase o "split" X.env (eval o X.env) = eval o X.env := by rfl) (hline : (apos.endLine == pos.line) = true := by rfl) :
    DE X (.Call (.Attribute o "split" apos) [e] [] pos) (dM1 mSplit mo me) (tM1 (fun x xs H Q => ∃ a b, x = .str a ∧ xs = [.str b] ∧ (b.length == 0) = false ∧ a.length + 2 ≤ sizeLine ∧ rNewStrs (Txt.split a b) H Q) to te) := de_m1 (pe_split ho.1 he.1 hs hbase hline) md_split ho he
/-- an attribute of an instance of the class at C -/
def lookF (f : Str) : List Str → List D → Option D
  | n :: ns, d :: ds => if f == n then some d else lookF f ns ds
  | _, _ => none
def dFld (C : Addr) (f : Str) (m : DM) : DM := fun env Q => m env fun env' r => match r with
  | .val (.ins C' ns l) => C' = C ∧ ∃ d, lookF f ns l = some d ∧ Q env' (.val d)
  | _ => False
theorem Reps.lookF {K : PySem.W.Frag} {S : Hp} {f : Str} : ∀ {fs : List (Str × V)} {ds : List D} {d : D}, Reps K S (fs.map (·.2)) ds → DL.lookF f (fs.map (·.1)) ds = some d → ∃ v, fs.lookup f = some v ∧ Rep K S v d
  | [], _, _, r, h => by
    cases r
    cases h
  | (n, v) :: fs, _, d, r, h => by
    cases r with
    | cons r1 r2 =>
      rename_i d1 ds
      have h' : (if f == n then some d1 else DL.lookF f (fs.map (·.1)) ds) = some d := h
      by_cases c : (f == n) = true
      · rw [if_pos c] at h'
        cases h'
        exact ⟨v, by rw [List.lookup_cons, c], r1⟩
      · rw [if_neg c] at h'
        obtain ⟨w, h1, h2⟩ := Reps.lookF r2 h'
        refine ⟨w, ?_, h2⟩
        rw [List.lookup_cons]
        cases q : f == n with
        | true => exact absurd q c
        | false => exact h1
theorem de_fld {C : Addr} {f : Str} (hc : Cls X.K C) (hn : NoAttr X.K C f) (ha : DE X a ma ta) (hb : attributeBase a f X.env (eval a X.env) = eval a X.env := by rfl) : DE X (.Attribute a f pos) (dFld C f ma) (tFld X.K ta f) := by
  refine ⟨pe_fld ha.1 hb, fun B S H env σ Q Qv s q k => ha.2 B S H env σ _ _ s q fun v H' S' env' r z q' => ?_⟩
  split at q'
  · rename_i C' ns l
    obtain ⟨rfl, d, h1, h2⟩ := q'
    have zr : Rep X.K S' v (.ins C' ns l) := z.res
    cases zr with
    | ins h3 h4 h5 h6 =>
      subst h4
      subst h5
      obtain ⟨w, w1, w2⟩ := h6.lookF h1
      exact ⟨_, C', _, _, w, rfl, z.sr.ex _ _ h3, hc, hn, w1, k w H' S' env' (.val d) ⟨z.sr, z.go, z.fz, w2⟩ h2⟩
  · exact q'.elim
end
section
variable {X : Cx}
/-- name = [..] on one line -/
theorem ds_setLc {i : Nat} {y : Str} {py : Pos} {spos : Pos} {elt tg iter : Expr} {ifs : List Expr} {scope : Scope} (own : List (Str × Nat)) {pos : Pos} (hy : X.N[i]? = some y) (hyl : X.env.scope.names.lookup y = some .local) (hsw : swapsWith (.ListComp elt [⟨tg, iter, ifs, 0⟩] scope pos) (some (.Name y py)) spos.line X.env = pure true) {mi : DIM} {wi : TI} {g : DGM} {tg1 : Shared → Hp → Addr → List (Str × Addr) → List Addr → TG} {t : DTM} {tt : Shared → Hp → Addr → List (Str × Addr) → List Addr → TT} {m : DM} {te : Shared → Hp → Addr → List (Str × Addr) → List Addr → TE} (hc : X.calm = true) (hN : X.N.Nodup) (hi : DI X tg iter mi wi) (ok : BlkOk X.N X.env.scope scope own)
    (hg : ∀ (s : Shared) (H : Hp) (C : Addr) (cl : List (Str × Addr)) (fp : List Addr), DG (X.blk s H scope (compEnvC scope cl C X.env) fp) tg g (tg1 s H C cl fp)) (ht : ∀ (s : Shared) (H : Hp) (C : Addr) (cl : List (Str × Addr)) (fp : List Addr), DTs (X.blk s H scope (compEnvC scope cl C X.env) fp) ifs t (tt s H C cl fp))
    (he : ∀ (s : Shared) (H : Hp) (C : Addr) (cl : List (Str × Addr)) (fp : List Addr), DE (X.blk s H scope (compEnvC scope cl C X.env) fp) elt m (te s H C cl fp)) (i1 : TgIn (tg1 X.s_0 X.H_0 0 [] []) (own.map (·.2))) (i2 : GIn g (own.map (·.2)))
    (e1 : ∀ s H C cl fp, tg1 s H C cl fp = tg1 X.s_0 X.H_0 0 [] [] := by intros; rfl) (e2 : ∀ s H C cl fp, tt s H C cl fp = tt X.s_0 X.H_0 0 [] [] := by intros; rfl) (e3 : ∀ s H C cl fp, te s H C cl fp = te X.s_0 X.H_0 0 [] [] := by intros; rfl) (hs : ∀ x, foldedSetIterable iter X.env x = pure x := by intro _; rfl) :
    DS X (.Assign [.Name y py] (.ListComp elt [⟨tg, iter, ifs, 0⟩] scope pos) spos) (dSet i (dLc mi (own.map (·.2)) g t m)) (tAsg (tLc wi (tg1 X.s_0 X.H_0 0 [] []) (tt X.s_0 X.H_0 0 [] []) (te X.s_0 X.H_0 0 [] []) (own.map (·.2))) (gName i)) := by
  have h := de_lc own (pos := pos) hc hN hi ok hg ht he i1 i2 e1 e2 e3 hs
  refine ⟨ps_setLc hc hN hy hyl hsw hi.1 ok (fun s H C cl fp => e1 s H C cl fp ▸ (hg s H C cl fp).1) (fun s H C cl fp => e2 s H C cl fp ▸ (ht s H C cl fp).1) (fun s H C cl fp => e3 s H C cl fp ▸ (he s H C cl fp).1) hs, fun B S H env σ E D s q e => h.2 B S H env σ _ _ s q fun v H' S' env' r z q' => ?_⟩
  have zr := z.res
  cases r with
  | val d => exact e.nx S' H' _ _ (z.sr.storeD zr) q'
  | own l =>
    obtain ⟨p, vs, rfl, z1, z2, z3, z4, z5, z6⟩ := zr
    exact e.nx S' H' _ _ (z.sr.store (fun d e => by cases e) (fun l' e => by cases e; exact ⟨p, vs, rfl, z1, z2, z5, z6, fun j m _ h1 h2 => z4 (.inr (.inl ⟨j, m, h1, h2⟩)), fun j m h1 => z4 (.inr (.inr ⟨j, m, h1⟩))⟩) fun e => by cases e) q'
  | brw j l =>
    obtain ⟨p, rfl, z1, z2⟩ := zr
    obtain ⟨p', S2, y1, y2, y3⟩ := z.sr.frz z2
    cases Slt.ref z1 y1
    exact e.nx S2 H' _ _ (y2.sr.storeD y3) q'
  | pool =>
    obtain ⟨a, z1, rfl⟩ := zr
    exact e.nx S' H' _ _ (z.sr.store (fun d e => by cases e) (fun l' e => by cases e) fun _ => ⟨a, z1, rfl⟩) q'
/-- a, b = e1, e2 -/
def dPar (i j : Nat) (n : DAM) : DSM := fun E env => n env fun env' rs => match rs with
  | [.val d, .val d2] => E.nx ((env'.set i (some (.val d))).set j (some (.val d2)))
  | _ => False
theorem ds_par {i j : Nat} {x y : Str} {a b : Expr} {n : DAM} {tn : TA} {px py pt : Pos} {kt k2 pt2} {pos : Pos} (hc : X.calm = true) (hN : X.N.Nodup) (hi : X.N[i]? = some x) (hj : X.N[j]? = some y) (hij : i ≠ j)
    (hx : X.env.scope.names.lookup x = some .local) (hy : X.env.scope.names.lookup y = some .local) (ha : DA X [a, b] n tn)
    (hw : swappedStores [.Tuple [.Name x px, .Name y py] kt pt] (.Tuple [a, b] k2 pt2) X.env = pure (some [x, y]))
    (hs : swapsWithSole [.Tuple [.Name x px, .Name y py] kt pt] (.Tuple [a, b] k2 pt2) pos.line X.env = pure false := by rfl) :
    DS X (.Assign [.Tuple [.Name x px, .Name y py] kt pt] (.Tuple [a, b] k2 pt2) pos) (dPar i j n) (tPar i j tn) := by
  refine ⟨ps_par hc hN hi hj hij hx hy ha.1 hw hs, fun B S H env σ E D s q e => ha.2 B S H env σ _ _ s q fun vs H' S' env' rs z l len q' => ?_⟩
  split at q'
  · rename_i d d2
    have r := l.vals (ds := [d, d2]) rfl
    cases r with
    | cons r1 r2 =>
      cases r2 with
      | cons r2 r3 =>
        cases r3
        exact ⟨_, _, rfl, e.nx S' H' _ _ ((z.sr.storeD r1).storeD r2) q'⟩
  · exact q'.elim
end
end DL
end

section
set_option Elab.async false
set_option linter.all false
set_option maxRecDepth 100000
set_option maxHeartbeats 4000000
namespace DL
open PySem L2
open Evl (Ex)
/-- a def of the text, called by its name -/
structure FnAt (K : PySem.W.Frag) (mg : Str → Option Value) (name qual : Str) (st : Stmt) (f : Addr) (fd : FuncData) (ps : List Str) : Prop where
  fn : Fun K name qual st f fd
  g : mg name = some (.ref f)
  b : Binds K fd ps []
theorem FnAt.k {K : PySem.W.Frag} {mg : Str → Option Value} {name qual : Str} {st : Stmt} {f : Addr} {fd : FuncData} {ps : List Str} (h : FnAt K mg name qual st f fd ps) : PySem.W.keepIn K (.ref f) = true := h.fn.kp
theorem _root_.L2.Room.units1 {k : Nat} {A : Around} (r : Room k A) : A.units + 65 < cLine := by have := r.un; omega
def mNeg : M1 := fun x Q => match x with
  | .int i => Q (.val (.int (-i)))
  | _ => False
theorem ud_neg {K : PySem.W.Frag} : UnD K (rU fun i => .int (-i)) mNeg := by
  intro S H x dx Q Qv e hx m k
  unfold mNeg at m
  split at m
  · rename_i i
    exact ⟨i, hx.int, k _ _ _ _ (nwr_val e (.int _)) m⟩
  · exact m.elim
/-- += of ints, of texts -/
def mAddI : M2 := fun x y Q => match x, y with
  | .int i, .int j => Q (.val (.int (i + j)))
  | .str a, .str b => a.length + b.length ≤ sizeLine ∧ Q (.val (.str (a ++ b)))
  | _, _ => False
def rAddI : R2 := fun x y H Q => rI0 (fun i j => .int (i + j)) x y H Q ∨ ∃ i j, x = .str i ∧ y = .str j ∧ i.length + j.length ≤ sizeLine ∧ Q (.str (i ++ j)) H
theorem iop_addI {X : Cx} : OpR X (inplaceOp .Add) rAddI := OpR.or iop_add iop_add_str
theorem opd_addI {K : PySem.W.Frag} : OpD K rAddI mAddI := by
  intro S H x y dx dy Q Qv e hx hy m k
  unfold mAddI at m
  split at m
  · rename_i i j
    exact .inl ⟨i, j, hx.int, hy.int, k _ _ _ _ (nwr_val e (.int _)) m⟩
  · rename_i i j
    exact .inr ⟨i, j, hx.str, hy.str, m.1, k _ _ _ _ (nwr_val e (.str _)) m.2⟩
  · exact m.elim
/-- (..) + (..) -/
def mCatT : M2 := fun x y Q => match x, y with
  | .tup a, .tup b => (a ≠ [] ∧ a.length + b.length ≤ sizeLine) ∧ Q (.val (.tup (a ++ b)))
  | _, _ => False
theorem opd_catT {K : PySem.W.Frag} : OpD K (rCatT K) mCatT := by
  intro S H x y dx dy Q Qv e hx hy m k
  unfold mCatT at m
  split at m
  · rename_i a b
    rcases hx with hx | ⟨p, ws, l', rfl, h2, _⟩
    · cases hx with
      | tup h1 h2 =>
        obtain ⟨q, ws, rfl, k1, k2⟩ := hy.tup e
        refine ⟨_, q, _, ws, rfl, rfl, Evl.ex_t e h1, k1, fun z => m.1.1 ?_, by rw [h2.length, k2.length]; exact m.1.2, fun z => ?_, fun _ u hu => k _ _ _ _ (nwr_tup e hu (h2.append k2)) m.2⟩
        · subst z
          cases h2
          rfl
        · subst z
          cases k2
          refine k _ _ _ _ (nwr_val e (.tup h1 h2)) ?_
          have mm := m.2
          rw [List.append_nil] at mm
          exact mm
    · cases h2
  · exact m.elim
/-! ### reversed, enumerate, zip -/
def dRev (m : DM) : DIM := fun env Q => dKeep m env fun env' r => match r with
  | .val (.lst l) => Q env' l.reverse
  | .val (.tup l) => Q env' l.reverse
  | _ => False
section
variable {X : Cx} {tg a b : Expr} {ma mb : DM} {pos : Pos} {ta tb : TE}
theorem rev_get {α : Type} {l : List α} {i : Nat} (h : i < l.length) : l.reverse[i]? = l[l.length - 1 - i]? := List.getElem?_reverse h
theorem di_rev {p : Pos} (hg : Gl X "reversed") (hm : X.mg "reversed" = none) (ha : DE X a ma ta) (hs : starEach [a] X.env = (false, eval a X.env) :: starEach [] X.env := by rfl) : DI X tg (.Call (.Name "reversed" p) [a] [] pos) (dRev ma) (RT.iRevA X.K ta) := by
  obtain ⟨h1, h2⟩ := de_keep ha
  refine ⟨RT.pi_revA hg hm h1 hs, fun B S H env σ Q R s q k => h2 B S H env σ _ _ s q fun v H' S' env' r z q' => ?_⟩
  split at q'
  · rename_i l
    have zr : Rep X.K S' v (.lst l) := z.res
    cases zr with
    | lst h r =>
      rename_i p0 vs
      refine ⟨_, vs, rfl, .inl ⟨SqL.of (z.sr.ex _ _ h), k _ H' S' env' l.reverse z.t ⟨fun i hi S2 H2 e1 e2 => ?_, fun i d hd S2 H2 x H3 e1 e2 y => ?_, fun S2 H2 e1 e2 => ?_⟩ q'⟩⟩
      · rw [List.length_reverse] at hi
        have hi' : i < vs.length := by rw [r.length]; exact hi
        exact ⟨hi', vs, vs[vs.length - 1 - i], SqL.of (e2 _ _ (e1 _ _ h)), List.getElem?_eq_getElem _⟩
      · obtain ⟨rfl, y⟩ := y
        have hi : i < l.length := by
          have := (List.getElem?_eq_some_iff.mp hd).1
          rwa [List.length_reverse] at this
        rw [rev_get hi] at hd
        obtain ⟨w, w1, w2⟩ := r.get hd
        have q := y vs (SqL.of (e2 _ _ (e1 _ _ h)))
        rw [r.length, w1] at q
        cases q
        exact ⟨S2, .refl e2, w2.mono e1⟩
      · rw [List.length_reverse]
        show vs.length ≤ l.length
        rw [r.length]
        exact Nat.le_refl _
  · rename_i l
    have zr : Rep X.K S' v (.tup l) := z.res
    cases zr with
    | tup h r =>
      rename_i p0 vs
      refine ⟨_, vs, rfl, .inr ⟨Evl.ex_t z.sr.ex h, k _ H' S' env' l.reverse z.t ⟨fun i hi S2 H2 e1 e2 => ?_, fun i d hd S2 H2 x H3 e1 e2 y => ?_, fun S2 H2 e1 e2 => ?_⟩ q'⟩⟩
      · rw [List.length_reverse] at hi
        have hi' : i < vs.length := by rw [r.length]; exact hi
        exact ⟨hi', vs, vs[vs.length - 1 - i], Evl.ex_t (e1.trans e2) h, List.getElem?_eq_getElem _⟩
      · obtain ⟨rfl, y⟩ := y
        have hi : i < l.length := by
          have := (List.getElem?_eq_some_iff.mp hd).1
          rwa [List.length_reverse] at this
        rw [rev_get hi] at hd
        obtain ⟨w, w1, w2⟩ := r.get hd
        have q := y vs (Evl.ex_t (e1.trans e2) h)
        rw [r.length, w1] at q
        cases q
        exact ⟨S2, .refl e2, w2.mono e1⟩
      · rw [List.length_reverse]
        show vs.length ≤ l.length
        rw [r.length]
        exact Nat.le_refl _
  · exact q'.elim
/-- for i, x in enumerate(xs) -/
def enumD : Nat → List D → List D
  | _, [] => []
  | i, d :: r => .tup [.int (i : Nat), d] :: enumD (i + 1) r
def dEnum (m : DM) : DIM := fun env Q => dKeep m env fun env' r => match r with
  | .val (.lst l) => Q env' (enumD 0 l)
  | _ => False
theorem enumD_length : ∀ (l : List D) (i : Nat), (enumD i l).length = l.length
  | [], _ => rfl
  | d :: r, i => by unfold enumD; rw [List.length_cons, List.length_cons, enumD_length r]
theorem enumD_get : ∀ (l : List D) (i j : Nat), (enumD i l)[j]? = l[j]?.map fun d => .tup [.int ((i + j : Nat) : Int), d]
  | [], _, _ => by simp [enumD]
  | d :: r, i, 0 => by simp [enumD]
  | d :: r, i, j + 1 => by
    unfold enumD
    rw [List.getElem?_cons_succ, List.getElem?_cons_succ, enumD_get r (i + 1) j]
    rw [show i + 1 + j = i + (j + 1) by omega]
theorem di_enum {elts : List Expr} {kk : Nat} {p tpos : Pos} (hg : Gl X "enumerate") (hm : X.mg "enumerate" = none) (ha : DE X a ma ta) (hs : starEach [a] X.env = [(false, eval a X.env)] := by rfl) :
    DI X (.Tuple elts kk tpos) (.Call (.Name "enumerate" p) [a] [] pos) (dEnum ma) (iEnum X.K (tCons ta tNil)) := by
  obtain ⟨h1, h2⟩ := de_keep ha
  refine ⟨pi_enum hg hm (pa_cons h1 pa_nil (by rw [hs] <;> rfl)) hs, fun B S H env σ Q R s q k => h2 B S H env σ _ _ s q fun v H' S' env' r z q' => ?_⟩
  split at q'
  · rename_i l
    have zr : Rep X.K S' v (.lst l) := z.res
    cases zr with
    | lst h r =>
      rename_i p0 vs
      refine ⟨_, vs, rfl, SqL.of (z.sr.ex _ _ h), k _ H' S' env' _ z.t ⟨fun i hi S2 H2 e1 e2 => ?_, fun i d hd S2 H2 x H3 e1 e2 y => ?_, fun S2 H2 e1 e2 => ?_⟩ q'⟩
      · rw [enumD_length] at hi
        have hi' : i < vs.length := by rw [r.length]; exact hi
        exact ⟨vs, vs[i], SqL.of (e2 _ _ (e1 _ _ h)), List.getElem?_eq_getElem _⟩
      · obtain ⟨T, x', rfl, hT, rfl, y⟩ := y
        rw [enumD_get, Nat.zero_add] at hd
        cases q : l[i]? with
        | none => rw [q] at hd; cases hd
        | some d0 =>
          rw [q] at hd
          cases hd
          obtain ⟨w, w1, w2⟩ := r.get q
          have q2 := y vs (SqL.of (e2 _ _ (e1 _ _ h)))
          rw [w1] at q2
          cases q2
          exact ⟨_, (nwr_tup (K := X.K) e2 hT (.cons (.int _) (.cons (w2.mono e1) .nil))).1, (nwr_tup (K := X.K) e2 hT (.cons (.int _) (.cons (w2.mono e1) .nil))).2⟩
      · rw [enumD_length]
        exact ⟨vs, SqL.of (e2 _ _ (e1 _ _ h)), by rw [r.length]; exact Nat.le_refl _⟩
  · exact q'.elim
/-- for x, y in zip(xs, ys) -/
def zipD : List D → List D → List D
  | a :: r, b :: s => .tup [a, b] :: zipD r s
  | _, _ => []
theorem zipD_get : ∀ (l m : List D) (j : Nat), (zipD l m)[j]? = match l[j]?, m[j]? with
    | some a, some b => some (.tup [a, b])
    | _, _ => none
  | [], m, j => by simp [zipD]
  | a :: r, [], j => by
    simp only [zipD, List.getElem?_nil]
    cases (a :: r)[j]? <;> rfl
  | a :: r, b :: s, 0 => by simp [zipD]
  | a :: r, b :: s, j + 1 => by
    unfold zipD
    rw [List.getElem?_cons_succ, List.getElem?_cons_succ, List.getElem?_cons_succ]
    exact zipD_get r s j
theorem zipD_length : ∀ (l m : List D), (zipD l m).length = min l.length m.length
  | [], m => by simp [zipD]
  | a :: r, [] => by simp [zipD]
  | a :: r, b :: s => by
    unfold zipD
    rw [List.length_cons, List.length_cons, List.length_cons, zipD_length r s]
    omega
def dZip (m n : DM) : DIM := fun env Q => dKeep m env fun env1 r => dKeep n env1 fun env2 q => match r, q with
  | .val (.lst l), .val (.lst l2) => Q env2 (zipD l l2)
  | _, _ => False
theorem di_zip {elts : List Expr} {kk : Nat} {p tpos : Pos} (hg : Gl X "zip") (hm : X.mg "zip" = none) (ha : DE X a ma ta) (hb : DE X b mb tb)
    (hs : starEach [a, b] X.env = (false, eval a X.env) :: starEach [b] X.env := by rfl) (hs2 : starEach [b] X.env = (false, eval b X.env) :: starEach [] X.env := by rfl) (hpl : (backTo pos (starEach [b] X.env)).any (·.1) = false := by rfl) :
    DI X (.Tuple elts kk tpos) (.Call (.Name "zip" p) [a, b] [] pos) (dZip ma mb) (iZip X.K (tCons ta (tCons tb tNil))) := by
  obtain ⟨h1, h2⟩ := de_keep ha
  obtain ⟨k1, k2⟩ := de_keep hb
  refine ⟨pi_zip hg hm (pa_cons h1 (pa_cons k1 pa_nil hs2) hs) hs hpl, fun B S H env σ Q R s q k => h2 B S H env σ _ _ s q fun v H1 S1 env1 r z1 q1 => k2 B S1 H1 env1 σ _ _ z1.sr q1 fun u H' S' env' r2 z2 q' => ?_⟩
  split at q'
  · rename_i l l2
    have zr : Rep X.K S1 v (.lst l) := z1.res
    have yr : Rep X.K S' u (.lst l2) := z2.res
    cases zr with
    | lst h r =>
      cases yr with
      | lst h' r' =>
        rename_i p0 vs p1 ws
        have h := z2.go.ex _ _ h
        have r := r.mono z2.go.ex
        refine ⟨_, _, vs, ws, rfl, SqL.of (z2.sr.ex _ _ h), SqL.of (z2.sr.ex _ _ h'), k _ H' S' env' _ (z1.t.trans z2.t) ⟨fun i hi S2 H2 e1 e2 => ?_, fun i d hd S2 H2 x H3 e1 e2 y => ?_, fun S2 H2 e1 e2 => ?_⟩ q'⟩
        · rw [zipD_length] at hi
          have hi1 : i < vs.length := by rw [r.length]; omega
          have hi2 : i < ws.length := by rw [r'.length]; omega
          exact ⟨vs, ws, vs[i], ws[i], SqL.of (e2 _ _ (e1 _ _ h)), SqL.of (e2 _ _ (e1 _ _ h')), List.getElem?_eq_getElem _, List.getElem?_eq_getElem _⟩
        · obtain ⟨T, x', y', rfl, hT, rfl, y1, y2⟩ := y
          rw [zipD_get] at hd
          cases c1 : l[i]? with
          | none => rw [c1] at hd; cases hd
          | some d1 =>
            cases c2 : l2[i]? with
            | none => rw [c1, c2] at hd; cases hd
            | some d2 =>
              rw [c1, c2] at hd
              cases hd
              obtain ⟨w, w1, w2⟩ := r.get c1
              obtain ⟨w', w1', w2'⟩ := r'.get c2
              have e3 := y1 vs (SqL.of (e2 _ _ (e1 _ _ h)))
              have e4 := y2 ws (SqL.of (e2 _ _ (e1 _ _ h')))
              rw [w1] at e3
              rw [w1'] at e4
              cases e3
              cases e4
              have n := nwr_tup (K := X.K) e2 hT (.cons (w2.mono e1) (.cons (w2'.mono e1) .nil))
              exact ⟨_, n.1, n.2⟩
        · refine ⟨vs, ws, SqL.of (e2 _ _ (e1 _ _ h)), SqL.of (e2 _ _ (e1 _ _ h')), ?_⟩
          rw [zipD_length, r.length, r'.length]
          omega
  · exact q'.elim
end
end DL
end

section
set_option Elab.async false
set_option linter.all false
set_option maxRecDepth 100000
set_option maxHeartbeats 4000000
namespace DL
open PySem PySem.Spec PyProof.Rows L2
open Evl (Ex)
/-! ### a draw from the pool: some number from 0 on below the size -/
def F_draw : FM := fun rs Qd => ∃ n : Int, rs = [.pool, .val (.int n)] ∧ CDivW 0 n ∧ ∀ r : Int, 0 ≤ r → r < n → Qd (.val (.int r))
section
variable {K : PySem.W.Frag} {σ : L2.St} {H : Hp} {a : Addr} {xs : List V} {i : Int} {v : V} {Q : VK}
theorem rd_at (hσ : σ[0]? = some (some (.ref a))) (h : H a = some (.lst xs)) (hi : atI xs i = some v) (k : Q v H) : tOp (rIxL K) (tVar 0) (tC (.int i)) σ H Q := ⟨_, hσ, a, xs, i, v, rfl, rfl, SqL.of h, hi, k⟩
theorem st_at {te : TE} {D : Ends} {j : Nat} (hσ : σ[0]? = some (some (.ref a))) (h : H a = some (.lst xs)) (hi : ixN xs.length i = some j) (hv : ∀ Q : VK, Q v H → te σ H Q) (k : D.nx σ (upd H a (.lst (xs.set j v)))) :
    tAsg te (gSub (tVar 0) (tC (.int i)) rSetL) D σ H := hv _ ⟨_, hσ, a, xs, i, j, rfl, rfl, h, hi, k⟩
end
abbrev pl (l : Addr) (pos big seed cnt bud : Int) : List V := [.ref l, .int pos, .int big, .int seed, .int cnt, .int bud]
theorem draw_ok {P : Program} {w : World} {K : PySem.W.Frag} {mg : Str → Option Value} {base : Heap} {st : Stmt} {f : Addr} {fd : FuncData} (F : Fun K "_law_draw" "_law_draw" st f fd) (Sc : FnScope ["pool", "size", "cell", "value"] ["pool", "size"] (defScope st))
    (hlen : mg "len" = none) (hint : mg "int" = none)
    (hbody : ∀ (cdv : Value) (A : Around) (outer : List Env) (s : Shared) (H : Hp) (E : XK), ∃ t, PSs (cxOf CX0 P w K mg base ["pool", "size", "cell", "value"] "_law_draw" (defScope st) f cdv A outer s H E).nox (defBody st) t ∧
      ∀ (H : Hp) (a l : Addr) (cells : List Int) (pos big seed cnt bud n : Int) (D : Ends), H a = some (.lst (pl l pos big seed cnt bud)) → H l = some (.lst (cells.map V.int)) → l ≠ a → 0 ≤ pos → CDivW 0 n →
        (∀ (r pos big seed cnt : Int), 0 ≤ r → r < n → 0 ≤ pos → D.rt (.int r) (upd H a (.lst (pl l pos big seed cnt bud)))) → t D [some (.ref a), some (.int n), none, none] H) :
    FnOk P w K mg base CX0 1 f fd ["pool", "size"] (spF K 2 F_draw) := by
  refine F.ok Sc (fun vs H Q E h => ?_) fun cdv A outer s H vs Q E hr h => ?_
  · obtain ⟨S, pa, rs, Qd, h1, h2, h3, h4, h5⟩ := h
    exact h4
  · obtain ⟨S, pa, rs, Qd, h1, h2, h3, h4, ⟨n, rfl, hn, h5⟩, h6⟩ := h
    obtain ⟨t, t1, t2⟩ := hbody cdv A outer s H E
    cases h3 with
    | @pool a vs _ hp h3 =>
      cases h3 with
      | val hv h3 =>
        cases h3
        cases hv
        obtain ⟨sa, l, cells, pos, big, seed, cnt, bud, ha, hl, h0⟩ := h2 a hp
        have la : l ≠ a := fun e => by rw [e, sa] at hl; cases hl
        refine ⟨t, t1, t2 H a l cells pos big seed cnt bud n _ ha (h1 _ _ hl) la h0 hn fun r pos' big' seed' cnt' r0 rn p0 => ?_⟩
        refine h6 _ _ S (.val (.int r)) ⟨Ex.refl _, fun b o e => ?_, fun b o e c => ?_, fun b o e c => c, fun b e => ?_, fun b e => ?_, fun b e => ?_, .int r⟩ (h5 r r0 rn)
        · rw [upd_ne (fun z => by rw [z, sa] at e; cases e)]
          exact h1 _ _ e
        · rw [upd_ne (fun z => c (by rw [z]; exact hp))]
          exact e
        · by_cases z : b = a
          · rw [z, upd_same] at e
            cases e
          · rw [upd_ne z] at e
            exact e
        · rw [hp] at e
          cases e
          exact ⟨sa, l, cells, pos', big', seed', cnt', bud, upd_same, hl, p0⟩
        · rw [hp] at e
          cases e
          rw [upd_same, ha]
          rfl
end DL
end

section
set_option Elab.async false
set_option linter.all false
set_option maxRecDepth 100000
set_option maxHeartbeats 4000000
namespace DL
open PySem PySem.Spec PyProof.Rows L2
open Evl (Ex)
/-! ### rewriting the meanings -/
theorem hasTy_dat {x : D} (h : isDat x = true) : hasTy x = true := by
  cases x <;> first
    | rfl
    | (rw [isDat] at h; exact nomatch h)
theorem isB_tuple {x : D} (h : isDat x = true) : isB .tuple x = some (isTup x) := by unfold isB; rw [hasTy_dat h]
theorem isB_list {x : D} (h : isDat x = true) : isB .list x = some (isLst x) := by unfold isB; rw [hasTy_dat h]
theorem isB_bool {x : D} (h : isDat x = true) : isB .bool x = some (isBl x) := by unfold isB; rw [hasTy_dat h]
theorem isB_int {x : D} (h : isDat x = true) : isB .int x = some (isIntB x) := by unfold isB; rw [hasTy_dat h]
theorem isB_str {x : D} (h : isDat x = true) : isB .str x = some (isStr x) := by unfold isB; rw [hasTy_dat h]
theorem isNon_dat {x : D} (h : isDat x = true) : isNon x = some (isNo x) := by
  cases x <;> first
    | rfl
    | (rw [isDat] at h; cases h)
theorem okD_bl (b : Bool) : okD (.bl b) := ⟨by rw [isDat], by
  rw [toPy]
  simp [SeqAt.shaped, PyData.canLay0, PyData.depth]⟩
theorem okD_int (i : Int) : okD (.int i) := ⟨by rw [isDat], by
  rw [toPy]
  simp [SeqAt.shaped, PyData.canLay0, PyData.depth]⟩
theorem okD_non : okD .non := ⟨by rw [isDat], by
  rw [toPy]
  simp [SeqAt.shaped, PyData.canLay0, PyData.depth]⟩
theorem okD_str {x : Str} (h : PyData.canLay0 (.str x) = true) : okD (.str x) := ⟨by rw [isDat], by
  rw [toPy]
  simp [SeqAt.shaped, h, PyData.depth]⟩
theorem eqD_int (i j : Int) : eqD (.int i) (.int j) = (i == j) := by simp [eqD, toPy, PyData.eqv]
theorem eqD_bl (i j : Bool) : eqD (.bl i) (.bl j) = (i == j) := by simp [eqD, toPy, PyData.eqv]
theorem eqD_str (i j : Str) : eqD (.str i) (.str j) = (i == j) := by simp [eqD, toPy, PyData.eqv]
theorem eqD_non : eqD .non .non = true := by simp [eqD, toPy, PyData.eqv]
/-! ### a loop over a range, by places -/
theorem rangeD_nat (n : Nat) : rangeD 0 (n : Int) = (List.range n).map fun k : Nat => D.int (k : Int) := by
  unfold rangeD
  simp
/-! the same data, of the same kinds -/
mutual
def sameD : D → D → Bool
  | .non, .non => true
  | .bl a, .bl b => a == b
  | .int a, .int b => a == b
  | .str a, .str b => a == b
  | .tup a, .tup b => sameDs a b
  | .lst a, .lst b => sameDs a b
  | _, _ => false
def sameDs : List D → List D → Bool
  | [], [] => true
  | a :: r, b :: s => sameD a b && sameDs r s
  | _, _ => false
end
/-! how deep data lies -/
mutual
def depD : D → Nat
  | .tup l => depDs l + 1
  | .lst l => depDs l + 1
  | .ins _ _ l => depDs l + 1
  | _ => 0
def depDs : List D → Nat
  | [] => 0
  | d :: l => max (depD d) (depDs l)
end
/-! every text within can be compared -/
mutual
def txtOk : D → Prop
  | .str x => PyData.canLay0 (.str x) = true
  | .tup l => l.length ≤ sizeLine ∧ txtOks l
  | .lst l => l.length ≤ sizeLine ∧ txtOks l
  | .ins _ _ _ => False
  | .any => False
  | _ => True
def txtOks : List D → Prop
  | [] => True
  | d :: l => txtOk d ∧ txtOks l
end
def F_same (n : Nat) : FM := fun rs Qd => ∃ a d, rs = [.val a, .val d] ∧ depD d < n ∧ isDat a = true ∧ txtOk a ∧ isDat d = true ∧ txtOk d ∧ Qd (.val (.bl (sameD a d)))
theorem sameDs_length : ∀ {a b : List D}, sameDs a b = true → a.length = b.length
  | [], [], _ => rfl
  | [], _ :: _, h => by simp [sameDs] at h
  | _ :: _, [], h => by simp [sameDs] at h
  | _ :: r, _ :: s, h => by
    rw [sameDs, Bool.and_eq_true] at h
    rw [List.length_cons, List.length_cons, sameDs_length h.2]
theorem isDats_get {l : List D} {i : Nat} {d : D} (h : isDats l = true) (e : l[i]? = some d) : isDat d = true := by
  induction l generalizing i with
  | nil => simp at e
  | cons x r ih =>
    rw [isDats, Bool.and_eq_true] at h
    cases i with
    | zero => simp at e; subst e; exact h.1
    | succ i => exact ih h.2 (by simpa using e)
theorem txtOks_get {l : List D} {i : Nat} {d : D} (h : txtOks l) (e : l[i]? = some d) : txtOk d := by
  induction l generalizing i with
  | nil => simp at e
  | cons x r ih =>
    rw [txtOks] at h
    cases i with
    | zero => simp at e; subst e; exact h.1
    | succ i => exact ih h.2 (by simpa using e)
theorem depDs_get {l : List D} {i : Nat} {d : D} (e : l[i]? = some d) : depD d ≤ depDs l := by
  induction l generalizing i with
  | nil => simp at e
  | cons x r ih =>
    rw [depDs]
    cases i with
    | zero => simp at e; subst e; omega
    | succ i => have := ih (i := i) (by simpa using e); omega
/-- the first k places are the same -/
theorem sameDs_iff {a b : List D} (hl : a.length = b.length) : sameDs a b = true ↔ ∀ (i : Nat) (x y : D), a[i]? = some x → b[i]? = some y → sameD x y = true := by
  induction a generalizing b with
  | nil =>
    cases b with
    | nil => simp [sameDs]
    | cons y s => cases hl
  | cons x r ih =>
    cases b with
    | nil => cases hl
    | cons y s =>
      rw [sameDs, Bool.and_eq_true, ih (by simpa using hl)]
      constructor
      · rintro ⟨h1, h2⟩ i u v e1 e2
        cases i with
        | zero => simp at e1 e2; subst e1; subst e2; exact h1
        | succ i => exact h2 i u v (by simpa using e1) (by simpa using e2)
      · intro h
        exact ⟨h 0 x y rfl rfl, fun i u v e1 e2 => h (i + 1) u v (by simpa using e1) (by simpa using e2)⟩
end DL
end

section
set_option Elab.async false
set_option linter.all false
set_option maxRecDepth 100000
set_option maxHeartbeats 4000000
namespace DL
open PySem PySem.Spec PyProof.Rows L2
open Evl (Ex)
/-! ### walking through a meaning, from the head -/
section
variable {E : DEn} {env : En} {Q : En → R → Prop} {QT : En → Bool → Prop} {QA : En → List R → Prop} {QI : En → List D → Prop} {Qe : En → Prop} {QR : R → Prop} {m n mi : DM} {a b c d : DSM} {t u : DTM} {na : DAM} {i j : Nat} {x y : D} {g : DGM}
theorem s_seq (h : a { E with nx := b E } env) : dSeq a b E env := h
theorem s_next (h : E.nx env) : dNext E env := h
theorem s_ifs (h : t env fun env1 c => dIte c (a E env1) (b E env1)) : dIfS t a b E env := h
theorem s_iteT {p q : Prop} (h : p) : dIte true p q := ⟨fun _ => h, (fun e => nomatch e)⟩
theorem s_iteF {p q : Prop} (h : q) : dIte false p q := ⟨(fun e => nomatch e), fun _ => h⟩
theorem s_ite1 {c : Bool} {p q : Prop} (e : c = true) (h : p) : dIte c p q := ⟨fun _ => h, (fun e2 => nomatch e.symm.trans e2)⟩
theorem s_ite0 {c : Bool} {p q : Prop} (e : c = false) (h : q) : dIte c p q := ⟨(fun e2 => nomatch e.symm.trans e2), fun _ => h⟩
theorem s_ret (h : m env fun env' r => match r with
  | .val d => E.rt env' (.val d)
  | .own l => E.rt env' (.own l)
  | .brw _ l => E.rt env' (.own l)
  | .pool => E.rt env' .pool) : dRet m E env := h
theorem s_retN (h : E.rt env (.val .non)) : dRetN E env := h
theorem s_brk (h : E.bk env) : dBrk E env := h
theorem s_cnt (h : E.ct env) : dCnt E env := h
theorem s_drop (h : m env fun env' _ => E.nx env') : dDrop m E env := h
theorem s_set (h : m env fun env' r => match r with
  | .val d => E.nx (env'.set i (some (.val d)))
  | .own l => E.nx (env'.set i (some (.own l)))
  | .brw j l => E.nx ((env'.set j (some (.val (.lst l)))).set i (some (.val (.lst l))))
  | .pool => E.nx (env'.set i (some .pool))) : dSet i m E env := h
theorem s_or (h : t env fun env1 c => dIte c (QT env1 true) (u env1 QT)) : dOr t u env QT := h
theorem s_and (h : t env fun env1 c => dIte c (u env1 QT) (QT env1 false)) : dAnd t u env QT := h
theorem s_not (h : t env fun env1 c => QT env1 (!c)) : dNot t env QT := h
theorem s_tru (h : m env fun env1 r => ∃ b, truD r.data = some b ∧ QT env1 b) : dTru m env QT := h
theorem s_B (h : m env fun env1 r => match r with
  | .val (.bl c) => QT env1 c
  | _ => False) : dB m env QT := h
theorem s_isi {T : BT} (h : m env fun env' r => mIsi T r.data fun q => Q env' q) : dIsi T m env Q := h
theorem s_var {d : D} (h : Q env (.val d)) (e : env[i]? = some (some (.val d)) := by rfl) : dVar i env Q := by
  unfold dVar
  rw [e]
  exact h
theorem s_varO {l : List D} (h : Q env (.brw i l)) (e : env[i]? = some (some (.own l)) := by rfl) : dVar i env Q := by
  unfold dVar
  rw [e]
  exact h
theorem s_varP (h : Q env .pool) (e : env[i]? = some (some .pool) := by rfl) : dVar i env Q := by
  unfold dVar
  rw [e]
  exact h
theorem s_c (h : Q env (.val x)) : dC x env Q := h
theorem s_op {o : M2} (h : m env fun env1 r1 => n env1 fun env2 r2 => o r1.data r2.data fun q => Q env2 q) : dOp o m n env Q := h
theorem s_un {o : M1} (h : m env fun env1 r1 => o r1.data fun q => Q env1 q) : dUn o m env Q := h
theorem s_cb {o : MA} (h : na env fun env' rs => o (rs.map R.data) fun q => Q env' q) : dCB o na env Q := h
theorem s_nil (h : QA env []) : dNil env QA := h
theorem s_cons (h : m env fun env1 r => na env1 fun env2 rs => QA env2 (r :: rs)) : dCons m na env QA := h
theorem s_keep (h : m env fun env' r => match r with
  | .val d => Q env' (.val d)
  | .own l => Q env' (.val (.lst l))
  | .brw i l => Q (env'.set i (some (.val (.lst l)))) (.val (.lst l))
  | .pool => Q env' .pool) : dKeep m env Q := h
theorem s_call {F : FM} (h : na env fun env' rs => argsOk rs = true ∧ F rs fun r => match r with
  | .brw _ _ => False
  | r => Q env' r) : dCall F na env Q := h
theorem s_andV (h : m env fun env1 r => match r with
  | .val (.bl c) => dIte c (n env1 Q) (Q env1 (.val (.bl false)))
  | _ => False) : dAndV m n env Q := h
theorem s_orV (h : m env fun env1 r => match r with
  | .val (.bl c) => dIte c (Q env1 (.val (.bl true))) (n env1 Q)
  | _ => False) : dOrV m n env Q := h
theorem s_notV (h : m env fun env1 r => match r with
  | .val (.bl c) => Q env1 (.val (.bl (!c)))
  | _ => False) : dNotV m env Q := h
theorem s_if (h : t env fun env1 c => dIte c (m env1 Q) (n env1 Q)) : dIf t m n env Q := h
theorem s_tup (h : na env fun env' rs => ∃ ds, vals rs = some ds ∧ ds.length ≤ sizeLine ∧ Q env' (.val (.tup ds))) : dTup na env Q := h
theorem s_lst (h : na env fun env' rs => ∃ ds, vals rs = some ds ∧ ds.length ≤ sizeLine ∧ Q env' (.own ds)) : dLst na env Q := h
theorem s_for {mi : DIM} (h : mi env fun env' ds => dLoop g a E ds env') : dFor mi g a E env := h
theorem s_rng1 (h : m env fun env' r => match r with
  | .val (.int j) => -(2 ^ 62) ≤ j ∧ j < 2 ^ 62 ∧ QI env' (rangeD 0 j)
  | _ => False) : dRng1 m env QI := h
theorem s_rng2 (h : m env fun env1 r => n env1 fun env2 q => match r, q with
  | .val (.int i), .val (.int j) => (-(2 ^ 62) ≤ i ∧ i < 2 ^ 62 ∧ -(2 ^ 62) ≤ j ∧ j < 2 ^ 62) ∧ QI env2 (rangeD i j)
  | _, _ => False) : dRng2 m n env QI := h
theorem s_over (h : dKeep m env fun env' r => match r with
  | .val (.lst l) => QI env' l
  | .val (.tup l) => QI env' l
  | _ => False) : dOver m env QI := h
theorem s_rev (h : dKeep m env fun env' r => match r with
  | .val (.lst l) => QI env' l.reverse
  | .val (.tup l) => QI env' l.reverse
  | _ => False) : dRev m env QI := h
theorem s_enum (h : dKeep m env fun env' r => match r with
  | .val (.lst l) => QI env' (enumD 0 l)
  | _ => False) : dEnum m env QI := h
theorem s_zip (h : dKeep m env fun env1 r => dKeep n env1 fun env2 q => match r, q with
  | .val (.lst l), .val (.lst l2) => QI env2 (zipD l l2)
  | _, _ => False) : dZip m n env QI := h
theorem s_name (h : Qe (env.set i (some (.val x)))) : dName i x env Qe := h
theorem s_tg {k : Nat} {hg : DGsM} {l : List D} (h : l.length = k ∧ hg l env Qe) : dTg k hg (.tup l) env Qe := h
theorem s_tcons {hg : DGsM} {r : List D} (h : g x env fun env' => hg r env' Qe) : dTCons g hg (x :: r) env Qe := h
theorem s_tnil (h : Qe env) : dTNil [] env Qe := h
theorem s_aug {o : M2} {z : D} (h : m env fun env1 r => o z r.data fun q => match q with
  | .val d => E.nx (env1.set i (some (.val d)))
  | _ => False) (e : env[i]? = some (some (.val z)) := by rfl) : dAug i o m E env := ⟨z, e, h⟩
theorem s_app {l : List D} (h : dKeep m env fun env1 r => match r, env1[i]? with
    | .val d, some (some (.own l)) => l.length < sizeLine ∧ E.nx (env1.set i (some (.own (l ++ [d]))))
    | _, _ => False) (e : env[i]? = some (some (.own l)) := by rfl) : dApp i m E env := by
  unfold dApp
  rw [e]
  exact h
theorem s_put (h : dKeep m env fun env1 r => (∃ l0, Has env1 i (.own l0)) ∧ mi env1 fun env2 k => match r, k, env2[i]? with
  | .val d, .val (.int j), some (some (.own l)) => ∃ n, ixN l.length j = some n ∧ E.nx (env2.set i (some (.own (l.set n d))))
  | _, _, _ => False) : dPut i mi m E env := h
theorem s_par (h : na env fun env' rs => match rs with
  | [.val d, .val d2] => E.nx ((env'.set i (some (.val d))).set j (some (.val d2)))
  | _ => False) : dPar i j na E env := h
theorem s_asg (h : dKeep m env fun env' r => match r with
  | .val d => g d env' E.nx
  | _ => False) : dAsg g m E env := h
theorem s_loopN {a : DSM} (h : E.nx env) : dLoop g a E [] env := h
theorem s_loopC {a : DSM} {r : List D} (h : g x env fun env' => a { E with nx := dLoop g a E r, ct := dLoop g a E r, bk := E.nx } env') : dLoop g a E (x :: r) env := h
theorem s_sl {l h' : DOM} (h : m env fun env1 r => l env1 fun env2 lo => h' env2 fun env3 hi => mSl r.data lo hi fun q => Q env3 q) : dSl m l h' env Q := h
theorem s_noPart {QO : En → Option Int → Prop} (h : QO env none) : dNoPart env QO := h
theorem s_part {QO : En → Option Int → Prop} (h : m env fun env' r => match r with
  | .val (.int i) => QO env' (some i)
  | _ => False) : dPart m env QO := h
theorem s_m1 {o : M2} (h : m env fun env1 x => (∃ z, x.data = .str z) ∧ n env1 fun env2 y => o x.data y.data fun q => Q env2 q) : dM1 o m n env Q := h
theorem s_chain {o o' : M2} {k : DM} (h : m env fun env1 x => n env1 fun env2 y => o x.data y.data fun q => match q with
  | .val (.bl c) => dIte c (k env2 fun env3 z => o' y.data z.data fun q => Q env3 q) (Q env2 (.val (.bl false)))
  | _ => False) : dChain o o' m n k env Q := h
theorem s_fld {C : Addr} {f : Str} (h : m env fun env' r => match r with
  | .val (.ins C' ns l) => C' = C ∧ ∃ d, lookF f ns l = some d ∧ Q env' (.val d)
  | _ => False) : dFld C f m env Q := h
theorem s_lc {mi : DIM} {vs : List Nat} (h : mi env fun env1 ds => plainAt env1 vs = true ∧ dLcL vs g t m ds (wipeD env1 vs) [] fun env2 acc => Q (backD env1 env2 vs) (.own acc)) : dLc mi vs g t m env Q := h
theorem s_yes (h : QT env true) : dYes env QT := h
theorem s_lcN {vs : List Nat} {acc : List D} {Ql : En → List D → Prop} (h : Ql env acc) : dLcL vs g t m [] env acc Ql := h
theorem s_lcC {vs : List Nat} {acc r : List D} {Ql : En → List D → Prop} (h : g x env (dLcT t m (fun env acc => dLcL vs g t m r (wipeD env vs) acc Ql) acc)) : dLcL vs g t m (x :: r) env acc Ql := h
theorem s_lcT {acc : List D} {nxt : En → List D → Prop} (h : t env fun env2 b => dIte b
      (dKeep m env2 fun env3 q => match q with
        | .val x => acc.length < sizeLine ∧ nxt env3 (acc ++ [x])
        | _ => False)
      (nxt env2 acc)) : dLcT t m nxt acc env := h
/-! values -/
theorem v_eq {c : Bool} (h1 : okD x ∧ okD y) (h : QR (.val (.bl c))) (e : eqD x y = c := by first | rfl | exact eqD_int _ _ | exact eqD_bl _ _ | exact eqD_str _ _) : mEq x y QR := ⟨h1, e ▸ h⟩
theorem v_ne {c : Bool} (h1 : okD x ∧ okD y) (h : QR (.val (.bl (!c)))) (e : eqD x y = c := by first | rfl | exact eqD_int _ _ | exact eqD_bl _ _ | exact eqD_str _ _) : mNe x y QR := ⟨h1, e ▸ h⟩
theorem v_is {c : Bool} (h : QR (.val (.bl c))) (e : isNon x = some c := by rfl) : mIs x .non QR := ⟨c, e, h⟩
theorem v_isN {c : Bool} (h : QR (.val (.bl (!c)))) (e : isNon x = some c := by rfl) : mIsN x .non QR := ⟨c, e, h⟩
theorem v_lenL {l : List D} (h : QR (.val (.int l.length))) : mLen [.lst l] QR := h
theorem v_lenT {l : List D} (h : QR (.val (.int l.length))) : mLen [.tup l] QR := h
theorem v_lenS {z : Str} (h : z.length ≤ sizeLine) (k : QR (.val (.int z.length))) : mLen [.str z] QR := ⟨h, k⟩
theorem v_addI {i j : Int} (h : QR (.val (.int (i + j)))) : mAdd (.int i) (.int j) QR := h
theorem v_addL {l r : List D} (e : l.length + r.length ≤ sizeLine) (h : QR (.own (l ++ r))) : mAdd (.lst l) (.lst r) QR := ⟨e, h⟩
theorem v_addS {l r : Str} (e : l.length + r.length ≤ sizeLine) (h : QR (.val (.str (l ++ r)))) : mAdd (.str l) (.str r) QR := ⟨e, h⟩
theorem v_addA {i j : Int} (h : QR (.val (.int (i + j)))) : mAddI (.int i) (.int j) QR := h
theorem v_sub {i j : Int} (h : QR (.val (.int (i - j)))) : mSub (.int i) (.int j) QR := h
theorem v_mod {i j : Int} (e : 0 < j) (h : QR (.val (.int (i % j)))) : mMod (.int i) (.int j) QR := ⟨e, h⟩
theorem v_cmp {p : List Nat → List Nat → Bool} {f : Int → Int → Bool} {i j : Int} (h : QR (.val (.bl (f i j)))) : m2S p f (.int i) (.int j) QR := h
theorem v_cmpS {p : List Nat → List Nat → Bool} {f : Int → Int → Bool} {i j : Str} (h : QR (.val (.bl (p i.cps.toList j.cps.toList)))) : m2S p f (.str i) (.str j) QR := h
theorem v_ixL {l : List D} {i : Int} {z : D} (e : atI l i = some z) (h : QR (.val z)) : mIx (.lst l) (.int i) QR := ⟨z, e, h⟩
theorem v_ixT {l : List D} {i : Int} {z : D} (e : atI l i = some z) (h : QR (.val z)) : mIx (.tup l) (.int i) QR := ⟨z, e, h⟩
theorem v_intI {i : Int} (h : QR (.val (.int i))) : mInt [.int i] QR := h
theorem v_intB {b : Bool} (h : QR (.val (.int (if b then 1 else 0)))) : mInt [.bl b] QR := h
theorem v_list {l : List D} (h : QR (.own l)) : mList [.lst l] QR := h
theorem v_listT {l : List D} (h : QR (.own l)) : mList [.tup l] QR := h
theorem v_tuple {l : List D} (h : QR (.val (.tup l))) : mTuple [.lst l] QR := h
theorem v_tupleT {l : List D} (h : QR (.val (.tup l))) : mTuple [.tup l] QR := h
theorem v_slL {l : List D} {lo hi : Option Int} (h : QR (.own (cutD l lo hi))) : mSl (.lst l) lo hi QR := h
end
end DL
end

section
set_option Elab.async false
set_option linter.all false
set_option maxRecDepth 100000
set_option maxHeartbeats 4000000
namespace DL
open PySem PySem.Spec PyProof.Rows L2
open Evl (Ex)
/-! ### places, by natural numbers -/
theorem atI_nat {α : Type} {l : List α} {k : Nat} {d : α} (h : l[k]? = some d) : atI l (k : Int) = some d := by
  have hk : k < l.length := by
    rcases Nat.lt_or_ge k l.length with q | q
    · exact q
    · rw [List.getElem?_eq_none q] at h
      cases h
  unfold atI ixN
  rw [if_pos (by omega), if_pos (by omega)]
  exact h
theorem rangeD_nat' (n : Nat) : rangeD 0 (n : Int) = (List.range' 0 n).map fun k : Nat => D.int (k : Int) := by
  rw [rangeD_nat, List.range_eq_range']
theorem sameDs_false {a b : List D} (h : a.length ≠ b.length) : sameDs a b = false := by
  cases q : sameDs a b with
  | false => rfl
  | true => exact absurd (sameDs_length q) h
theorem neLen {m n : Nat} : (!eqD (.int (m : Int)) (.int (n : Int))) = true ↔ m ≠ n := by
  rw [eqD_int]
  simp
  omega
theorem neLen' {m n : Nat} : (!eqD (.int (m : Int)) (.int (n : Int))) = false ↔ m = n := by
  rw [eqD_int]
  simp
  omega
/-- a list or a tuple with these parts -/
def SqD (x : D) (l : List D) : Prop := x = .lst l ∨ x = .tup l
theorem SqD.ix {x : D} {l : List D} {k : Nat} {d : D} {Q : R → Prop} (h : SqD x l) (e : l[k]? = some d) (q : Q (.val d)) : mIx x (.int k) Q := by
  rcases h with rfl | rfl
  · exact ⟨d, atI_nat e, q⟩
  · exact ⟨d, atI_nat e, q⟩
theorem mIx_same {x : D} {la : List D} (h : SqD x la) (dx : isDat x = true) (tx : txtOk x) : isDats la = true ∧ txtOks la := by
  rcases h with rfl | rfl
  · exact ⟨dx, tx.2⟩
  · exact ⟨dx, tx.2⟩
end DL
end

section
set_option Elab.async false
set_option linter.all false
set_option maxRecDepth 100000
set_option maxHeartbeats 4000000
namespace DL
open PySem PySem.Spec PyProof.Rows L2
open Evl (Ex)
/-! ### taking away from a name's own list -/
theorem Reps.dropLast {K : PySem.W.Frag} {S : Hp} {vs : List V} {ds : List D} (h : Reps K S vs ds) : Reps K S vs.dropLast ds.dropLast := by
  rw [List.dropLast_eq_take, List.dropLast_eq_take, h.length]
  exact h.take _
/-- an expression that may change the names' own lists -/
abbrev PM := En → (En → D → Prop) → (Xd → Prop) → Prop
def DP (X : Cx) (e : Expr) (m : PM) (t : TE) : Prop := PE X e t ∧ ∀ (B : Bs) (S H : Hp) (env : En) (σ : L2.St) (Q : En → D → Prop) (Qx : Xd → Prop) (Qv : VK), SR X.K B S H env σ → m env Q Qx → XcOk X B σ Qx →
  (∀ v d H' S' env', SR X.K B S' H' env' σ → Rep X.K S' v d → Q env' d → Qv v H') → t σ H Qv
/-- xs.pop() -/
def dPopL (i : Nat) : PM := fun env Q _ => match env[i]? with
  | some (some (.own l)) => ∃ d, l[l.length - 1]? = some d ∧ Q (env.set i (some (.own l.dropLast))) d
  | _ => False
/-- xs.pop(0) -/
def dPopF (i : Nat) : PM := fun env Q _ => match env[i]? with
  | some (some (.own (d :: l))) => Q (env.set i (some (.own l))) d
  | _ => False
/-- int(..) of such -/
def dPInt (m : PM) : PM := fun env Q Qx => m env (fun env' d => mInt [d] fun r => match r with
  | .val d' => Q env' d'
  | _ => False) Qx
section
variable {X : Cx} {x : Str} {xp apos cpos p pos : Pos} {i j : Nat} {a b : Expr} {m : PM} {ta : TE}
theorem dp_popL (hv : PE X (.Name x xp) (tVar i)) (hbase : attributeBase (.Name x xp) "pop" X.env (eval (.Name x xp) X.env) = eval (.Name x xp) X.env := by rfl) (hline : (apos.endLine == cpos.line) = true := by rfl) :
    DP X (.Call (.Attribute (.Name x xp) "pop" apos) [] [] cpos) (dPopL i) (tBM0 X.K "list" rPop (tVar i)) := by
  refine ⟨pe_bm0 PySem.F.plainAttrs_list PySem.F.slot_list_pop PySem.F.type_list_pop mt_pop hv hbase hline, fun B S H env σ Q Qx Qv s q xk k => ?_⟩
  unfold dPopL at q
  split at q
  · rename_i l c
    obtain ⟨d, q1, q2⟩ := q
    obtain ⟨p, vs, hp, p1, p2, p3, p4⟩ := s.own i l c
    obtain ⟨v, v1, v2⟩ := p4.get q1
    refine ⟨.ref p, hp, .inl ⟨rfl, _, SqL.of p3⟩, p, vs, v, rfl, rfl, p3, by rw [p4.length]; exact v1, ?_⟩
    exact k v d _ S _ (s.put c hp p4.dropLast) v2 q2
  · exact q.elim
theorem dp_popF (hv : PE X (.Name x xp) (tVar i)) (hb : PE X b (tC (.int 0))) (hbase : attributeBase (.Name x xp) "pop" X.env (eval (.Name x xp) X.env) = eval (.Name x xp) X.env := by rfl) (hline : (apos.endLine == cpos.line) = true := by rfl)
    (hfew : ((backTo cpos (starEach [b] X.env)).all (fun x => !x.1) && (backToKw cpos (keywordEach [] X.env)).all (fun x => x.1.isSome)
      && decide (([b] : List Expr).length + ([] : List Keyword).length + (if ([] : List Keyword).isEmpty then 0 else 1) < 30)) = true := by rfl)
    (hs : starEach [b] X.env = (false, eval (b) X.env) :: starEach [] X.env := by rfl) :
    DP X (.Call (.Attribute (.Name x xp) "pop" apos) [b] [] cpos) (dPopF i) (tBM X.K "list" rPopAt (tVar i) (tCons (tC (.int 0)) tNil)) := by
  refine ⟨pe_bm PySem.F.plainAttrs_list PySem.F.slot_list_pop PySem.F.type_list_pop mt_popAt hv (pa_cons hb pa_nil hs) hbase hfew hline hs, fun B S H env σ Q Qx Qv s q xk k => ?_⟩
  unfold dPopF at q
  split at q
  · rename_i d l c
    obtain ⟨p, vs, hp, p1, p2, p3, p4⟩ := s.own i _ c
    cases p4 with
    | cons v2 r =>
      rename_i v vs'
      refine ⟨.ref p, hp, .inl ⟨rfl, _, SqL.of p3⟩, ?_⟩
      refine ⟨p, v :: vs', 0, 0, v, rfl, rfl, p3, by decide, by decide, ?_, rfl, ?_⟩
      · unfold seqIndex?
        simp
      · exact k v d _ S _ (s.put c hp (vs' := vs') r) v2 q
  · exact q.elim
theorem dp_int (hd : DP X a m ta) (hg : Gl X "int") (hm : X.mg "int" = none) (hv : bootBuiltins "int" = some (.type "int"))
    (he : starEach (a :: []) X.env = (false, eval a X.env) :: starEach [] X.env := by rfl) (hpl : (backTo pos (starEach [] X.env)).any (·.1) = false := by rfl) :
    DP X (.Call (.Name "int" p) [a] [] pos) (dPInt m) (tCB rInt (tCons ta tNil)) := by
  refine ⟨pe_callTy call_intA hg hm hv (pa_cons hd.1 pa_nil he) (by decide) (by decide) he hpl, fun B S H env σ Q Qx Qv s q xk k => ?_⟩
  refine hd.2 B S H env σ _ _ _ s q xk fun v d H1 S1 env1 s1 r1 q1 => ?_
  refine cd_int S1 H1 [v] [d] _ _ s1.ex (.cons (.inl r1) .nil) q1 fun u H2 S2 r n q2 => ?_
  cases r with
  | val d' => exact k u d' H2 S2 env1 (s1.nw n.nw) n.2 q2
  | own l => exact q2.elim
  | brw i l => exact q2.elim
  | pool => exact q2.elim
/-! ### statements with such -/
def dSetP (i : Nat) (m : PM) : DSM := fun E env => m env (fun env' d => E.nx (env'.set i (some (.val d)))) E.xc
def dRetP (m : PM) : DSM := fun E env => m env (fun env' d => E.rt env' (.val d)) E.xc
def dAsgP (g : DGM) (m : PM) : DSM := fun E env => m env (fun env' d => g d env' E.nx) E.xc
def dAppP (j : Nat) (m : PM) : DSM := fun E env => (∃ l0, Has env j (.own l0)) ∧ m env (fun env' d => match env'[j]? with
  | some (some (.own l)) => l.length < sizeLine ∧ E.nx (env'.set j (some (.own (l ++ [d]))))
  | _ => False) E.xc
theorem ds_setP {pos' : Pos} (ha : DP X a m ta) (hN : X.N.Nodup) (hi : X.N[i]? = some x) (hx : Loc X.env.scope x) (hs : swapsWith a (some (.Name x pos')) pos.line X.env = pure false := by rfl)
    (hf : X.fn x = true ∨ X.env.scope.names.lookup x = some .local := by first | exact .inl rfl | exact .inr rfl | assumption) : DS X (.Assign [.Name x pos'] a pos) (dSetP i m) (tAsg ta (gName i)) := by
  refine ⟨ps_set hN hi hx ha.1 hs hf, fun B S H env σ E D s q e => ?_⟩
  exact ha.2 B S H env σ _ _ _ s q (e.xc σ) fun v d H' S' env' s' r q' => e.nx S' H' _ _ (s'.storeD r) q'
theorem ds_retP (ha : DP X a m ta) : DS X (.Return (some a) pos) (dRetP m) (tRet ta) := by
  refine ⟨ps_ret ha.1, fun B S H env σ E D s q e => ?_⟩
  exact ha.2 B S H env σ _ _ _ s q (e.xc σ) fun v d H' S' env' s' r q' => e.rt S' H' env' σ (.val d) v s' r q'
theorem ds_asgP {tg : Expr} {g : DGM} {tg1 : TG} (ha : DP X a m ta) (hg : DG X tg g tg1) (hs : swapsWithSole [tg] a pos.line X.env = pure false := by rfl) (hw : swappedStores [tg] a X.env = pure none := by rfl)
    (h1 : (assignEach [tg] X.env).map (·.2) = [assign tg X.env] := by rfl) : DS X (.Assign [tg] a pos) (dAsgP g m) (tAsg ta tg1) := by
  refine ⟨ps_asg ha.1 hg.1 hs hw h1, fun B S H env σ E D s q e => ?_⟩
  exact ha.2 B S H env σ _ _ _ s q (e.xc σ) fun v d H' S' env' s' r q' => hg.2 B S' H' env' σ v d _ _ s' r q' fun env2 σ2 s2 q2 => e.nx S' H' env2 σ2 s2 q2
theorem ds_appP (hv : PE X (.Name x xp) (tVar j)) (ha : DP X a m ta)
    (hbase : attributeBase (.Name x xp) "append" X.env (eval (.Name x xp) X.env) = eval (.Name x xp) X.env := by rfl)
    (hfew : ((backTo cpos (starEach (a :: []) X.env)).all (fun x => !x.1) && (backToKw cpos (keywordEach [] X.env)).all (fun x => x.1.isSome)
      && decide ((a :: []).length + ([] : List Keyword).length + (if ([] : List Keyword).isEmpty then 0 else 1) < 30)) = true := by rfl)
    (hline : (apos.endLine == cpos.line) = true := by rfl) (hs : starEach (a :: []) X.env = (false, eval a X.env) :: starEach [] X.env := by rfl) (hplain : (backTo cpos (starEach [] X.env)).any (·.1) = false := by rfl)
    (hsw : swapsWith (.Call (.Attribute (.Name x xp) "append" apos) [a] [] cpos) none pos.line X.env = pure false := by rfl) : DS X (.Expr (.Call (.Attribute (.Name x xp) "append" apos) [a] [] cpos) pos) (dAppP j m) (tDrop (tBM X.K "list" rAppend (tVar j) (tCons ta tNil))) := by
  refine ⟨ps_expr (pe_bm PySem.F.plainAttrs_list PySem.F.slot_list_append PySem.F.type_list_append mt_append hv (pa_cons ha.1 pa_nil hs) hbase hfew hline hs hplain) hsw, fun B S H env σ E D s q e => ?_⟩
  obtain ⟨⟨l0, c0⟩, q⟩ := q
  obtain ⟨p, vs, hp, p1, p2, p3, p4⟩ := s.own j l0 c0
  refine ⟨.ref p, hp, .inl ⟨rfl, _, SqL.of p3⟩, ?_⟩
  refine ha.2 B S H env σ _ _ _ s q (e.xc σ) fun v d H' S' env' s' r q' => ?_
  split at q'
  · rename_i l c
    obtain ⟨p', ws, y1, y2, y3, y4, y5⟩ := s'.own j l c
    cases Slt.ref hp y1
    refine ⟨p, ws, v, rfl, rfl, y4, by rw [y5.length]; exact q'.1, ?_⟩
    exact e.nx S' _ _ σ (s'.put c hp (y5.append (.cons r .nil))) q'.2
  · exact q'.elim
/-! ### xs.extend(list) -/
def dExt (i : Nat) (m : DM) : DSM := fun E env => (∃ l0, Has env i (.own l0)) ∧ m env fun env' r => match r.data, env'[i]? with
  | .lst l2, some (some (.own l)) => l.length + l2.length ≤ sizeLine ∧ E.nx (env'.set i (some (.own (l ++ l2))))
  | _, _ => False
theorem ds_ext {ma : DM} (hv : PE X (.Name x xp) (tVar i)) (ha : DE X a ma ta)
    (hbase : attributeBase (.Name x xp) "extend" X.env (eval (.Name x xp) X.env) = eval (.Name x xp) X.env := by rfl)
    (hfew : ((backTo cpos (starEach (a :: []) X.env)).all (fun x => !x.1) && (backToKw cpos (keywordEach [] X.env)).all (fun x => x.1.isSome)
      && decide ((a :: []).length + ([] : List Keyword).length + (if ([] : List Keyword).isEmpty then 0 else 1) < 30)) = true := by rfl)
    (hline : (apos.endLine == cpos.line) = true := by rfl) (hs : starEach (a :: []) X.env = (false, eval a X.env) :: starEach [] X.env := by rfl) (hplain : (backTo cpos (starEach [] X.env)).any (·.1) = false := by rfl)
    (hsw : swapsWith (.Call (.Attribute (.Name x xp) "extend" apos) [a] [] cpos) none pos.line X.env = pure false := by rfl) : DS X (.Expr (.Call (.Attribute (.Name x xp) "extend" apos) [a] [] cpos) pos) (dExt i ma) (tDrop (tBM X.K "list" rExtend (tVar i) (tCons ta tNil))) := by
  refine ⟨ps_expr (pe_bm PySem.F.plainAttrs_list PySem.F.slot_list_extend PySem.F.type_list_extend mt_extend hv (pa_cons ha.1 pa_nil hs) hbase hfew hline hs hplain) hsw, fun B S H env σ E D s q e => ?_⟩
  obtain ⟨⟨l0, c0⟩, q⟩ := q
  obtain ⟨p, vs, hp, p1, p2, p3, p4⟩ := s.own i l0 c0
  refine ⟨.ref p, hp, .inl ⟨rfl, _, SqL.of p3⟩, ?_⟩
  refine ha.2 B S H env σ _ _ s q fun v H' S' env' r z q' => ?_
  have zl := z.look1
  split at q'
  · rename_i l2 l c1 c
    rw [c1] at zl
    obtain ⟨b, zs, rfl, b1, b2⟩ := zl.lstH z.sr.ex
    obtain ⟨p', ws, y1, y2, y3, y4, y5⟩ := z.sr.own i l c
    cases Slt.ref hp y1
    refine ⟨p, b, ws, zs, rfl, rfl, y4, b1, by rw [y5.length, b2.length]; exact q'.1, ?_⟩
    exact e.nx S' _ _ σ (z.sr.put c hp (y5.append b2)) q'.2
  · exact q'.elim
end
end DL
end

section
set_option Elab.async false
set_option linter.all false
set_option maxRecDepth 100000
set_option maxHeartbeats 4000000
namespace HT
open PySem PySem.Spec PyProof.Rows
section
variable {prog : Program} {w : World} {A : Around} {E : Value → Shared → Prop} {s : Shared}
theorem turned_applied {sl : Addr} {vl vu vs : Value} {n : Nat} {Q : Int × Int × Nat → Shared → Prop} (hs : s.heap.IsSliceOf sl vl vu vs) (pl : IsPart vl none) (pu : IsPart vu none) (ps : IsPart vs (some (-1)))
    (h : Q ((n : Int) - 1, -1, n) s) : wpAny (model prog w) A (Builtin.Slice.sliceApplied (.ref sl) (pure (n : Int))) Q E s := by
  obtain ⟨os, hos, hcs, hds⟩ := id hs
  unfold Builtin.Slice.sliceApplied Builtin.Slice.sliceFields
  refine wpAny_bind (wpAny_bind (wpAny_field hos hds (x := vl) rfl (wpAny_bind (wpAny_field hos hds (x := vu) rfl (wpAny_bind (wpAny_field hos hds (x := vs) rfl (wpAny_pure ?_)))))))
  refine wpAny_bind (slicePart_ ps ?_)
  show wpAny _ _ (if ((-1 : Int) == 0) = true then _ else _) _ _ s
  rw [if_neg (by decide)]
  refine wpAny_bind (slicePart_ pl (wpAny_bind (slicePart_ pu (wpAny_bind (wpAny_pure ?_)))))
  have e1 : Builtin.Slice.sliceAdjust none none (-1) (n : Int) = ((n : Int) - 1, -1) := by
    unfold Builtin.Slice.sliceAdjust
    rfl
  have e2 : Builtin.Slice.slicePlaces ((n : Int) - 1) (-1) (-1) = n := by
    unfold Builtin.Slice.slicePlaces
    have h1 : ¬ ((-1 : Int) > 0) := by decide
    simp only [h1, if_false]
    by_cases c : (n : Int) - 1 > -1
    · rw [if_pos c, show (- -1 : Int) = 1 by decide, Int.ediv_one]
      omega
    · rw [if_neg c]
      omega
  show wpAny _ _ (match Builtin.Slice.sliceAdjust none none (-1) (n : Int) with | (lo, hi) => pure (lo, (-1 : Int), Builtin.Slice.slicePlaces lo hi (-1))) _ _ s
  rw [e1]
  show wpAny _ _ (pure ((n : Int) - 1, (-1 : Int), Builtin.Slice.slicePlaces ((n : Int) - 1) (-1) (-1))) _ _ s
  rw [e2]
  exact wpAny_pure h
theorem pick_same {α β : Type} {f g : α → Option β} : ∀ {l : List α}, (∀ k, k ∈ l → f k = g k) → l.filterMap f = l.filterMap g
  | [], _ => rfl
  | a :: l, h => by
    rw [List.filterMap_cons, List.filterMap_cons, h a (List.mem_cons_self ..), pick_same fun k hk => h k (List.mem_cons_of_mem _ hk)]
theorem turned_pick (xs : Array Value) : ((List.range xs.size).filterMap fun (k : Nat) => xs[((xs.size : Int) - 1 + (k : Int) * -1).toNat]?).toArray = xs.toList.reverse.toArray := by
  have e : (List.range xs.size).filterMap (fun (k : Nat) => xs[((xs.size : Int) - 1 + (k : Int) * -1).toNat]?) = ((List.range xs.size).map fun k => xs.size - 1 - k).filterMap (xs[·]?) := by
    rw [List.filterMap_map]
    apply pick_same
    intro k hk
    have hk := List.mem_range.mp hk
    have : ((xs.size : Int) - 1 + (k : Int) * -1).toNat = xs.size - 1 - k := by omega
    show xs[((xs.size : Int) - 1 + (k : Int) * -1).toNat]? = xs[xs.size - 1 - k]?
    rw [this]
  rw [e, PySem.W.krv_range, List.filterMap_reverse, PySem.W.krv_all]
theorem turned_tuple {t sl : Addr} {items : Array Value} {vl vu vs : Value} {Q : Value → Shared → Prop} (ht : IsTup s.heap t items) (hs : s.heap.IsSliceOf sl vl vu vs) (pl : IsPart vl none) (pu : IsPart vu none) (ps : IsPart vs (some (-1)))
    (h : Q (.ref s.heap.objs.size) { s with heap := s.heap.push { cls := .type "tuple", data := .seq items.toList.reverse.toArray } })
    (hsz : items.size ≤ sizeLine) : wpAny (model prog w) A (getItem (.ref t) (.ref sl)) Q E s := by
  have hrev : sizeOk (.seq items.toList.reverse.toArray) := by
    show items.toList.reverse.toArray.size ≤ sizeLine
    rw [List.size_toArray, List.length_reverse, Array.length_toList]
    exact hsz
  obtain ⟨os, hos, hcs, hds⟩ := id hs
  have hTs : s.TypeIs (.ref sl) "slice" := ⟨os, hos, hcs⟩
  unfold getItem
  try with_reducible refine wpAny_holding ?_
  first | refine wpAny_bind (wpAny_pure ?_) | skip
  refine wpAny_bind (wpAny_sequenceKey ht.typeIs (by decide) ?_)
  refine wpAny_bind (wpAny_callSpecial?_slot (name := Str.ofString "__getitem__") ht.typeIs PyProof.Rows.slot_tuple_getitem
    (wpAny_call_entry PyProof.Rows.slot_tuple_getitem ht.typeIs entry_tuple_getitem ?_ (args_tuple_getitem _ _)))
  show wpAny _ _ (Builtin.Tuple.tupleItemsOf (.ref t) >>= _) _ _ s
  refine wpAny_bind (tupleItemsOf_ ht ?_)
  refine wpAny_bind (wpAny_typeOf hTs ?_)
  rw [if_pos (by decide)]
  refine wpAny_bind (turned_applied hs pl pu ps ?_)
  have hno : ¬ (((items.size : Int) - 1 == 0 && (-1 : Int) == 1 && items.size == items.size) = true) := by
    intro q
    rw [Bool.and_eq_true, Bool.and_eq_true] at q
    exact absurd (eq_of_beq q.1.2) (by decide)
  show wpAny _ _ (if ((items.size : Int) - 1 == 0 && (-1 : Int) == 1 && items.size == items.size) = true then _ else _) _ _ s
  rw [if_neg hno, turned_pick]
  first
    | exact wpAny_bind (m := Builtin.Tuple.tupleExact _) (wpAny_newObj_type (wpAny_pure ⟨_, rfl, wpAny_pure h⟩) hrev)
    | exact wpAny_bind (m := Builtin.Tuple.tupleExact _) (wpAny_newObj_type (wpAny_bind (wpAny_pure (wpAny_pure ⟨_, rfl, wpAny_pure h⟩))) hrev)
    | exact wpAny_bind (wpAny_bind (m := Builtin.Tuple.tupleExact _) (wpAny_newObj_type (wpAny_pure (wpAny_pure ⟨_, rfl, wpAny_pure h⟩)) hrev))
    | exact wpAny_bind (wpAny_bind (m := Builtin.Tuple.tupleExact _) (wpAny_newObj_type (wpAny_pure ⟨_, rfl, wpAny_pure h⟩) hrev))
end
end HT
namespace PySem.AutoSeq1
theorem extendByTuple (l b : Addr) (items items2 : Array Value) (n n2 : Nat) (dd : Option Addr) (sl : Array (Option Value)) (h0 : ¬(!items.isEmpty && Builtin.List.listTooLong (items.size + items2.size)) = true) (h1 : items.size ≤ sizeLine) (h2 : items.size + items2.size ≤ sizeLine + 1) :
    Meets (Builtin.«list.extend» ⟨[.ref l, .ref b], []⟩) (fun _ R s => s.heap.get? l = some { cls := .type "list", dict := none, data := .seq items n, slots := #[] } ∧ s.heap.get? b = some { cls := .type "tuple", dict := dd, data := .seq items2 n2, slots := sl } ∧ R (.ok (.ret Value.none)) { s with heap := s.heap.update l (Obj.mapSeq fun x => x ++ items2), toks := s.toks }) :=
  .of_wp fun prog w A R s h => by
    obtain ⟨hp, g, d, tk, os⟩ := s
    obtain ⟨hl, hb, h⟩ := h
    have f1 := idx_int
    have f2 := sub_tuple_tuple
    have f3 := sub_list_list
    have f4 := sub_tuple_list
    have f5 := sub_list_tuple
    have hz' : (items ++ items2).size ≤ sizeLine + 1 := by rw [Array.size_append]; exact h2
    wp_walk using (wpAny_updateSeq hl rfl (hz := h1) (_hz' := hz')), wpAny_loadPart' hl, wpAny_loadPart' hb
    exact ⟨_, rfl, h⟩
end PySem.AutoSeq1
end

section
set_option Elab.async false
set_option linter.all false
set_option maxRecDepth 100000
set_option maxHeartbeats 4000000
namespace DL
open PySem PySem.Spec PyProof.Rows L2
open Evl (Ex)
section
variable {X : Cx}
/-- a tuple from its end -/
def tRevT (K : PySem.W.Frag) (te : TE) : TE := fun σ H Q => te σ H fun x H1 => ∃ a xs, x = .ref a ∧ SqT K H1 a xs ∧ ∀ p, H1 p = none → Q (.ref p) (upd H1 p (.tup xs.reverse))
theorem pe_revT {e : Expr} {te : TE} {k : Nat} {p1 p2 p3 pos : Pos} (he : PE X e te) : PE X (.Subscript e (.Slice none none (some (.UnaryOp .USub (.Constant (.int 1) k p1) p2)) p3) pos) (tRevT X.K te) := by
  refine ⟨fun pins s σ H Q I h => ?_⟩
  refine Subscript_ (thn (he.run pins s σ H _ I h) fun v s1 ⟨x, H1, I1, r1, a, xs, ex, hx, q⟩ => ?_)
  subst ex
  cases r1
  have step : PO X (some (.UnaryOp .USub (.Constant (.int 1) k p1) p2)) (tPart (tUn (rU fun i => .int (-i)) (tC (.int 1)))) := po_some (pe_un un_neg pe_int)
  refine wpAny_Slice (thn (po_none.run pins s1 σ H1 (fun o Hx => o = none ∧ Hx = H1) I1 ⟨rfl, rfl⟩) fun vl s2 ⟨l, H2, I2, pl, y1, y2⟩ => ?_)
  subst y1 y2
  refine thn (po_none.run pins s2 σ H2 (fun o Hx => o = none ∧ Hx = H2) I2 ⟨rfl, rfl⟩) fun vu s3 ⟨u, H3, I3, pu, y3, y4⟩ => ?_
  subst y3 y4
  refine thn (step.run pins s3 σ H3 (fun o Hx => o = some (-1) ∧ Hx = H3) I3 ⟨1, rfl, -1, rfl, rfl, rfl⟩) fun vs s4 ⟨o, H4, I4, ps, y5, y6⟩ => ?_
  subst y5 y6
  have I5 : Inv X pins σ H4 { s4 with heap := s4.heap.push { cls := .type "slice", data := .fields #[vl, vu, vs] } } := I4.kept (t' := s4.toks) fun b ob z => Heap.get?_push_of_some _ z
  obtain ⟨its, r, ht, hz⟩ := I5.tuple hx
  have hl := r.length
  show wpAny (model X.prog X.w) X.A (subscriptTail e (.Slice none none (some (.UnaryOp .USub (.Constant (.int 1) k p1) p2)) p3) (.ref a) (.ref s4.heap.objs.size)) (EP X pins σ Q) X.xe _
  refine tail_any (ops := [.ref a, .ref s4.heap.objs.size]) ht.typeIs (PyProof.Rows.slot_tuple_getitem.lookup) ?_ (by with_unfolding_all rfl)
  refine HT.turned_tuple ht (Heap.IsSliceOf.new _ vl vu vs) pl pu ps ?_ (by rw [List.size_toArray]; omega)
  refine ⟨.ref _, _, I5.laid (t' := s4.toks) (o := .tup xs.reverse) (fun b ob z => Heap.get?_push_of_some _ z) (Nat.le_refl _) ?_, rfl, q _ (I5.hok.fresh (Nat.le_refl _))⟩
  exact ⟨by rw [List.length_reverse]; exact hz, _, r.reverse, IsTup.new _ _⟩
def rExtTup (K : PySem.W.Frag) : V → List V → Hp → VK → Prop := fun x vs H Q => ∃ l b xs zs, x = .ref l ∧ vs = [.ref b] ∧ H l = some (.lst xs) ∧ SqT K H b zs ∧ xs.length + zs.length ≤ sizeLine ∧ Q .non (upd H l (.lst (xs ++ zs)))
theorem mt_extTup : MtM X "list.extend" (rExtTup X.K) := by
  intro pins s σ H x vs v us Q I rx rv h
  obtain ⟨l, b, xs, zs, rfl, rfl, hH, hB, hz, q⟩ := h
  cases rx
  obtain ⟨u, rfl, ru⟩ := rv.one
  cases ru
  obtain ⟨z, its, n, r, hl, e⟩ := I.lstM hH
  obtain ⟨its2, r2, ⟨⟨cls, dd, data, sl⟩, e2, hc, n2, hd⟩, z2⟩ := I.tuple hB
  simp only at hc hd
  subst hc hd
  have hl2 := r2.length
  have hsz : its.toArray.size + its2.toArray.size ≤ sizeLine := by rw [List.size_toArray, List.size_toArray]; omega
  have hlong : ¬ (!its.toArray.isEmpty && Builtin.List.listTooLong (its.toArray.size + its2.toArray.size)) = true := by
    rw [notLongL hsz, Bool.and_false]
    exact Bool.false_ne_true
  refine call_meets PySem.F.slot_list_extend ⟨_, e, rfl⟩ PySem.F.entry_list_extend (PySem.F.args_list_extend_2 _ _)
    (AutoSeq1.extendByTuple l b its.toArray its2.toArray n n2 dd sl hlong (by rw [List.size_toArray]; omega) (by omega)) ⟨e, e2, ?_⟩
  refine ⟨.non, _, I.lset (its' := its ++ its2) hH e (by simp) (r.append r2) ?_, rfl, q⟩
  rw [List.length_append]
  omega
/-- d[::-1] of a list, of a tuple -/
def dRevT (m : DM) : DM := fun env Q => m env fun env' r => match r.data with
  | .tup l => Q env' (.val (.tup l.reverse))
  | _ => False
def dRevL (m : DM) : DM := fun env Q => m env fun env' r => match r.data with
  | .lst l => Q env' (.own l.reverse)
  | _ => False
theorem de_revT {e : Expr} {m : DM} {te : TE} {k : Nat} {p1 p2 p3 pos : Pos} (he : DE X e m te) : DE X (.Subscript e (.Slice none none (some (.UnaryOp .USub (.Constant (.int 1) k p1) p2)) p3) pos) (dRevT m) (tRevT X.K te) := by
  refine ⟨pe_revT he.1, fun B S H env σ Q Qv s q k => he.2 B S H env σ _ _ s q fun v H1 S1 env1 r z q1 => ?_⟩
  have zl := z.look1
  split at q1
  · rename_i l c
    rw [c] at zl
    obtain ⟨a, xs, rfl, b1, b2⟩ := zl.tup z.sr.ex
    exact ⟨a, xs, rfl, b1, fun p hp => k _ _ _ env1 (.val _) (.fin z.t (q := .val _) (nwr_tup z.sr.ex hp b2.reverse)) q1⟩
  · exact q1.elim
theorem de_revL {e : Expr} {m : DM} {te : TE} {k : Nat} {p1 p2 p3 pos : Pos} (he : DE X e m te) : DE X (.Subscript e (.Slice none none (some (.UnaryOp .USub (.Constant (.int 1) k p1) p2)) p3) pos) (dRevL m) (tRevL X.K te) := by
  refine ⟨pe_revL he.1, fun B S H env σ Q Qv s q k => he.2 B S H env σ _ _ s q fun v H1 S1 env1 r z q1 => ?_⟩
  have zl := z.look1
  split at q1
  · rename_i l c
    rw [c] at zl
    obtain ⟨a, xs, rfl, b1, b2⟩ := zl.lst z.sr.ex
    exact ⟨a, xs, rfl, b1, fun p hp => k _ _ _ env1 (.own _) (.fin z.t (q := .own _) (nwr_lst z.sr.ex hp b2.reverse)) q1⟩
  · exact q1.elim
def rExtA (K : PySem.W.Frag) : V → List V → Hp → VK → Prop := fun x vs H Q => rExtend x vs H Q ∨ rExtTup K x vs H Q
theorem mt_extA : MtM X "list.extend" (rExtA X.K) := by
  intro pins s σ H x vs v us Q I rx rv h
  rcases h with h | h
  · exact mt_extend pins s σ H x vs v us Q I rx rv h
  · exact mt_extTup pins s σ H x vs v us Q I rx rv h
/-- xs.extend(..) -/
def dExtA (i : Nat) (m : DM) : DSM := fun E env => (∃ l0, Has env i (.own l0)) ∧ m env fun env' r => match r.data, env'[i]? with
  | .lst l2, some (some (.own l)) => l.length + l2.length ≤ sizeLine ∧ E.nx (env'.set i (some (.own (l ++ l2))))
  | .tup l2, some (some (.own l)) => l.length + l2.length ≤ sizeLine ∧ E.nx (env'.set i (some (.own (l ++ l2))))
  | _, _ => False
theorem ds_extA {i : Nat} {x : Str} {xp apos cpos pos : Pos} {a : Expr} {ta : TE} {ma : DM} (hv : PE X (.Name x xp) (tVar i)) (ha : DE X a ma ta)
    (hbase : attributeBase (.Name x xp) "extend" X.env (eval (.Name x xp) X.env) = eval (.Name x xp) X.env := by rfl)
    (hfew : ((backTo cpos (starEach (a :: []) X.env)).all (fun x => !x.1) && (backToKw cpos (keywordEach [] X.env)).all (fun x => x.1.isSome)
      && decide ((a :: []).length + ([] : List Keyword).length + (if ([] : List Keyword).isEmpty then 0 else 1) < 30)) = true := by rfl)
    (hline : (apos.endLine == cpos.line) = true := by rfl) (hs : starEach (a :: []) X.env = (false, eval a X.env) :: starEach [] X.env := by rfl) (hplain : (backTo cpos (starEach [] X.env)).any (·.1) = false := by rfl)
    (hsw : swapsWith (.Call (.Attribute (.Name x xp) "extend" apos) [a] [] cpos) none pos.line X.env = pure false := by rfl) : DS X (.Expr (.Call (.Attribute (.Name x xp) "extend" apos) [a] [] cpos) pos) (dExtA i ma) (tDrop (tBM X.K "list" (rExtA X.K) (tVar i) (tCons ta tNil))) := by
  refine ⟨ps_expr (pe_bm PySem.F.plainAttrs_list PySem.F.slot_list_extend PySem.F.type_list_extend mt_extA hv (pa_cons ha.1 pa_nil hs) hbase hfew hline hs hplain) hsw, fun B S H env σ E D s q e => ?_⟩
  obtain ⟨⟨l0, c0⟩, q⟩ := q
  obtain ⟨p, vs, hp, p1, p2, p3, p4⟩ := s.own i l0 c0
  refine ⟨.ref p, hp, .inl ⟨rfl, _, SqL.of p3⟩, ?_⟩
  refine ha.2 B S H env σ _ _ s q fun v H' S' env' r z q' => ?_
  have zl := z.look1
  split at q'
  · rename_i l2 l c1 c
    rw [c1] at zl
    obtain ⟨b, zs, rfl, b1, b2⟩ := zl.lstH z.sr.ex
    obtain ⟨p', ws, y1, y2, y3, y4, y5⟩ := z.sr.own i l c
    cases Slt.ref hp y1
    refine .inl ⟨p, b, ws, zs, rfl, rfl, y4, b1, by rw [y5.length, b2.length]; exact q'.1, ?_⟩
    exact e.nx S' _ _ σ (z.sr.put c hp (y5.append b2)) q'.2
  · rename_i l2 l c1 c
    rw [c1] at zl
    obtain ⟨b, zs, rfl, b1, b2⟩ := zl.tup z.sr.ex
    obtain ⟨p', ws, y1, y2, y3, y4, y5⟩ := z.sr.own i l c
    cases Slt.ref hp y1
    refine .inr ⟨p, b, ws, zs, rfl, rfl, y4, b1, by rw [y5.length, b2.length]; exact q'.1, ?_⟩
    exact e.nx S' _ _ σ (z.sr.put c hp (y5.append b2)) q'.2
  · exact q'.elim
end
end DL
end

section
set_option Elab.async false
set_option linter.all false
set_option maxRecDepth 100000
set_option maxHeartbeats 4000000
namespace DL
open PySem PySem.Spec PyProof.Rows L2
open Evl (Ex)
section
variable {X : Cx}
/-- a list or a tuple, from its end -/
def tRevA (K : PySem.W.Frag) (te : TE) : TE := fun σ H Q => te σ H fun x H1 => ∃ a xs, x = .ref a ∧ ((SqT K H1 a xs ∧ ∀ p, H1 p = none → Q (.ref p) (upd H1 p (.tup xs.reverse))) ∨ (SqL K H1 a xs ∧ ∀ p, H1 p = none → Q (.ref p) (upd H1 p (.lst xs.reverse))))
theorem pe_revA {e : Expr} {te : TE} {k : Nat} {p1 p2 p3 pos : Pos} (he : PE X e te) : PE X (.Subscript e (.Slice none none (some (.UnaryOp .USub (.Constant (.int 1) k p1) p2)) p3) pos) (tRevA X.K te) := by
  refine ⟨fun pins s σ H Q I h => ?_⟩
  refine Subscript_ (thn (he.run pins s σ H _ I h) fun v s1 ⟨x, H1, I1, r1, a, xs, ex, hx⟩ => ?_)
  subst ex
  cases r1
  have step : PO X (some (.UnaryOp .USub (.Constant (.int 1) k p1) p2)) (tPart (tUn (rU fun i => .int (-i)) (tC (.int 1)))) := po_some (pe_un un_neg pe_int)
  refine wpAny_Slice (thn (po_none.run pins s1 σ H1 (fun o Hx => o = none ∧ Hx = H1) I1 ⟨rfl, rfl⟩) fun vl s2 ⟨l, H2, I2, pl, y1, y2⟩ => ?_)
  subst y1 y2
  refine thn (po_none.run pins s2 σ H2 (fun o Hx => o = none ∧ Hx = H2) I2 ⟨rfl, rfl⟩) fun vu s3 ⟨u, H3, I3, pu, y3, y4⟩ => ?_
  subst y3 y4
  refine thn (step.run pins s3 σ H3 (fun o Hx => o = some (-1) ∧ Hx = H3) I3 ⟨1, rfl, -1, rfl, rfl, rfl⟩) fun vs s4 ⟨o, H4, I4, ps, y5, y6⟩ => ?_
  subst y5 y6
  have I5 : Inv X pins σ H4 { s4 with heap := s4.heap.push { cls := .type "slice", data := .fields #[vl, vu, vs] } } := I4.kept (t' := s4.toks) fun b ob z => Heap.get?_push_of_some _ z
  show wpAny (model X.prog X.w) X.A (subscriptTail e (.Slice none none (some (.UnaryOp .USub (.Constant (.int 1) k p1) p2)) p3) (.ref a) (.ref s4.heap.objs.size)) (EP X pins σ Q) X.xe _
  rcases hx with ⟨hx, q⟩ | ⟨hx, q⟩
  · obtain ⟨its, r, ht, hz⟩ := I5.tuple hx
    have hl := r.length
    refine tail_any (ops := [.ref a, .ref s4.heap.objs.size]) ht.typeIs (PyProof.Rows.slot_tuple_getitem.lookup) ?_ (by with_unfolding_all rfl)
    refine HT.turned_tuple ht (Heap.IsSliceOf.new _ vl vu vs) pl pu ps ?_ (by rw [List.size_toArray]; omega)
    refine ⟨.ref _, _, I5.laid (t' := s4.toks) (o := .tup xs.reverse) (fun b ob z => Heap.get?_push_of_some _ z) (Nat.le_refl _) ?_, rfl, q _ (I5.hok.fresh (Nat.le_refl _))⟩
    exact ⟨by rw [List.length_reverse]; exact hz, _, r.reverse, IsTup.new _ _⟩
  · obtain ⟨its, r, ht, hz⟩ := I5.list hx
    have hl := r.length
    refine tail_any (ops := [.ref a, .ref s4.heap.objs.size]) ht.isList.typeIs (PySem.slot_list_getitem.lookup) ?_ (by with_unfolding_all rfl)
    refine wpAny_getItem_list_slice ht.isList (Heap.IsSliceOf.new _ vl vu vs) pl pu ps (by decide) ?_ (by rw [List.size_toArray]; omega)
    rw [PySem.W.krv_pick]
    refine ⟨.ref _, _, I5.laid (t' := s4.toks) (o := .lst xs.reverse) (fun b ob z => Heap.get?_push_of_some _ z) (Nat.le_refl _) ?_, rfl, q _ (I5.hok.fresh (Nat.le_refl _))⟩
    exact ⟨by rw [List.length_reverse]; exact hz, _, 0, r.reverse, Heap.get?_push_size _ rfl⟩
def dRevA (m : DM) : DM := fun env Q => m env fun env' r => match r.data with
  | .tup l => Q env' (.val (.tup l.reverse))
  | .lst l => Q env' (.own l.reverse)
  | _ => False
theorem de_revA {e : Expr} {m : DM} {te : TE} {k : Nat} {p1 p2 p3 pos : Pos} (he : DE X e m te) : DE X (.Subscript e (.Slice none none (some (.UnaryOp .USub (.Constant (.int 1) k p1) p2)) p3) pos) (dRevA m) (tRevA X.K te) := by
  refine ⟨pe_revA he.1, fun B S H env σ Q Qv s q k => he.2 B S H env σ _ _ s q fun v H1 S1 env1 r z q1 => ?_⟩
  have zl := z.look1
  split at q1
  · rename_i l c
    rw [c] at zl
    obtain ⟨a, xs, rfl, b1, b2⟩ := zl.tup z.sr.ex
    exact ⟨a, xs, rfl, .inl ⟨b1, fun p hp => k _ _ _ env1 (.val _) (.fin z.t (q := .val _) (nwr_tup z.sr.ex hp b2.reverse)) q1⟩⟩
  · rename_i l c
    rw [c] at zl
    obtain ⟨a, xs, rfl, b1, b2⟩ := zl.lst z.sr.ex
    exact ⟨a, xs, rfl, .inr ⟨b1, fun p hp => k _ _ _ env1 (.own _) (.fin z.t (q := .own _) (nwr_lst z.sr.ex hp b2.reverse)) q1⟩⟩
  · exact q1.elim
end
end DL
end

section
set_option Elab.async false
set_option linter.all false
set_option maxRecDepth 100000
set_option maxHeartbeats 4000000
namespace DL
open PySem PySem.Spec PyProof.Rows L2
open Evl (Ex)
/-! ### a call whose last argument is a new list, handed over to be changed -/
def lose (H : Hp) (p : Addr) : Hp := fun a => if a = p then none else H a
theorem lose_ne {H : Hp} {p a : Addr} (h : a ≠ p) : lose H p a = H a := if_neg h
theorem lose_same {H : Hp} {p : Addr} : lose H p p = none := if_pos rfl
theorem lose_some {H : Hp} {p a : Addr} {o : HO} (h : lose H p a = some o) : a ≠ p ∧ H a = some o := by
  by_cases c : a = p
  · subst c
    rw [lose_same] at h
    cases h
  · rw [lose_ne c] at h
    exact ⟨c, h⟩
theorem SR.given {K : PySem.W.Frag} {B : Bs} {S H S' H' : Hp} {env : En} {σ : L2.St} {r : R} {v : V} {p : Addr} (s : SR K B S H env σ) (h1 : B.H0 p = none) (h2 : ¬ Ow B env σ p) (d : DRet K S (lose H p) B.pa S' H' r v) : SR K B S' H' env σ where
  ex0 := s.ex0.trans d.ex
  nw0 := fun a o h e => by
    have ne : a ≠ p := fun z => by rw [z, h1] at h; cases h
    by_cases c : B.pa = some a
    · exact (d.pool a c).1
    · exact d.nw a o ((lose_ne ne).trans (s.keep0 a o h c)) (s.nw0 a o h e)
  keep0 := fun a o h c => by
    have ne : a ≠ p := fun z => by rw [z, h1] at h; cases h
    exact d.keep a o ((lose_ne ne).trans (s.keep0 a o h c)) c
  old0 := fun a h => by
    by_cases ne : a = p
    · subst ne
      exact h1
    · exact s.old0 a ((lose_ne ne).symm.trans (d.old a h))
  len := s.len
  ex := d.sh
  val := fun i d' h => let ⟨v, h1, h2⟩ := s.val i d' h; ⟨v, h1, h2.mono d.ex⟩
  own := fun i l h => by
    obtain ⟨q, vs, k1, k2, k3, k4, k5⟩ := s.own i l h
    have ne : q ≠ p := fun z => h2 (.inr (.inl ⟨i, l, h, z ▸ k1⟩))
    have np : B.pa ≠ some q := fun e => by
      obtain ⟨_, o, z⟩ := s.pool q e
      rw [k3] at z
      cases z
    exact ⟨q, vs, k1, d.nw _ _ ((lose_ne ne).trans k4) k2, k3, d.keep _ _ ((lose_ne ne).trans k4) np, k5.mono d.ex⟩
  dis := s.dis
  fix := fun i q l h => by
    obtain ⟨k1, k2, k3, vs, k4, k5⟩ := s.fix i q l h
    have ne : q ≠ p := fun z => h2 (.inr (.inr ⟨i, l, z ▸ h⟩))
    have np : B.pa ≠ some q := fun e => by
      obtain ⟨_, o, z⟩ := s.pool q e
      rw [k3] at z
      cases z
    exact ⟨k1, d.nw _ _ ((lose_ne ne).trans k4) k2, k3, vs, d.keep _ _ ((lose_ne ne).trans k4) np, k5.mono d.ex⟩
  dfx := s.dfx
  dff := s.dff
  pin := fun a e => by
    have ne : a ≠ p := fun z => h2 (.inl (by rw [← z]; exact e))
    have k := d.pin a e
    rw [lose_ne ne] at k
    exact k.trans (s.pin a e)
  pl := s.pl
  pool := fun a h => let ⟨q, o⟩ := s.pool a h; ⟨d.pool a h, o⟩
/-- the last argument's list at p -/
structure Gift (K : PySem.W.Frag) (B : Bs) (Hs S H : Hp) (env : En) (σ : L2.St) (p : Addr) (l : List D) : Prop where
  s : S p = none
  b : B.H0 p = none
  o : ¬ Ow B env σ p
  n : Hs p = none
  at_ : ∃ ws, H p = some (.lst ws) ∧ Reps K S ws l
abbrev DLM := En → (En → List R → List D → Prop) → Prop
def DLA (X : Cx) (es : List Expr) (m : DLM) (t : TA) : Prop := PA X es t ∧ ∀ (B : Bs) (S H : Hp) (env : En) (σ : L2.St) (Q : En → List R → List D → Prop) (Qv : List V → Hp → Prop), SR X.K B S H env σ → m env Q →
  (∀ vs p H' S' env' rs l, TPo X.K B S H env σ S' H' env' → LkA X.K B S' H' vs rs → Gift X.K B H S' H' env' σ p l → vs.length + 1 = es.length → Q env' rs l → Qv (vs ++ [.ref p]) H') → t σ H Qv
def dEndO (m : DM) : DLM := fun env Q => m env fun env' r => match r with
  | .own l => Q env' [] l
  | _ => False
def dConsO (m : DM) (n : DLM) : DLM := fun env Q => m env fun env1 r => n env1 fun env2 rs l => Q env2 (r :: rs) l
/-- the function's meaning: of the values, and of the list that is handed over -/
abbrev FML := List R → List D → (R → Prop) → Prop
def spL (K : PySem.W.Frag) (n : Nat) (F : FML) : Sp := fun vs H Q _ => ∃ (S : Hp) (pa : Option Addr) (vs0 : List V) (p : Addr) (rs : List R) (l : List D) (Qd : R → Prop), vs = vs0 ++ [.ref p] ∧ Ex S H ∧ (∀ a, pa = some a → PoolAt S H a) ∧ ArgR K S pa vs0 rs ∧ vs.length = n ∧
  (S p = none ∧ pa ≠ some p ∧ ∃ ws, H p = some (.lst ws) ∧ Reps K S ws l) ∧ F rs l Qd ∧ ∀ v H' S' r, DRet K S (lose H p) pa S' H' r v → Qd r → Q v H'
def dCallL (F : FML) (n : DLM) : DM := fun env Q => n env fun env' rs l => argsOk rs = true ∧ F rs l fun r => match r with
  | .brw _ _ => False
  | r => Q env' r
section
variable {X : Cx} {a : Expr} {ma : DM} {ta : TE} {k : Nat} {f : Addr} {fd : FuncData} {ps : List Str} {F : FML} {x : Str} {p pos : Pos} {e : Expr} {es : List Expr} {n : DLM} {tn : TA} {np : Nat}
theorem dla_end (ha : DE X a ma ta) (hs : starEach (a :: []) X.env = (false, eval a X.env) :: starEach [] X.env := by rfl) : DLA X [a] (dEndO ma) (tCons ta tNil) := by
  refine ⟨pa_cons ha.1 pa_nil hs, fun B S H env σ Q Qv s q k => ?_⟩
  refine ha.2 B S H env σ _ _ s q fun v H1 S1 env1 r1 e1 q1 => ?_
  cases r1 with
  | own l =>
    obtain ⟨p, ws, rfl, z1, z2, z3, z4, z5, z6⟩ := e1.res
    exact k [] p H1 S1 env1 [] l e1.t .nil ⟨z1, z2, z4, z3, ws, z5, z6⟩ rfl q1
  | val d => exact q1.elim
  | brw i l => exact q1.elim
  | pool => exact q1.elim
theorem dla_cons (ha : DE X a ma ta) (hb : DLA X es n tn) (hs : starEach (a :: es) X.env = (false, eval a X.env) :: starEach es X.env := by rfl) : DLA X (a :: es) (dConsO ma n) (tCons ta tn) := by
  refine ⟨pa_cons ha.1 hb.1 hs, fun B S H env σ Q Qv s q k => ?_⟩
  refine ha.2 B S H env σ _ _ s q fun x H1 S1 env1 r1 e1 q1 => ?_
  refine hb.2 B S1 H1 env1 σ _ _ e1.sr q1 fun vs p H2 S2 env2 rs l e2 l2 g len2 q2 => ?_
  refine k (x :: vs) p H2 S2 env2 (r1 :: rs) l (e1.t.trans e2) (.cons (RepB.go e1 rfl e2) (fun d e => ?_) (fun e => ?_) l2) ⟨g.s, g.b, g.o, e1.go.old p g.n, g.at_⟩ (by rw [List.length_cons, List.length_cons]; omega) q2
  · subst e
    have := e1.res
    exact Rep.mono e2.go.ex this
  · subst e
    exact e1.res
theorem de_callL (hF : FnOk X.prog X.w X.K X.mg X.base CX0 k f fd ps (spL X.K np F)) (hr : Room k X.A) (hg : Gl X x) (hm : X.mg x = some (.ref f)) (hk : PySem.W.keepIn X.K (.ref f) = true) (hb : Binds X.K fd ps [])
    (ha : DLA X (e :: es) n tn) (hlen : (e :: es).length = np) (hdb : (x == ("__debug__" : Str)) = false := by decide) (he : starEach (e :: es) X.env = (false, eval e X.env) :: starEach es X.env := by rfl) (hpl : (backTo pos (starEach es X.env)).any (·.1) = false := by rfl) :
    DE X (.Call (.Name x p) (e :: es) [] pos) (dCallL F n) (tCall (spL X.K np F) [] E0 tn) := by
  refine ⟨pe_call hF hr hg hm hk hb .nil pass0 ha.1 hdb he hpl, fun B S H env σ Q Qv s q k => ha.2 B S H env σ _ _ s q fun vs p H1 S1 env1 rs l z lk g len q1 => ?_⟩
  show spL X.K np F ((vs ++ [.ref p]) ++ []) H1 Qv E0
  rw [List.append_nil]
  have hpa : B.pa ≠ some p := fun e => g.o (.inl e)
  refine ⟨S1, B.pa, vs, p, rs, l, _, rfl, z.sr.ex, fun a e => (z.sr.pool a e).1, lk.args q1.1, by rw [List.length_append]; exact len.trans hlen, ⟨g.s, hpa, g.at_⟩, q1.2, fun v H' S' r d qr => ?_⟩
  have s' := z.sr.given g.b g.o d
  have go : Go (Ow B env σ) S H S' H' := by
    refine ⟨z.go.ex.trans d.ex, fun a o h nz => ?_, fun a o h nz e => ?_, fun a h => ?_⟩
    · have ne : a ≠ p := fun c => by rw [c, g.n] at h; cases h
      exact d.keep a o ((lose_ne ne).trans (z.go.keep a o h nz)) fun e => nz (.inl e)
    · have ne : a ≠ p := fun c => by rw [c, g.n] at h; cases h
      exact d.nw a o ((lose_ne ne).trans (z.go.keep a o h nz)) (z.go.nw a o h nz e)
    · by_cases ne : a = p
      · subst ne
        exact g.n
      · exact z.go.old a ((lose_ne ne).symm.trans (d.old a h))
  have dr := d.ret
  cases r with
  | val d0 => exact k v H' S' env1 (.val d0) ⟨s', go, z.fz, dr⟩ qr
  | own l2 =>
    obtain ⟨p2, ws, rfl, h1, h2, h3, h4⟩ := dr
    by_cases ne : p2 = p
    · subst ne
      exact k _ H' S' env1 (.own l2) ⟨s', go, z.fz, p2, ws, rfl, h1, g.b, g.n, g.o, h3, h4⟩ qr
    · have h2' : H1 p2 = none := (lose_ne ne).symm.trans h2
      exact k _ H' S' env1 (.own l2) ⟨s', go, z.fz, p2, ws, rfl, h1, z.sr.hp0 h2', z.go.old p2 h2', z.sr.now h2', h3, h4⟩ qr
  | pool => exact k v H' S' env1 .pool ⟨s', go, z.fz, dr⟩ qr
  | brw i l2 => exact qr.elim
end
end DL
end

section
set_option Elab.async false
set_option linter.all false
set_option maxRecDepth 100000
set_option maxHeartbeats 4000000
namespace DL
open PySem PySem.Spec PyProof.Rows L2
open Evl (Ex)
/-! ### pool = ..: from here on the list is the pool -/
def plainE (env : En) : Bool := env.all fun n => match n with
  | none => true
  | some (.val _) => true
  | _ => false
theorem plainE_has {env : En} (h : plainE env = true) {i : Nat} {n : Nv} (k : Has env i n) : ∃ d, n = .val d := by
  have q := List.all_eq_true.mp h _ (List.mem_of_getElem? k)
  cases n with
  | val d => exact ⟨d, rfl⟩
  | own l => cases q
  | pool => cases q
  | fix p l => cases q
/-- only values are handed back -/
def onlyRt (E : DEn) : DEn := { nx := fun _ => False, rt := fun _ r => match r with
  | .val d => E.rt [] (.val d)
  | _ => False }
def dPool (i : Nat) (ma : DM) (m : DSM) : DSM := fun E env => ma env fun env' r => match r with
  | .own [.lst cs, .int pos, .int big, .int seed, .int cnt, .int bud] => (∃ ns : List Int, cs = ns.map D.int) ∧ 0 ≤ pos ∧ plainE env' = true ∧ m (onlyRt E) (env'.set i (some .pool))
  | _ => False
section
variable {X : Cx} {a : Expr} {ma : DM} {ta : TE} {i : Nat} {x : Str} {pos pos' : Pos} {rest : List Stmt} {m : DSM} {tm : TS}
theorem SR.toPool {K : PySem.W.Frag} {B : Bs} {S H : Hp} {env : En} {σ : L2.St} {p : Addr} {vs : List V} {cs : List Int} {q1 q2 q3 q4 q5 : Int} {i : Nat} (s : SR K B S H env σ) (hpl : plainE env = true) (h1 : S p = none) (h3 : H p = some (.lst vs))
    (r : Reps K S vs [.lst (cs.map D.int), .int q1, .int q2, .int q3, .int q4, .int q5]) (h0 : 0 ≤ q1) : SR K ⟨S, H, some p⟩ S H (env.set i (some .pool)) (σ.set i (some (.ref p))) := by
  have il : ∀ {j : Nat} {n : Nv}, Has (env.set i (some .pool)) j n → j < σ.length := fun {j n} h => by
    have q := (List.getElem?_eq_some_iff.mp h).1
    rw [List.length_set] at q
    exact s.len ▸ q
  have other : ∀ {j : Nat} {n : Nv}, Has (env.set i (some .pool)) j n → n ≠ .pool → j ≠ i ∧ Has env j n := fun {j n} h ne => by
    have c : j ≠ i := fun z => by
      subst z
      exact ne (Option.some.inj (set_self h)).symm
    exact ⟨c, set_other h c⟩
  refine ⟨Ex.refl _, fun _ _ _ e => e, fun _ _ e _ => e, fun _ e => e, by rw [List.length_set, List.length_set]; exact s.len, s.ex, fun j d h => ?_, fun j l h => ?_, fun j k l m q e1 e2 _ _ => ?_, fun j h => ?_, fun b e => ?_, fun j q l h => ?_, fun j k q l m e1 _ _ => ?_, fun j k q l m e1 _ => ?_, fun _ _ => rfl⟩
  · obtain ⟨c, h⟩ := other h (fun z => by cases z)
    obtain ⟨v, k1, k2⟩ := s.val j d h
    exact ⟨v, (sset_other c).mpr k1, k2⟩
  · obtain ⟨c, h⟩ := other h (fun z => by cases z)
    obtain ⟨d, z⟩ := plainE_has hpl h
    cases z
  · obtain ⟨c, h⟩ := other e1 (fun z => by cases z)
    obtain ⟨d, z⟩ := plainE_has hpl h
    cases z
  · by_cases c : j = i
    · subst c
      exact ⟨p, rfl, sset_self (il h)⟩
    · obtain ⟨d, z⟩ := plainE_has hpl (set_other h c)
      cases z
  · cases e
    refine ⟨⟨h1, ?_⟩, _, h3⟩
    cases r with
    | cons r0 r => cases r with
      | cons r1 r => cases r with
        | cons r2 r => cases r with
          | cons r3 r => cases r with
            | cons r4 r => cases r with
              | cons r5 r =>
                cases r
                cases r0 with
                | lst hl rl =>
                  cases r1
                  cases r2
                  cases r3
                  cases r4
                  cases r5
                  rw [rl.ints_inv] at hl
                  exact ⟨_, cs, q1, q2, q3, q4, q5, h3, hl, h0⟩
  · obtain ⟨c, h⟩ := other h (fun z => by cases z)
    obtain ⟨d, z⟩ := plainE_has hpl h
    cases z
  · obtain ⟨c, h⟩ := other e1 (fun z => by cases z)
    obtain ⟨d, z⟩ := plainE_has hpl h
    cases z
  · obtain ⟨c, h⟩ := other e1 (fun z => by cases z)
    obtain ⟨d, z⟩ := plainE_has hpl h
    cases z
theorem dss_pool (ha : DE X a ma ta) (hm : DSs X rest m tm) (hN : X.N.Nodup) (hi : X.N[i]? = some x) (hx : Loc X.env.scope x) (hs : swapsWith a (some (.Name x pos')) pos.line X.env = pure false := by rfl)
    (hf : X.fn x = true ∨ X.env.scope.names.lookup x = some .local := by first | exact .inl rfl | exact .inr rfl | assumption) : DSs X (.Assign [.Name x pos'] a pos :: rest) (dPool i ma m) (tSeq (tAsg ta (gName i)) tm) := by
  refine ⟨pss_cons (ps_set hN hi hx ha.1 hs hf) hm.1, fun B S H env σ E D s q e => ?_⟩
  refine ha.2 B S H env σ _ _ s q fun v H' S' env' r z q' => ?_
  have zr := z.res
  split at q'
  · rename_i cs q1 q2 q3 q4 q5
    obtain ⟨⟨ns, rfl⟩, k0, k1, k2⟩ := q'
    obtain ⟨p, vs, rfl, z1, z2, z3, z4, z5, z6⟩ := zr
    have s' := z.sr.toPool (i := i) k1 z1 z5 z6 k0
    refine hm.2 ⟨S', H', some p⟩ S' H' _ _ (onlyRt E) D s' k2 ?_
    have z0 := z.sr
    have back : ∀ {S2 H2 : Hp} {env2 : En} {σ2 : L2.St}, SR X.K ⟨S', H', some p⟩ S2 H2 env2 σ2 → SR X.K B S2 H2 [] [] := fun {S2 H2 env2 σ2} s2 => by
      have np : B.pa ≠ some p := fun e => by
        obtain ⟨_, o, w⟩ := z0.pool p e
        rw [z2] at w
        cases w
      have up : ∀ b o, B.H0 b = some o → b ≠ p := fun b o w c => by
        rw [c, z2] at w
        cases w
      refine ⟨z0.ex0.trans s2.ex0, fun b o h w => ?_, fun b o h w => ?_, fun b h => z0.old0 b (s2.old0 b h), rfl, s2.ex, fun j d h => ?_, fun j l h => ?_, fun j k l m q e1 _ _ _ => ?_, fun j h => ?_, fun b h => ?_, fun j q l h => ?_, fun j k q l m e1 _ _ => ?_, fun j k q l m e1 _ => ?_, fun b e => ?_⟩
      · by_cases c : B.pa = some b
        · obtain ⟨⟨w1, _⟩, o', w2⟩ := z0.pool b c
          obtain ⟨⟨_, l, cells, y1, y2, y3, y4, y5, y6, _⟩, _⟩ := z0.pool b c
          exact s2.nw0 b _ y6 w1
        · exact s2.nw0 b o (z0.keep0 b o h c) (z0.nw0 b o h w)
      · exact s2.keep0 b o (z0.keep0 b o h w) fun c => up b o h (by cases c; rfl)
      · cases (show (none : Option (Option Nv)) = some (some _) from h)
      · cases (show (none : Option (Option Nv)) = some (some _) from h)
      · cases (show (none : Option (Option Nv)) = some (some _) from e1)
      · cases (show (none : Option (Option Nv)) = some (some _) from h)
      · obtain ⟨⟨w1, l, cells, y1, y2, y3, y4, y5, y6, y7, y8⟩, o, y9⟩ := z0.pool b h
        exact ⟨⟨s2.nw0 b _ y6 w1, l, cells, y1, y2, y3, y4, y5, s2.keep0 b _ y6 fun c => up b o y9 (by cases c; rfl), s2.ex0 _ _ y7, y8⟩, o, y9⟩
      · cases (show (none : Option (Option Nv)) = some (some _) from h)
      · cases (show (none : Option (Option Nv)) = some (some _) from e1)
      · cases (show (none : Option (Option Nv)) = some (some _) from e1)
      · obtain ⟨⟨w1, l, cells, y1, y2, y3, y4, y5, y6, y7, y8⟩, o, y9⟩ := z0.pool b e
        rw [s2.keep0 b _ y6 fun c => up b o y9 (by cases c; rfl), ← z0.pin b e, y6]
    refine ⟨fun _ _ _ _ _ w => w.elim, fun S2 H2 env2 σ2 r2 v2 s2 w1 w2 => ?_, fun _ _ _ _ _ w => w.elim, fun _ _ _ _ _ w => w.elim, fun _ _ _ _ _ _ _ _ _ _ _ _ w => w.elim⟩
    cases r2 with
    | val d => exact e.rt S2 H2 [] [] (.val d) v2 (back s2) w1 w2
    | own l => exact w2.elim
    | brw j l => exact w2.elim
    | pool => exact w2.elim
  · exact q'.elim
end
end DL
end

section
set_option Elab.async false
set_option linter.all false
set_option maxRecDepth 100000
set_option maxHeartbeats 4000000
namespace DL
open PySem PySem.Spec PyProof.Rows L2
open Evl (Ex)
/-! ### a def whose last parameter is a list that it changes -/
abbrev FMI := List R → List D → (R → List D → Prop) → Prop
def startI (n : Nat) (rs : List R) (p : Addr) (l : List D) : En := (rs.map R.nv ++ [some (.fix p (.lst l))]) ++ List.replicate (n - (rs.length + 1)) none
def bodyI (n : Nat) (m : DSM) : FMI := fun rs l Qd => ∀ p : Addr, m { nx := fun env => ∃ l', Has env rs.length (.fix p (.lst l')) ∧ Qd (.val .non) l', rt := fun env r => ∃ l', Has env rs.length (.fix p (.lst l')) ∧ Qd r l' } (startI n rs p l)
def spI (K : PySem.W.Frag) (n : Nat) (F : FMI) : Sp := fun vs H Q _ => ∃ (S : Hp) (pa : Option Addr) (vs0 : List V) (p : Addr) (rs : List R) (l : List D) (Qd : R → List D → Prop), vs = vs0 ++ [.ref p] ∧ Ex S H ∧ (∀ a, pa = some a → PoolAt S H a) ∧ ArgR K S pa vs0 rs ∧ vs.length = n ∧
  (S p = none ∧ pa ≠ some p ∧ ∃ ws, H p = some (.lst ws) ∧ Reps K S ws l) ∧ F rs l Qd ∧
  ∀ v H' S' r l', DRet K S (lose H p) pa S' H' r v → (S' p = none ∧ ∃ ws, H' p = some (.lst ws) ∧ Reps K S' ws l') → Qd r l' → Q v H'
theorem spI.imp {K : PySem.W.Frag} {n : Nat} {F F' : FMI} (h : ∀ rs l Q, F' rs l Q → F rs l Q) : ∀ vs H Q E, spI K n F' vs H Q E → spI K n F vs H Q E :=
  fun vs H Q E ⟨S, pa, vs0, p, rs, l, Qd, h0, h1, h2, h3, h4, h5, h6, h7⟩ => ⟨S, pa, vs0, p, rs, l, Qd, h0, h1, h2, h3, h4, h5, h _ _ _ h6, h7⟩
/-- .. asked by one who does not look at the list again -/
theorem spI.last {K : PySem.W.Frag} {n : Nat} {F : FMI} {G : FML} (h : ∀ rs l Q, G rs l Q → F rs l fun r _ => Q r) : ∀ vs H Q E, spL K n G vs H Q E → spI K n F vs H Q E :=
  fun vs H Q E ⟨S, pa, vs0, p, rs, l, Qd, h0, h1, h2, h3, h4, h5, h6, h7⟩ => ⟨S, pa, vs0, p, rs, l, _, h0, h1, h2, h3, h4, h5, h _ _ _ h6, fun v H' S' r l' d _ q => h7 v H' S' r d q⟩
section
variable {K : PySem.W.Frag} {S H : Hp} {pa : Option Addr}
theorem SR.entryI {vs : List V} {rs : List R} {N : List Str} {p : Addr} {l : List D} {ws : List V} (h1 : Ex S H) (h2 : ∀ a, pa = some a → PoolAt S H a) (h3 : ArgR K S pa vs rs) (p1 : S p = none) (p2 : pa ≠ some p) (p3 : H p = some (.lst ws)) (p4 : Reps K S ws l) : SR K ⟨S, lose H p, pa⟩ S H (startI N.length rs p l) (L2.start N (vs ++ [.ref p])) := by
  have hl := h3.length
  have get : ∀ i n, Has (startI N.length rs p l) i n → (rs.map R.nv)[i]? = some (some n) ∨ (i = rs.length ∧ n = .fix p (.lst l)) := fun i n h => by
    unfold startI at h
    have h' : ((rs.map R.nv ++ [some (.fix p (.lst l))]) ++ List.replicate (N.length - (rs.length + 1)) none)[i]? = some (some n) := h
    rcases Nat.lt_or_ge i (rs.map R.nv).length with c | c
    · rw [List.getElem?_append_left (by rw [List.length_append]; omega), List.getElem?_append_left c] at h'
      exact .inl h'
    · rcases Nat.lt_or_ge i (rs.map R.nv ++ [some (Nv.fix p (.lst l))]).length with c2 | c2
      · rw [List.getElem?_append_left c2, List.getElem?_append_right c] at h'
        rw [List.length_append, List.length_singleton] at c2
        have e0 : i - (rs.map R.nv).length = 0 := by omega
        rw [e0] at h'
        have e1 : n = .fix p (.lst l) := (Option.some.inj (Option.some.inj h')).symm
        rw [List.length_map] at c c2
        exact .inr ⟨by omega, e1⟩
      · rw [List.getElem?_append_right c2] at h'
        have := List.mem_of_getElem? h'
        rw [List.mem_replicate] at this
        cases this.2
  have slt : ∀ i v, (vs ++ [V.ref p])[i]? = some v → Slt (L2.start N (vs ++ [.ref p])) i v := fun i v h => by
    unfold L2.start
    have c : i < ((vs ++ [V.ref p]).map some).length := by
      rw [List.length_map]
      exact (List.getElem?_eq_some_iff.mp h).1
    show ((vs ++ [V.ref p]).map some ++ List.replicate (N.length - (vs ++ [V.ref p]).length) none)[i]? = some (some v)
    rw [List.getElem?_append_left c, List.getElem?_map, h]
    rfl
  have slt0 : ∀ i v, vs[i]? = some v → Slt (L2.start N (vs ++ [.ref p])) i v := fun i v h => slt i v (by
    rw [List.getElem?_append_left (List.getElem?_eq_some_iff.mp h).1]
    exact h)
  have lst : Slt (L2.start N (vs ++ [.ref p])) rs.length (.ref p) := slt _ _ (by
    rw [List.getElem?_append_right (by omega), hl, Nat.sub_self]
    rfl)
  refine ⟨Ex.refl _, fun _ _ _ h => h, fun a o h _ => (lose_some h).2, fun a h => ?_, ?_, h1, fun i d h => ?_, fun i m h => ?_, fun i j m m2 q h _ _ _ => ?_, fun i h => ?_, fun a h => ⟨h2 a h, ?_⟩, fun i q m h => ?_, fun i j q m m2 _ h _ => ?_, fun i j q m m2 h h' => ?_, fun a h => congrArg headO (lose_ne (H := H) (fun c => p2 (by rw [← c]; exact h))).symm⟩
  · by_cases c : a = p
    · subst c
      exact lose_same
    · exact (lose_ne c).trans h
  · unfold startI L2.start
    simp only [List.length_append, List.length_map, List.length_replicate, List.length_singleton]
    omega
  · rcases get i _ h with h | ⟨_, h⟩
    · obtain ⟨v, q1, ⟨d', e, q2⟩ | ⟨e, _⟩⟩ := h3.get h
      · cases e
        exact ⟨v, slt0 i v q1, q2⟩
      · cases e
    · cases h
  · rcases get i _ h with h | ⟨_, h⟩
    · obtain ⟨v, q1, ⟨d', e, q2⟩ | ⟨e, _⟩⟩ := h3.get h
      · cases e
      · cases e
    · cases h
  · rcases get i _ h with h | ⟨_, h⟩
    · obtain ⟨v, q1, ⟨d', e, q2⟩ | ⟨e, _⟩⟩ := h3.get h
      · cases e
      · cases e
    · cases h
  · rcases get i _ h with h | ⟨_, h⟩
    · obtain ⟨v, q1, ⟨d', e, q2⟩ | ⟨e, a, q2, q3⟩⟩ := h3.get h
      · cases e
      · subst q3
        exact ⟨a, q2, slt0 i _ q1⟩
    · cases h
  · obtain ⟨_, l, cells, pos, big, seed, cnt, bud, k1, _⟩ := h2 a h
    exact ⟨_, (lose_ne (fun c => p2 (by rw [← c]; exact h))).trans k1⟩
  · rcases get i _ h with h | ⟨e, h⟩
    · obtain ⟨v, q1, ⟨d', e, q2⟩ | ⟨e, _⟩⟩ := h3.get h
      · cases e
      · cases e
    · cases h
      subst e
      exact ⟨lst, p1, lose_same, _, p3, ws, rfl, p4⟩
  · rcases get j _ h with h | ⟨_, h⟩
    · obtain ⟨v, q1, ⟨d', e, q2⟩ | ⟨e, _⟩⟩ := h3.get h
      · cases e
      · cases e
    · cases h
  · rcases get i _ h with h | ⟨e, h⟩
    · obtain ⟨v, q1, ⟨d', e, q2⟩ | ⟨e, _⟩⟩ := h3.get h
      · cases e
      · cases e
    · rcases get j _ h' with h' | ⟨e', h'⟩
      · obtain ⟨v, q1, ⟨d', e, q2⟩ | ⟨e, _⟩⟩ := h3.get h'
        · cases e
        · cases e
      · rw [e, e']
theorem fn_dI {P : Program} {w : World} {mg : Str → Option Value} {base : Heap} {x qual : Str} {st : Stmt} {f : Addr} {fd : FuncData} {N ps : List Str} {k : Nat} {m : DSM} (F : Fun K x qual st f fd) (Sc : FnScope N ps (defScope st))
    (hbody : ∀ (cdv : Value) (A : Around) (outer : List Env) (s : Shared) (H : Hp) (E : XK), Room k (A.deeper (envOfC qual (defScope st) s.heap.objs.size f cdv)) → ∃ t, DSs (cxOf CX0 P w K mg base N qual (defScope st) f cdv A outer s H E).nox (defBody st) m t) :
    FnOk P w K mg base CX0 (k + 1) f fd ps (spI K ps.length (bodyI N.length m)) := by
  refine F.ok Sc (fun vs H Q E h => ?_) fun cdv A outer s H vs Q E hr h => ?_
  · obtain ⟨S, pa, vs0, p, rs, l, Qd, h0, h1, h2, h3, h4, h5⟩ := h
    exact h4
  · obtain ⟨S, pa, vs0, p, rs, l, Qd, rfl, h1, h2, h3, h4, ⟨p1, p2, ws, p3, p4⟩, h6, h7⟩ := h
    obtain ⟨t, t1, t2⟩ := hbody cdv A outer s H E hr
    refine ⟨t, t1, t2 ⟨S, lose H p, pa⟩ S H _ _ _ _ (SR.entryI h1 h2 h3 p1 p2 p3 p4) (h6 p) ?_⟩
    have fin : ∀ {S' H' : Hp} {env : En} {σ : L2.St} {r : R} {v : V}, SR K ⟨S, lose H p, pa⟩ S' H' env σ → RetR K ⟨S, lose H p, pa⟩ S' H' r v → (∃ l', Has env rs.length (.fix p (.lst l')) ∧ Qd r l') → Q v H' := fun s r ⟨l', f, q⟩ => by
      obtain ⟨_, k2, _, o, k4, ws, rfl, k5⟩ := s.fix _ _ _ f
      exact h7 _ _ _ _ l' ⟨s.ex0, s.ex, s.keep0, s.nw0, s.old0, fun a e => (s.pool a e).1, s.pin, r⟩ ⟨k2, ws, k4, k5⟩ q
    exact ⟨fun S' H' env σ s q => fin s (r := .val .non) .non q, fun S' H' env σ r v s q z => fin s q z, fun _ _ _ _ _ z => z.elim, fun _ _ _ _ _ z => z.elim, fun _ _ _ _ _ _ _ _ _ _ _ _ z => z.elim⟩
end
end DL
end

section
set_option Elab.async false
set_option linter.all false
set_option maxRecDepth 100000
set_option maxHeartbeats 4000000
namespace DL
open PySem PySem.Spec PyProof.Rows L2
open Evl (Ex)
/-! ### the list at a known place: read, written, handed on -/
section
variable {K : PySem.W.Frag} {B : Bs} {S H S' H' : Hp} {env : En} {σ : L2.St}
theorem SR.putF {i : Nat} {l l' : FxL} {p : Addr} {o' : HO} (s : SR K B S H env σ) (h : Has env i (.fix p l)) (r : FxAt K S l' o') : SR K B S (upd H p o') (env.set i (some (.fix p l'))) σ := by
  obtain ⟨h1, h2, h3, vs, h4, h5⟩ := s.fix i p l h
  have npa : ∀ a, B.pa = some a → a ≠ p := fun a e c => by
    obtain ⟨_, o, q⟩ := s.pool a e
    rw [c, h3] at q
    cases q
  have ow : ∀ {j m}, Has (env.set i (some (.fix p l'))) j (.own m) → j ≠ i ∧ Has env j (.own m) := fun {j m} e => by
    by_cases z : j = i
    · subst z
      cases set_self e
    · exact ⟨z, set_other e z⟩
  have fx : ∀ {j q m}, Has (env.set i (some (.fix p l'))) j (.fix q m) → ∃ m', Has env j (.fix q m') := fun {j q m} e => by
    by_cases z : j = i
    · subst z
      cases set_self e
      exact ⟨l, h⟩
    · exact ⟨m, set_other e z⟩
  refine ⟨s.ex0, s.nw0, fun a o e c => ?_, fun a e => ?_, by rw [List.length_set]; exact s.len, fun a o e => ?_, fun j d e => ?_, fun j m e => ?_, fun j k m n q e1 e2 e3 e4 => s.dis j k m n q (ow e1).2 (ow e2).2 e3 e4, fun j e => ?_, fun a e => ?_, fun j q m e => ?_, fun j k q m n e1 e2 e3 => ?_, fun j k q m n e1 e2 => ?_, fun a e => by rw [upd_ne (npa a e)]; exact s.pin a e⟩
  · rw [upd_ne (fun z => by rw [z, h3] at e; cases e)]
    exact s.keep0 a o e c
  · by_cases z : a = p
    · subst z
      exact h3
    · rw [upd_ne z] at e
      exact s.old0 a e
  · rw [upd_ne (fun z => by rw [z, h2] at e; cases e)]
    exact s.ex a o e
  · by_cases z : j = i
    · subst z
      exact nomatch set_self e
    · exact s.val j d (set_other e z)
  · obtain ⟨c, e⟩ := ow e
    obtain ⟨q, ws, q1, q2, q3, q4, q5⟩ := s.own j m e
    refine ⟨q, ws, q1, q2, q3, ?_, q5⟩
    rw [upd_ne (fun z => s.dfx i j p l m h e (by rw [← z]; exact q1))]
    exact q4
  · by_cases z : j = i
    · subst z
      exact nomatch set_self e
    · exact s.pl j (set_other e z)
  · obtain ⟨⟨y, l', cells, pos, big, seed, cnt, bud, k1, k2, k3⟩, o⟩ := s.pool a e
    exact ⟨⟨y, l', cells, pos, big, seed, cnt, bud, (upd_ne (npa a e)).trans k1, k2, k3⟩, o⟩
  · by_cases z : j = i
    · subst z
      cases set_self e
      exact ⟨h1, h2, h3, o', upd_same, r⟩
    · have e' := set_other e z
      obtain ⟨k1, k2, k3, ws, k4, k5⟩ := s.fix j q m e'
      refine ⟨k1, k2, k3, ws, ?_, k5⟩
      rw [upd_ne (fun c => z (s.dff j i p m l (by rw [← c]; exact e') h))]
      exact k4
  · obtain ⟨m', e1⟩ := fx e1
    exact s.dfx j k q m' n e1 (ow e2).2 e3
  · obtain ⟨m', e1⟩ := fx e1
    obtain ⟨n', e2⟩ := fx e2
    exact s.dff j k q m' n' e1 e2
end
/-- left[e] -/
def dIxF (i : Nat) (mb : DM) : DM := fun env Q => (∃ p l0, Has env i (.fix p (.lst l0))) ∧ mb env fun env1 r => match env1[i]? with
  | some (some (.fix _ (.lst l))) => mIx (.lst l) r.data fun q => Q env1 q
  | _ => False
/-- left[e] = v -/
def dPutF (i : Nat) (mi m : DM) : DSM := fun E env => dKeep m env fun env1 r => (∃ p l0, Has env1 i (.fix p (.lst l0))) ∧ mi env1 fun env2 k => match r, k, env2[i]? with
  | .val d, .val (.int j), some (some (.fix p (.lst l))) => ∃ n, ixN l.length j = some n ∧ E.nx (env2.set i (some (.fix p (.lst (l.set n d)))))
  | _, _, _ => False
section
variable {X : Cx} {a b : Expr} {ma mb : DM} {ta tb : TE} {i : Nat} {x : Str} {xp tp pos : Pos}
theorem de_ixF (hv : PE X a (tVar i)) (hb : DE X b mb tb) (hs : PlainIx b) : DE X (.Subscript a b pos) (dIxF i mb) (tOp (rIx X.K) (tVar i) tb) := by
  refine ⟨pe_ix ix_seq hv hb.1 hs, fun B S H env σ Q Qv s q k => ?_⟩
  obtain ⟨⟨p, l0, c0⟩, q⟩ := q
  obtain ⟨h1, _⟩ := s.fix i p _ c0
  refine ⟨_, h1, hb.2 B S H env σ _ _ s q fun y H2 S2 env2 r2 e2 q2 => ?_⟩
  split at q2
  · rename_i p' l c
    obtain ⟨k1, k2, k3, o, k4, vs, rfl, k5⟩ := e2.sr.fix i p' _ c
    cases Slt.ref h1 k1
    exact opd_ix S2 H2 (.ref p) y (.lst l) r2.data _ _ e2.sr.ex (.inr ⟨p, vs, l, rfl, rfl, k4, k5⟩) e2.look1 q2 fun v H3 S3 q n q3 => k v H3 S3 env2 q (.fin e2.t n) q3
  · exact q2.elim
theorem ds_putF (hv : PE X (.Name x xp) (tVar i)) (hb : DE X b mb tb) (ha : DE X a ma ta)
    (hss : ∀ v, assign (.Subscript (.Name x xp) b tp) X.env v = (do
      let ov ← holding [v] (eval (.Name x xp) X.env)
      let iv ← holding [v, ov] (eval b X.env)
      standAt tp
      holding [v, ov, iv] (setItem ov iv v)
      release [v, ov, iv] []) := by intro _; rfl)
    (hs : swapsWithSole [.Subscript (.Name x xp) b tp] a pos.line X.env = pure false := by rfl) (hw : swappedStores [.Subscript (.Name x xp) b tp] a X.env = pure none := by rfl)
    (h1 : (assignEach [.Subscript (.Name x xp) b tp] X.env).map (·.2) = [assign (.Subscript (.Name x xp) b tp) X.env] := by rfl) : DS X (.Assign [.Subscript (.Name x xp) b tp] a pos) (dPutF i mb ma) (tAsg ta (gSub (tVar i) tb rSetL)) := by
  obtain ⟨t1, t2⟩ := de_keep ha
  refine ⟨ps_asg t1 (pg_sub hv hb.1 set_list hss) hs hw h1, fun B S H env σ E D s q e => ?_⟩
  refine t2 B S H env σ _ _ s q fun v H1 S1 env1 r z1 q1 => ?_
  obtain ⟨⟨p0, l0, c0⟩, q1⟩ := q1
  obtain ⟨ho, _⟩ := z1.sr.fix i p0 _ c0
  refine ⟨_, ho, hb.2 B S1 H1 env1 σ _ _ z1.sr q1 fun w H2 S2 env2 k z2 q2 => ?_⟩
  split at q2
  · rename_i d j p l c
    obtain ⟨n, n1, n2⟩ := q2
    obtain ⟨y1, y2, y3, o, y4, vs, rfl, y5⟩ := z2.sr.fix i p _ c
    cases Slt.ref ho y1
    have e2 : w = .int j := by
      have h' : Rep X.K S2 w (.int j) := z2.res
      cases h'
      rfl
    refine ⟨_, vs, j, n, rfl, e2, y4, by rw [y5.length]; exact n1, ?_⟩
    have r1 : Rep X.K S1 v d := z1.res
    exact e.nx S2 _ _ σ (z2.sr.putF (l' := .lst _) c ⟨_, rfl, y5.set n (r1.mono z2.go.ex)⟩) n2
  · exact q2.elim
/-! the recursion: f(.., left) -/
abbrev DIA' := En → (En → List R → Addr → List D → Prop) → Prop
def DFA (X : Cx) (i : Nat) (es : List Expr) (m : DIA') (t : TA) : Prop := PA X es t ∧ ∀ (B : Bs) (S H : Hp) (env : En) (σ : L2.St) (Q : En → List R → Addr → List D → Prop) (Qv : List V → Hp → Prop), SR X.K B S H env σ → m env Q →
  (∀ vs p H' S' env' rs l, TPo X.K B S H env σ S' H' env' → LkA X.K B S' H' vs rs → Has env' i (.fix p (.lst l)) → vs.length + 1 = es.length → Q env' rs p l → Qv (vs ++ [.ref p]) H') → t σ H Qv
def dEndF (i : Nat) : DIA' := fun env Q => match env[i]? with
  | some (some (.fix p (.lst l))) => Q env [] p l
  | _ => False
def dConsF (m : DM) (n : DIA') : DIA' := fun env Q => m env fun env1 r => n env1 fun env2 rs p l => Q env2 (r :: rs) p l
def dCallF (i : Nat) (F : FMI) (n : DIA') : PM := fun env Q _ => n env fun env' rs p l => argsOk rs = true ∧ F rs l fun r l' => match r with
  | .val d => Q (env'.set i (some (.fix p (.lst l')))) d
  | _ => False
variable {k : Nat} {f : Addr} {fd : FuncData} {ps : List Str} {F : FMI} {e : Expr} {es : List Expr} {n : DIA'} {tn : TA} {np : Nat}
theorem dfa_end (hv : PE X a (tVar i)) (hs : starEach (a :: []) X.env = (false, eval a X.env) :: starEach [] X.env := by rfl) : DFA X i [a] (dEndF i) (tCons (tVar i) tNil) := by
  refine ⟨pa_cons hv pa_nil hs, fun B S H env σ Q Qv s q k => ?_⟩
  unfold dEndF at q
  split at q
  · rename_i p l c
    obtain ⟨h1, _⟩ := s.fix i p _ c
    exact ⟨_, h1, k [] p H S env [] l (.refl s) .nil c rfl q⟩
  · exact q.elim
theorem dfa_cons (ha : DE X a ma ta) (hb : DFA X i es n tn) (hs : starEach (a :: es) X.env = (false, eval a X.env) :: starEach es X.env := by rfl) : DFA X i (a :: es) (dConsF ma n) (tCons ta tn) := by
  refine ⟨pa_cons ha.1 hb.1 hs, fun B S H env σ Q Qv s q k => ?_⟩
  refine ha.2 B S H env σ _ _ s q fun x H1 S1 env1 r1 e1 q1 => ?_
  refine hb.2 B S1 H1 env1 σ _ _ e1.sr q1 fun vs p H2 S2 env2 rs l e2 l2 g len2 q2 => ?_
  refine k (x :: vs) p H2 S2 env2 (r1 :: rs) l (e1.t.trans e2) (.cons (RepB.go e1 rfl e2) (fun d e => ?_) (fun e => ?_) l2) g (by rw [List.length_cons, List.length_cons]; omega) q2
  · subst e
    have := e1.res
    exact Rep.mono e2.go.ex this
  · subst e
    exact e1.res
theorem SR.handed {K : PySem.W.Frag} {B : Bs} {S H S' H' : Hp} {env : En} {σ : L2.St} {r : R} {v : V} {p : Addr} {i : Nat} {l l' : FxL} {o' : HO} (s : SR K B S H env σ) (h : Has env i (.fix p l)) (d : DRet K S (lose H p) B.pa S' H' r v) (c1 : S' p = none) (c2 : H' p = some o') (c3 : FxAt K S' l' o') :
    SR K B S' H' (env.set i (some (.fix p l'))) σ := by
  obtain ⟨h1, h2, h3, vs, h4, h5⟩ := s.fix i p l h
  have up : ∀ b o, B.H0 b = some o → b ≠ p := fun b o w c => by
    rw [c, h3] at w
    cases w
  have npa : ∀ a, B.pa = some a → a ≠ p := fun a e c => by
    obtain ⟨_, o, q⟩ := s.pool a e
    exact up a o q c
  have ow : ∀ {j m}, Has (env.set i (some (.fix p l'))) j (.own m) → Has env j (.own m) := fun {j m} e => by
    by_cases z : j = i
    · subst z
      cases set_self e
    · exact set_other e z
  have fx : ∀ {j q m}, Has (env.set i (some (.fix p l'))) j (.fix q m) → ∃ m', Has env j (.fix q m') := fun {j q m} e => by
    by_cases z : j = i
    · subst z
      cases set_self e
      exact ⟨l, h⟩
    · exact ⟨m, set_other e z⟩
  refine ⟨s.ex0.trans d.ex, fun a o h e => ?_, fun a o h c => d.keep a o ((lose_ne (up a o h)).trans (s.keep0 a o h c)) c, fun a h => ?_, by rw [List.length_set]; exact s.len, d.sh, fun j d' e => ?_, fun j m e => ?_, fun j k m n q e1 e2 e3 e4 => s.dis j k m n q (ow e1) (ow e2) e3 e4, fun j e => ?_, fun a e => ?_, fun j q m e => ?_, fun j k q m n e1 e2 e3 => ?_, fun j k q m n e1 e2 => ?_, fun a e => by have k := d.pin a e; rw [lose_ne (npa a e)] at k; exact k.trans (s.pin a e)⟩
  · by_cases c : B.pa = some a
    · exact (d.pool a c).1
    · exact d.nw a o ((lose_ne (up a o h)).trans (s.keep0 a o h c)) (s.nw0 a o h e)
  · by_cases ne : a = p
    · subst ne
      exact h3
    · exact s.old0 a ((lose_ne ne).symm.trans (d.old a h))
  · by_cases z : j = i
    · subst z
      exact nomatch set_self e
    · obtain ⟨v, k1, k2⟩ := s.val j d' (set_other e z)
      exact ⟨v, k1, k2.mono d.ex⟩
  · have e' := ow e
    obtain ⟨q, ws, q1, q2, q3, q4, q5⟩ := s.own j m e'
    have ne : q ≠ p := fun z => s.dfx i j p l m h e' (by rw [← z]; exact q1)
    have np : B.pa ≠ some q := fun e => by
      obtain ⟨_, o, w⟩ := s.pool q e
      rw [q3] at w
      cases w
    exact ⟨q, ws, q1, d.nw _ _ ((lose_ne ne).trans q4) q2, q3, d.keep _ _ ((lose_ne ne).trans q4) np, q5.mono d.ex⟩
  · by_cases z : j = i
    · subst z
      exact nomatch set_self e
    · exact s.pl j (set_other e z)
  · obtain ⟨_, o⟩ := s.pool a e
    exact ⟨d.pool a e, o⟩
  · by_cases z : j = i
    · subst z
      cases set_self e
      exact ⟨h1, c1, h3, o', c2, c3⟩
    · have e' := set_other e z
      obtain ⟨k1, k2, k3, us, k4, k5⟩ := s.fix j q m e'
      have ne : q ≠ p := fun c => z (s.dff j i p m l (by rw [← c]; exact e') h)
      have np : B.pa ≠ some q := fun e => by
        obtain ⟨_, o, w⟩ := s.pool q e
        rw [k3] at w
        cases w
      exact ⟨k1, d.nw _ _ ((lose_ne ne).trans k4) k2, k3, us, d.keep _ _ ((lose_ne ne).trans k4) np, k5.mono d.ex⟩
  · obtain ⟨m', e1⟩ := fx e1
    exact s.dfx j k q m' n e1 (ow e2) e3
  · obtain ⟨m', e1⟩ := fx e1
    obtain ⟨n', e2⟩ := fx e2
    exact s.dff j k q m' n' e1 e2
theorem dp_callF (hF : FnOk X.prog X.w X.K X.mg X.base CX0 k f fd ps (spI X.K np F)) (hr : Room k X.A) (hg : Gl X x) (hm : X.mg x = some (.ref f)) (hk : PySem.W.keepIn X.K (.ref f) = true) (hb : Binds X.K fd ps [])
    (ha : DFA X i (e :: es) n tn) (hlen : (e :: es).length = np) (hdb : (x == ("__debug__" : Str)) = false := by decide) (he : starEach (e :: es) X.env = (false, eval e X.env) :: starEach es X.env := by rfl) (hpl : (backTo pos (starEach es X.env)).any (·.1) = false := by rfl) :
    DP X (.Call (.Name x xp) (e :: es) [] pos) (dCallF i F n) (tCall (spI X.K np F) [] E0 tn) := by
  refine ⟨pe_call hF hr hg hm hk hb .nil pass0 ha.1 hdb he hpl, fun B S H env σ Q Qx Qv s q xk k => ha.2 B S H env σ _ _ s q fun vs p H1 S1 env1 rs l z lk g len q1 => ?_⟩
  show spI X.K np F ((vs ++ [.ref p]) ++ []) H1 Qv E0
  rw [List.append_nil]
  obtain ⟨h1, h2, h3, o, h4, ws, rfl, h5⟩ := z.sr.fix i p _ g
  have hpa : B.pa ≠ some p := fun e => by
    obtain ⟨_, o, w⟩ := z.sr.pool p e
    rw [h3] at w
    cases w
  refine ⟨S1, B.pa, vs, p, rs, l, _, rfl, z.sr.ex, fun a e => (z.sr.pool a e).1, lk.args q1.1, by rw [List.length_append]; exact len.trans hlen, ⟨h2, hpa, ws, h4, h5⟩, q1.2, fun v H' S' r l' d ⟨c1, us, c2, c3⟩ qr => ?_⟩
  cases r with
  | val d0 => exact k v d0 H' S' _ (z.sr.handed (l' := .lst _) g d c1 c2 ⟨_, rfl, c3⟩) d.ret qr
  | own l2 => exact qr.elim
  | pool => exact qr.elim
  | brw i l2 => exact qr.elim
end
end DL
end

section
set_option Elab.async false
set_option linter.all false
set_option maxRecDepth 100000
set_option maxHeartbeats 4000000
namespace DL
open PySem PySem.Spec PyProof.Rows L2
/-! ### slices by natural numbers -/
theorem cutTo (xs : List D) (k : Nat) : DL.cutD xs none (some (k : Int)) = xs.take k := by
  unfold DL.cutD
  rw [HT.sIx_none, HT.sIx_nat, List.drop_zero, Nat.sub_zero]
  rcases Nat.le_total k xs.length with h | h
  · rw [Nat.min_eq_left h]
  · rw [Nat.min_eq_right h, List.take_of_length_le (Nat.le_refl _), List.take_of_length_le h]
theorem cutFrom (xs : List D) (k : Nat) : DL.cutD xs (some (k : Int)) none = xs.drop k := by
  unfold DL.cutD
  rw [HT.sIx_none, HT.sIx_nat]
  rcases Nat.le_total k xs.length with h | h
  · rw [Nat.min_eq_left h, List.take_of_length_le (by rw [List.length_drop]; exact Nat.le_refl _)]
  · rw [Nat.min_eq_right h, List.drop_of_length_le (Nat.le_refl _), List.drop_of_length_le h, List.take_nil]
theorem cutFrom1 (x : D) (xs : List D) : DL.cutD (x :: xs) (some 1) none = xs := cutFrom (x :: xs) 1
theorem atI_head (x : D) (xs : List D) : atI (x :: xs) 0 = some x := DL.atI_nat (k := 0) rfl
theorem cdiv_nat {m : Nat} (h : m ≤ 5000) (h2 : 0 < m) : CDivW 0 (m : Int) := ⟨by omega, by
  have : ((m : Int)).natAbs = m := by omega
  rw [this]
  have := Nat.log2_le_self m
  omega⟩
end DL
end

section
set_option Elab.async false
set_option linter.all false
set_option maxRecDepth 100000
set_option maxHeartbeats 4000000
namespace DL
open PySem PySem.Spec PyProof.Rows L2
open Evl (Ex)
/-! ### a loan: a def reads a name's own list, and hands back data without places -/
def flatD : D → Bool
  | .non => true
  | .bl _ => true
  | .int _ => true
  | .str _ => true
  | _ => false
theorem flat_rep {K : PySem.W.Frag} {S S' : Hp} {v : V} {d : D} (h : Rep K S v d) (f : flatD d = true) : Rep K S' v d := by
  cases h with
  | non => exact .non
  | bl b => exact .bl b
  | int i => exact .int i
  | str x => exact .str x
  | any => cases f
  | err _ _ => cases f
  | scr _ => cases f
  | lst _ _ => cases f
  | tup _ _ => cases f
  | ins _ _ _ _ => cases f
theorem flat_reps {K : PySem.W.Frag} {S S' : Hp} : ∀ {vs : List V} {ds : List D}, Reps K S vs ds → ds.all flatD = true → Reps K S' vs ds
  | _, _, .nil, _ => .nil
  | _, _, .cons h r, f => by
    rw [List.all_cons, Bool.and_eq_true] at f
    exact .cons (flat_rep h f.1) (flat_reps r f.2)
/-- the last argument is a name's own list, lent -/
abbrev DLN := En → (En → List R → List D → Prop) → Prop
def dEndN (i : Nat) : DLN := fun env Q => match env[i]? with
  | some (some (.own l)) => Q env [] l
  | _ => False
def dConsN (m : DM) (n : DLN) : DLN := fun env Q => m env fun env1 r => n env1 fun env2 rs l => Q env2 (r :: rs) l
def DNA (X : Cx) (i : Nat) (es : List Expr) (m : DLN) (t : TA) : Prop := PA X es t ∧ ∀ (B : Bs) (S H : Hp) (env : En) (σ : L2.St) (Q : En → List R → List D → Prop) (Qv : List V → Hp → Prop), SR X.K B S H env σ → m env Q →
  (∀ vs p H' S' env' rs l, TPo X.K B S H env σ S' H' env' → LkA X.K B S' H' vs rs → Has env' i (.own l) → Slt σ i (.ref p) → vs.length + 1 = es.length → Q env' rs l → Qv (vs ++ [.ref p]) H') → t σ H Qv
def dCallN (F : FM) (n : DLN) : DM := fun env Q => n env fun env' rs l => argsOk rs = true ∧ F (rs ++ [.val (.lst l)]) fun r => match r with
  | .val d => flatD d = true ∧ Q env' (.val d)
  | .own l2 => l2.all flatD = true ∧ Q env' (.own l2)
  | _ => False
section
variable {X : Cx} {a : Expr} {ma : DM} {ta : TE} {k : Nat} {f : Addr} {fd : FuncData} {ps : List Str} {F : FM} {x : Str} {p pos : Pos} {e : Expr} {es : List Expr} {n : DLN} {tn : TA} {np i : Nat}
theorem dna_end (hv : PE X a (tVar i)) (hs : starEach (a :: []) X.env = (false, eval a X.env) :: starEach [] X.env := by rfl) : DNA X i [a] (dEndN i) (tCons (tVar i) tNil) := by
  refine ⟨pa_cons hv pa_nil hs, fun B S H env σ Q Qv s q k => ?_⟩
  unfold dEndN at q
  split at q
  · rename_i l c
    obtain ⟨p, vs, h1, _⟩ := s.own i l c
    exact ⟨_, h1, k [] p H S env [] l (.refl s) .nil c h1 rfl q⟩
  · exact q.elim
theorem dna_cons (ha : DE X a ma ta) (hb : DNA X i es n tn) (hs : starEach (a :: es) X.env = (false, eval a X.env) :: starEach es X.env := by rfl) : DNA X i (a :: es) (dConsN ma n) (tCons ta tn) := by
  refine ⟨pa_cons ha.1 hb.1 hs, fun B S H env σ Q Qv s q k => ?_⟩
  refine ha.2 B S H env σ _ _ s q fun x H1 S1 env1 r1 e1 q1 => ?_
  refine hb.2 B S1 H1 env1 σ _ _ e1.sr q1 fun vs p H2 S2 env2 rs l e2 l2 g g2 len2 q2 => ?_
  refine k (x :: vs) p H2 S2 env2 (r1 :: rs) l (e1.t.trans e2) (.cons (RepB.go e1 rfl e2) (fun d e => ?_) (fun e => ?_) l2) g g2 (by rw [List.length_cons, List.length_cons]; omega) q2
  · subst e
    have := e1.res
    exact Rep.mono e2.go.ex this
  · subst e
    exact e1.res
theorem ArgR.app {K : PySem.W.Frag} {S : Hp} {pa : Option Addr} {v : V} {d : D} (r : Rep K S v d) : ∀ {vs : List V} {rs : List R}, ArgR K S pa vs rs → ArgR K S pa (vs ++ [v]) (rs ++ [.val d])
  | _, _, .nil => .val r .nil
  | _, _, .val h t => .val h (ArgR.app r t)
  | _, _, .pool h t => .pool h (ArgR.app r t)
theorem ArgR.mono {K : PySem.W.Frag} {S S' : Hp} {pa : Option Addr} (e : Ex S S') : ∀ {vs : List V} {rs : List R}, ArgR K S pa vs rs → ArgR K S' pa vs rs
  | _, _, .nil => .nil
  | _, _, .val h t => .val (h.mono e) (ArgR.mono e t)
  | _, _, .pool h t => .pool h (ArgR.mono e t)
/-- S, the lent list taken out again -/
theorem SR.lent {K : PySem.W.Frag} {B : Bs} {S H S' H' : Hp} {env : En} {σ : L2.St} {r : R} {v : V} {q : Addr} {i : Nat} {l : List D} {ws : List V} (s : SR K B S H env σ) (h : Has env i (.own l)) (hq : Slt σ i (.ref q)) (hw : H q = some (.lst ws)) (d : DRet K (upd S q (.lst ws)) H B.pa S' H' r v) :
    SR K B (lose S' q) H' env σ := by
  obtain ⟨p, vs, h1, h2, h3, h4, h5⟩ := s.own i l h
  cases Slt.ref hq h1
  have sub : Ex S (lose S' q) := fun a o e => by
    have ne : a ≠ q := fun z => by rw [z, h2] at e; cases e
    rw [lose_ne ne]
    exact d.ex a o (by rw [upd_ne ne]; exact e)
  have npq : ∀ a, B.pa = some a → a ≠ q := fun a e c => by
    obtain ⟨_, o, z⟩ := s.pool a e
    rw [c, h3] at z
    cases z
  have nw : ∀ a o, H a = some o → S a = none → lose S' q a = none := fun a o e z => by
    by_cases c : a = q
    · subst c
      exact lose_same
    · rw [lose_ne c]
      exact d.nw a o e (by rw [upd_ne c]; exact z)
  refine ⟨s.ex0.trans sub, fun a o e z => ?_, fun a o e c => d.keep a o (s.keep0 a o e c) c, fun a e => s.old0 a (d.old a e), s.len, fun a o e => ?_, fun j d' e => ?_, fun j m e => ?_, s.dis, s.pl, fun a e => ?_, fun j u m e => ?_, s.dfx, s.dff, fun a e => (d.pin a e).trans (s.pin a e)⟩
  · by_cases c : B.pa = some a
    · rw [lose_ne (npq a c)]
      exact (d.pool a c).1
    · exact nw a o (s.keep0 a o e c) (s.nw0 a o e z)
  · obtain ⟨_, e⟩ := lose_some e
    exact d.sh a o e
  · obtain ⟨v, k1, k2⟩ := s.val j d' e
    exact ⟨v, k1, k2.mono sub⟩
  · obtain ⟨u, us, k1, k2, k3, k4, k5⟩ := s.own j m e
    have np : B.pa ≠ some u := fun e => by
      obtain ⟨_, o, w⟩ := s.pool u e
      rw [k3] at w
      cases w
    exact ⟨u, us, k1, nw u _ k4 k2, k3, d.keep _ _ k4 np, k5.mono sub⟩
  · obtain ⟨y0, o⟩ := s.pool a e
    obtain ⟨w1, l1, cells, y1, y2, y3, y4, y5, y6, y7, y8⟩ := d.pool a e
    obtain ⟨z1, l2, cells2, x1, x2, x3, x4, x5, x6, x7, x8⟩ := y0
    have same : l1 = l2 := by
      have k := d.pin a e
      rw [y6, x6] at k
      injection k with k
      injection k
    subst same
    have nl : l1 ≠ q := fun c => by rw [c, h2] at x7; cases x7
    exact ⟨⟨by rw [lose_ne (npq a e)]; exact w1, l1, cells, y1, y2, y3, y4, y5, y6, by rw [lose_ne nl]; exact y7, y8⟩, o⟩
  · obtain ⟨k1, k2, k3, us, k4, k5⟩ := s.fix j u m e
    have np : B.pa ≠ some u := fun e => by
      obtain ⟨_, o, w⟩ := s.pool u e
      rw [k3] at w
      cases w
    exact ⟨k1, nw u _ k4 k2, k3, us, d.keep _ _ k4 np, k5.mono sub⟩
theorem de_callN (hF : FnOk X.prog X.w X.K X.mg X.base CX0 k f fd ps (spF X.K np F)) (hr : Room k X.A) (hg : Gl X x) (hm : X.mg x = some (.ref f)) (hk : PySem.W.keepIn X.K (.ref f) = true) (hb : Binds X.K fd ps [])
    (ha : DNA X i (e :: es) n tn) (hlen : (e :: es).length = np) (hdb : (x == ("__debug__" : Str)) = false := by decide) (he : starEach (e :: es) X.env = (false, eval e X.env) :: starEach es X.env := by rfl) (hpl : (backTo pos (starEach es X.env)).any (·.1) = false := by rfl) :
    DE X (.Call (.Name x p) (e :: es) [] pos) (dCallN F n) (tCall (spF X.K np F) [] E0 tn) := by
  refine ⟨pe_call hF hr hg hm hk hb .nil pass0 ha.1 hdb he hpl, fun B S H env σ Q Qv s q k => ha.2 B S H env σ _ _ s q fun vs p H1 S1 env1 rs l z lk g g2 len q1 => ?_⟩
  show spF X.K np F ((vs ++ [.ref p]) ++ []) H1 Qv E0
  rw [List.append_nil]
  obtain ⟨p', ws, h1, h2, h3, h4, h5⟩ := z.sr.own i l g
  cases Slt.ref g2 h1
  have e1 : Ex S1 (upd S1 p (.lst ws)) := Ex.new h2
  have exH : Ex (upd S1 p (.lst ws)) H1 := fun a o w => by
    by_cases c : a = p
    · subst c
      rw [upd_same] at w
      cases w
      exact h4
    · rw [upd_ne c] at w
      exact z.sr.ex a o w
  have npp : ∀ a, B.pa = some a → a ≠ p := fun a w c => by
    obtain ⟨_, o, y⟩ := z.sr.pool a w
    rw [c, h3] at y
    cases y
  refine ⟨upd S1 p (.lst ws), B.pa, rs ++ [.val (.lst l)], _, exH, fun a w => ?_, (lk.args q1.1 |>.mono e1).app (.lst upd_same (h5.mono e1)), by rw [List.length_append]; exact len.trans hlen, q1.2, fun v H' S' r d qr => ?_⟩
  · obtain ⟨⟨y0, l1, cells, y1, y2, y3, y4, y5, y6, y7, y8⟩, _⟩ := z.sr.pool a w
    exact ⟨by rw [upd_ne (npp a w)]; exact y0, l1, cells, y1, y2, y3, y4, y5, y6, e1 _ _ y7, y8⟩
  · have s' := z.sr.lent g g2 h4 d
    have go : Go (Ow B env1 σ) S1 H1 (lose S' p) H' := by
      refine ⟨fun a o w => ?_, fun a o w nz => d.keep a o w fun c => nz (.inl c), fun a o w nz u => ?_, d.old⟩
      · have ne : a ≠ p := fun c => by rw [c, h2] at w; cases w
        rw [lose_ne ne]
        exact d.ex a o (by rw [upd_ne ne]; exact w)
      · by_cases ne : a = p
        · subst ne
          exact lose_same
        · rw [lose_ne ne]
          exact d.nw a o w (by rw [upd_ne ne]; exact u)
    have go' : Go (Ow B env σ) S H (lose S' p) H' := z.go.trans go fun x o _ nz w => nz (Ow.frz z.fz w)
    have dr := d.ret
    cases r with
    | val d0 => exact k v H' (lose S' p) env1 (.val d0) ⟨s', go', z.fz, flat_rep dr qr.1⟩ qr.2
    | own l2 =>
      obtain ⟨p2, us, rfl, k1, k2, k3, k4⟩ := dr
      have ne : p2 ≠ p := fun c => by
        have w : H1 p2 = none := k2
        rw [c, h4] at w
        cases w
      exact k _ H' (lose S' p) env1 (.own l2) ⟨s', go', z.fz, p2, us, rfl, by rw [lose_ne ne]; exact k1, z.sr.hp0 k2, z.go.old p2 k2, fun w => z.sr.now k2 w, k3, flat_reps k4 qr.1⟩ qr.2
    | pool => exact qr.elim
    | brw j l2 => exact qr.elim
/-- by what the i-th name holds -/
def dEither (i : Nat) (m1 m2 : DM) : DM := fun env Q => match env[i]? with
  | some (some (.own _)) => m1 env Q
  | _ => m2 env Q
theorem de_either {a : Expr} {m1 m2 : DM} {ta : TE} (h1 : DE X a m1 ta) (h2 : DE X a m2 ta) : DE X a (dEither i m1 m2) ta := by
  refine ⟨h1.1, fun B S H env σ Q Qv s q k => ?_⟩
  unfold dEither at q
  split at q
  · exact h1.2 B S H env σ Q Qv s q k
  · exact h2.2 B S H env σ Q Qv s q k
/-! ### (list(e), tuple(e))[c]: the list stays one's own -/
end
end DL
end

section
set_option Elab.async false
set_option linter.all false
set_option maxRecDepth 100000
set_option maxHeartbeats 4000000
namespace DL
open PySem PySem.Spec PyProof.Rows L2
/-! ### trees -/
inductive Tr where
  | nd (a : Option Int) (cs : List Tr)
def optD : Option Int → D
  | none => .non
  | some i => .int i
def ndD (n : Option Int × Nat) : D := .tup [optD n.1, .int n.2]
mutual
def Tr.d : Tr → D
  | .nd a cs => .tup [optD a, .tup (Tr.ds cs)]
def Tr.ds : List Tr → List D
  | [] => []
  | t :: r => t.d :: Tr.ds r
end
mutual
def Tr.pre : Tr → List (Option Int × Nat)
  | .nd a cs => (a, cs.length) :: Tr.pres cs
def Tr.pres : List Tr → List (Option Int × Nat)
  | [] => []
  | t :: r => t.pre ++ Tr.pres r
end
mutual
def Tr.size : Tr → Nat
  | .nd _ cs => Tr.sizes cs + 1
def Tr.sizes : List Tr → Nat
  | [] => 0
  | t :: r => t.size + Tr.sizes r
end
mutual
theorem Tr.pre_length : ∀ t : Tr, t.pre.length = t.size
  | .nd a cs => by rw [Tr.pre, Tr.size, List.length_cons, Tr.pres_length cs]
theorem Tr.pres_length : ∀ ts : List Tr, (Tr.pres ts).length = Tr.sizes ts
  | [] => by rw [Tr.pres, Tr.sizes]; rfl
  | t :: r => by rw [Tr.pres, Tr.sizes, List.length_append, Tr.pre_length t, Tr.pres_length r]
end
theorem Tr.ds_length : ∀ ts : List Tr, (Tr.ds ts).length = ts.length
  | [] => by rw [Tr.ds]; rfl
  | t :: r => by rw [Tr.ds, List.length_cons, List.length_cons, Tr.ds_length r]
theorem Tr.ds_append : ∀ ts us : List Tr, Tr.ds (ts ++ us) = Tr.ds ts ++ Tr.ds us
  | [], us => by rw [Tr.ds]; rfl
  | t :: r, us => by rw [Tr.ds, List.cons_append, Tr.ds, Tr.ds_append r us]; rfl
theorem Tr.pres_append : ∀ ts us : List Tr, Tr.pres (ts ++ us) = Tr.pres ts ++ Tr.pres us
  | [], us => by rw [Tr.pres]; rfl
  | t :: r, us => by rw [Tr.pres, List.cons_append, Tr.pres, Tr.pres_append r us, List.append_assoc]
theorem Tr.sizes_append : ∀ ts us : List Tr, Tr.sizes (ts ++ us) = Tr.sizes ts + Tr.sizes us
  | [], us => by rw [Tr.sizes, List.nil_append, Nat.zero_add]
  | t :: r, us => by rw [Tr.sizes, List.cons_append, Tr.sizes, Tr.sizes_append r us, Nat.add_assoc]
theorem Tr.len_sizes : ∀ ts : List Tr, ts.length ≤ Tr.sizes ts
  | [] => Nat.zero_le _
  | .nd a cs :: r => by
    have := Tr.len_sizes r
    rw [Tr.sizes, Tr.size, List.length_cons]
    omega
/-- the last of a list -/
theorem last_add {α : Type} (l : List α) (x : α) : (l ++ [x])[(l ++ [x]).length - 1]? = some x := by simp
/-! ### the nodes of a tree -/
def F_nodes : FM := fun rs Qd => ∃ t : Tr, rs = [.val t.d] ∧ t.size ≤ 100000 ∧ Qd (.own (t.pre.map ndD))
/-! ### the tree of nodes -/
def F_tree : FM := fun rs Qd => ∃ t : Tr, rs = [.val (.lst (t.pre.map ndD))] ∧ t.size ≤ 100000 ∧ Qd (.val t.d)
end DL
end

section
set_option Elab.async false
set_option linter.all false
set_option maxRecDepth 100000
set_option maxHeartbeats 4000000
namespace DL
open PySem PySem.Spec PyProof.Rows L2
open Evl (Ex)
/-! ### things: their fields -/
def putNs (f : Str) : List Str → List Str
  | [] => [f]
  | n :: ns => if n == f then n :: ns else n :: putNs f ns
def putDs (f : Str) (d : D) : List Str → List D → List D
  | [], _ => [d]
  | _, [] => [d]
  | n :: ns, x :: l => if n == f then d :: l else x :: putDs f d ns l
theorem putF_ns (f : Str) (y : V) : ∀ fs : List (Str × V), (putF f y fs).map (·.1) = putNs f (fs.map (·.1))
  | [] => rfl
  | (g, x) :: r => by
    show (if g = f then (g, y) :: r else (g, x) :: putF f y r).map (·.1) = (if g == f then g :: r.map (·.1) else g :: putNs f (r.map (·.1)))
    by_cases c : g = f
    · rw [if_pos c, if_pos (beq_iff_eq.mpr c)]
      rfl
    · rw [if_neg c, if_neg (fun z => c (beq_iff_eq.mp z)), List.map_cons, putF_ns f y r]
theorem putF_ds {K : PySem.W.Frag} {S : Hp} {f : Str} {y : V} {d : D} (h : Rep K S y d) : ∀ {fs : List (Str × V)} {l : List D}, Reps K S (fs.map (·.2)) l → Reps K S ((putF f y fs).map (·.2)) (putDs f d (fs.map (·.1)) l)
  | [], _, r => by
    cases r
    exact .cons h .nil
  | (g, x) :: fs, _, r => by
    cases r with
    | cons r1 r2 =>
      rename_i d1 ds
      show Reps K S ((if g = f then (g, y) :: fs else (g, x) :: putF f y fs).map (·.2)) (if g == f then d :: ds else d1 :: putDs f d (fs.map (·.1)) ds)
      by_cases c : g = f
      · rw [if_pos c, if_pos (beq_iff_eq.mpr c)]
        exact .cons h r2
      · rw [if_neg c, if_neg (fun z => c (beq_iff_eq.mp z))]
        exact .cons r1 (putF_ds h r2)
/-- name.f, the name's own thing -/
def dFldF (C0 : Addr) (i : Nat) (f : Str) : DM := fun env Q => match env[i]? with
  | some (some (.fix _ (.ins C _ ns l))) => C = C0 ∧ ∃ d, lookF f ns l = some d ∧ Q env (.val d)
  | _ => False
/-- name.f = e -/
def dPutA (C0 : Addr) (i : Nat) (f : Str) (m : DM) : DSM := fun E env => dKeep m env fun env1 r => match r, env1[i]? with
  | .val d, some (some (.fix p (.ins C dx ns l))) => C = C0 ∧ ns.length < 1000 ∧ E.nx (env1.set i (some (.fix p (.ins C dx (putNs f ns) (putDs f d ns l)))))
  | _, _ => False
/-- name.f op= e, plain ints -/
def dAugA (C0 : Addr) (i : Nat) (f : Str) (o : Int → Int → Int) (m : DM) : DSM := fun E env => match env[i]? with
  | some (some (.fix _ (.ins C1 _ ns l))) => C1 = C0 ∧ ∃ x, lookF f ns l = some (.int x) ∧ m env fun env1 r => match r, env1[i]? with
    | .val (.int y), some (some (.fix p (.ins C dx ns l))) => C = C0 ∧ ns.length < 1000 ∧ E.nx (env1.set i (some (.fix p (.ins C dx (putNs f ns) (putDs f (.int (o x y)) ns l)))))
    | _, _ => False
  | _ => False
section
variable {X : Cx} {a b : Expr} {ma mb : DM} {ta tb : TE} {i : Nat} {x f : Str} {xp tp pos : Pos} {C0 : Addr}
theorem de_fldF (hc : Cls X.K C0) (hn : NoAttr X.K C0 f) (hv : PE X a (tVar i)) (hb : attributeBase a f X.env (eval a X.env) = eval a X.env := by rfl) : DE X (.Attribute a f pos) (dFldF C0 i f) (tFld X.K (tVar i) f) := by
  refine ⟨pe_fld hv hb, fun B S H env σ Q Qv s q k => ?_⟩
  unfold dFldF at q
  split at q
  · rename_i p C dx ns l c
    obtain ⟨rfl, d, q1, q2⟩ := q
    obtain ⟨h1, h2, h3, o, h4, fs, rfl, rfl, h5⟩ := s.fix i p _ c
    obtain ⟨w, w1, w2⟩ := h5.lookF q1
    exact ⟨_, h1, p, _, dx, fs, w, rfl, h4, hc, hn, w1, k w H S env (.val d) ⟨s, .refl, .refl _, w2⟩ q2⟩
  · exact q.elim
theorem ds_putA (hc : Cls X.K C0) (hn : NoAttr X.K C0 f) (hv : PE X b (tVar i)) (ha : DE X a ma ta) (hs : swapsWith a (some (.Attribute b f tp)) pos.line X.env = pure false := by rfl) :
    DS X (.Assign [.Attribute b f tp] a pos) (dPutA C0 i f ma) (sFld X.K (tVar i) ta f) := by
  obtain ⟨t1, t2⟩ := de_keep ha
  refine ⟨ps_fld hv t1 hs, fun B S H env σ E D s q e => ?_⟩
  refine t2 B S H env σ _ _ s q fun v H1 S1 env1 r z q1 => ?_
  split at q1
  · rename_i d p C' dx ns l c
    obtain ⟨rfl, q1⟩ := q1
    obtain ⟨h1, h2, h3, o, h4, fs, rfl, rfl, h5⟩ := z.sr.fix i p _ c
    rw [List.length_map] at q1
    refine ⟨_, h1, p, C', dx, fs, rfl, h4, hc, hn, q1.1, ?_⟩
    exact e.nx S1 _ _ σ (z.sr.putF (l' := .ins C' dx (putNs f (fs.map (·.1))) (putDs f d (fs.map (·.1)) l)) c ⟨_, rfl, putF_ns f v fs, putF_ds z.res h5⟩) q1.2
  · exact q1.elim
theorem ds_augA {op : Operator} {o : Int → Int → Int} {rd : V → V → Hp → VK → Prop} (hc : Cls X.K C0) (hn : NoAttr X.K C0 f) (hv : PE X b (tVar i)) (ha : DE X a ma ta) (hop : InOp X op rd) (hrd : ∀ x y H Q, Q (.int (o x y)) H → rd (.int x) (.int y) H Q) :
    DS X (.AugAssign (.Attribute b f tp) op a pos) (dAugA C0 i f o ma) (sFldAug X.K (tVar i) ta rd f) := by
  refine ⟨ps_fldaug hv ha.1 hop, fun B S H env σ E D s q e => ?_⟩
  unfold dAugA at q
  split at q
  · rename_i p0 C dx0 ns0 l0 c0
    obtain ⟨rfl, x, q1, q2⟩ := q
    obtain ⟨g1, g2, g3, o', g4, fs0, rfl, rfl, g6⟩ := s.fix i p0 _ c0
    obtain ⟨w, w1, w2⟩ := g6.lookF q1
    cases w2
    refine ⟨_, g1, p0, _, dx0, fs0, _, rfl, g4, hc, hn, w1, ?_⟩
    refine ha.2 B S H env σ _ _ s q2 fun v H1 S1 env1 r z q3 => ?_
    split at q3
    · rename_i y p C' dx ns l c
      obtain ⟨rfl, q3⟩ := q3
      obtain ⟨h1, h2, h3, o', h4, fs, rfl, rfl, h5⟩ := z.sr.fix i p _ c
      cases Slt.ref g1 h1
      have zr : Rep X.K S1 v (.int y) := z.res
      cases zr
      rw [List.length_map] at q3
      refine hrd x y H1 _ ⟨dx, fs, h4, q3.1, ?_⟩
      exact e.nx S1 _ _ σ (z.sr.putF (l' := .ins C' dx (putNs f (fs.map (·.1))) (putDs f (.int (o x y)) (fs.map (·.1)) l)) c ⟨_, rfl, putF_ns f _ fs, putF_ds (.int _) h5⟩) q3.2
    · exact q3.elim
  · exact q.elim
end
end DL
end

section
set_option Elab.async false
set_option linter.all false
set_option maxRecDepth 100000
set_option maxHeartbeats 4000000
namespace DL
open PySem PySem.Spec PyProof.Rows L2
open Evl (Ex)
/-! ### promises of defs that may raise -/
theorem _root_.L2.Fun.okN {P : Program} {w : World} {K : PySem.W.Frag} {mg : Str → Option Value} {base : Heap} {x qual : Str} {st : Stmt} {f : Addr} {fd : FuncData} {N ps : List Str} {k : Nat} {sp : Sp} (F : Fun K x qual st f fd) (Sc : FnScope N ps (defScope st)) (len : ∀ vs H Q E, sp vs H Q E → vs.length = ps.length)
    (h : ∀ (cdv : Value) (A : Around) (outer : List Env) (s : Shared) (H : Hp) (vs : List V) (Q : VK) (E : XK), Room k (A.deeper (envOfC qual (defScope st) s.heap.objs.size f cdv)) → sp vs H Q E →
      ∃ t, PSs (cxOf (L2N.CX P w) P w K mg base N qual (defScope st) f cdv A outer s H E) (defBody st) t ∧ t { nx := fun _ H' => Q .non H', rt := Q } (L2.start N vs) H) : FnOk P w K mg base (L2N.CX P w) (k + 1) f fd ps sp := by
  obtain ⟨oc, od, kV, doc, pm, an, cdv, ct, osl, rfl, lk, hcd⟩ := F.ex
  exact fn_of lk hcd Sc len fun A outer s H vs Q E hr hsp => h cdv A outer s H vs Q E hr hsp
abbrev FME := List R → (R → Prop) → (Xd → Prop) → Prop
abbrev FMM := List R → FxL → (R → FxL → Prop) → (Xd → Prop) → Prop
/-- what an error leaves behind -/
def Lft (K : PySem.W.Frag) (S H : Hp) (pa : Option Addr) (Qx : Xd → Prop) (E : XK) : Prop := ∀ (x : Xd) (d : Addr) (v : V) (H' S' : Hp), DRet K S H pa S' H' (.val .non) .non → H d = none → S' d = none → H' d = some (.xd [(x.a, v)]) → Rep K S' v x.v → Qx x → E (.ref x.C) (some d) H'
def spE (K : PySem.W.Frag) (n : Nat) (F : FME) : Sp := fun vs H Q E => ∃ (S : Hp) (pa : Option Addr) (rs : List R) (Qd : R → Prop) (Qx : Xd → Prop), Ex S H ∧ (∀ a, pa = some a → PoolAt S H a) ∧ ArgR K S pa vs rs ∧ vs.length = n ∧ F rs Qd Qx ∧
  (∀ v H' S' r, DRet K S H pa S' H' r v → Qd r → Q v H') ∧ Lft K S H pa Qx E
/-- the first argument is a thing that it may change -/
def spM (K : PySem.W.Frag) (n : Nat) (F : FMM) : Sp := fun vs H Q E => ∃ (S : Hp) (pa : Option Addr) (p : Addr) (vs1 : List V) (rs : List R) (l : FxL) (Qd : R → FxL → Prop) (Qx : Xd → Prop), vs = .ref p :: vs1 ∧ Ex S H ∧ (∀ a, pa = some a → PoolAt S H a) ∧ ArgR K S pa vs1 rs ∧ vs.length = n ∧
  (S p = none ∧ pa ≠ some p ∧ ∃ o, H p = some o ∧ FxAt K S l o) ∧ F rs l Qd Qx ∧
  (∀ v H' S' r l', DRet K S (lose H p) pa S' H' r v → (S' p = none ∧ ∃ o, H' p = some o ∧ FxAt K S' l' o) → Qd r l' → Q v H') ∧ Lft K S (lose H p) pa Qx E
theorem spE.imp {K : PySem.W.Frag} {n : Nat} {F F' : FME} (h : ∀ rs Q Qx, F' rs Q Qx → F rs Q Qx) : ∀ vs H Q E, spE K n F' vs H Q E → spE K n F vs H Q E :=
  fun vs H Q E ⟨S, pa, rs, Qd, Qx, h1, h2, h3, h4, h5, h6⟩ => ⟨S, pa, rs, Qd, Qx, h1, h2, h3, h4, h _ _ _ h5, h6⟩
theorem spM.imp {K : PySem.W.Frag} {n : Nat} {F F' : FMM} (h : ∀ rs l Q Qx, F' rs l Q Qx → F rs l Q Qx) : ∀ vs H Q E, spM K n F' vs H Q E → spM K n F vs H Q E :=
  fun vs H Q E ⟨S, pa, p, vs1, rs, l, Qd, Qx, h0, h1, h2, h3, h4, h5, h6, h7⟩ => ⟨S, pa, p, vs1, rs, l, Qd, Qx, h0, h1, h2, h3, h4, h5, h _ _ _ _ h6, h7⟩
/-- what a body makes of the arguments -/
def bodyE (n : Nat) (m : DSM) : FME := fun rs Qd Qx => m { nx := fun _ => Qd (.val .non), rt := fun _ r => Qd r, xc := Qx } (startD n rs)
def startM (n : Nat) (p : Addr) (l : FxL) (rs : List R) : En := (some (.fix p l) :: rs.map R.nv) ++ List.replicate (n - (rs.length + 1)) none
def bodyM (n : Nat) (m : DSM) : FMM := fun rs l Qd Qx => ∀ p : Addr, m { nx := fun env => ∃ l', Has env 0 (.fix p l') ∧ Qd (.val .non) l', rt := fun env r => ∃ l', Has env 0 (.fix p l') ∧ Qd r l', xc := Qx } (startM n p l rs)
section
variable {K : PySem.W.Frag} {S H S' H' : Hp} {pa : Option Addr} {B : Bs} {env : En} {σ : L2.St}
theorem SR.entryM {vs : List V} {rs : List R} {N : List Str} {p : Addr} {l : FxL} {o : HO} (h1 : Ex S H) (h2 : ∀ a, pa = some a → PoolAt S H a) (h3 : ArgR K S pa vs rs) (p1 : S p = none) (p2 : pa ≠ some p) (p3 : H p = some o) (p4 : FxAt K S l o) : SR K ⟨S, lose H p, pa⟩ S H (startM N.length p l rs) (L2.start N (.ref p :: vs)) := by
  have hl := h3.length
  have get : ∀ i n, Has (startM N.length p l rs) i n → (i = 0 ∧ n = .fix p l) ∨ ∃ j, i = j + 1 ∧ (rs.map R.nv)[j]? = some (some n) := fun i n h => by
    cases i with
    | zero =>
      have h' : some (some (Nv.fix p l)) = some (some n) := h
      cases h'
      exact .inl ⟨rfl, rfl⟩
    | succ j =>
      have h' : (rs.map R.nv ++ List.replicate (N.length - (rs.length + 1)) none)[j]? = some (some n) := h
      rcases Nat.lt_or_ge j (rs.map R.nv).length with c | c
      · rw [List.getElem?_append_left c] at h'
        exact .inr ⟨j, rfl, h'⟩
      · rw [List.getElem?_append_right c] at h'
        have := List.mem_of_getElem? h'
        rw [List.mem_replicate] at this
        cases this.2
  have slt : ∀ i v, (V.ref p :: vs)[i]? = some v → Slt (L2.start N (.ref p :: vs)) i v := fun i v h => by
    unfold L2.start
    have c : i < ((V.ref p :: vs).map some).length := by
      rw [List.length_map]
      exact (List.getElem?_eq_some_iff.mp h).1
    show ((V.ref p :: vs).map some ++ List.replicate (N.length - (V.ref p :: vs).length) none)[i]? = some (some v)
    rw [List.getElem?_append_left c, List.getElem?_map, h]
    rfl
  have slt1 : ∀ j v, vs[j]? = some v → Slt (L2.start N (.ref p :: vs)) (j + 1) v := fun j v h => slt (j + 1) v h
  refine ⟨Ex.refl _, fun _ _ _ h => h, fun a o h _ => (lose_some h).2, fun a h => ?_, ?_, h1, fun i d h => ?_, fun i m h => ?_, fun i j m m2 q h _ _ _ => ?_, fun i h => ?_, fun a h => ⟨h2 a h, ?_⟩, fun i q m h => ?_, fun i j q m m2 _ h _ => ?_, fun i j q m m2 h h' => ?_, fun a h => congrArg headO (lose_ne (H := H) (fun c => p2 (by rw [← c]; exact h))).symm⟩
  · by_cases c : a = p
    · subst c
      exact lose_same
    · exact (lose_ne c).trans h
  · unfold startM L2.start
    simp only [List.length_append, List.length_map, List.length_replicate, List.length_cons]
    omega
  · rcases get i _ h with ⟨_, h⟩ | ⟨j, rfl, g⟩
    · cases h
    · obtain ⟨v, q1, ⟨d', e, q2⟩ | ⟨e, _⟩⟩ := h3.get g
      · cases e
        exact ⟨v, slt1 j v q1, q2⟩
      · cases e
  · rcases get i _ h with ⟨_, h⟩ | ⟨j, rfl, g⟩
    · cases h
    · obtain ⟨v, q1, ⟨d', e, q2⟩ | ⟨e, _⟩⟩ := h3.get g
      · cases e
      · cases e
  · rcases get i _ h with ⟨_, h⟩ | ⟨j, rfl, g⟩
    · cases h
    · obtain ⟨v, q1, ⟨d', e, q2⟩ | ⟨e, _⟩⟩ := h3.get g
      · cases e
      · cases e
  · rcases get i _ h with ⟨_, h⟩ | ⟨j, rfl, g⟩
    · cases h
    · obtain ⟨v, q1, ⟨d', e, q2⟩ | ⟨e, a, q2, q3⟩⟩ := h3.get g
      · cases e
      · subst q3
        exact ⟨a, q2, slt1 j _ q1⟩
  · obtain ⟨_, l, cells, pos, big, seed, cnt, bud, k1, _⟩ := h2 a h
    exact ⟨_, (lose_ne (fun c => p2 (by rw [← c]; exact h))).trans k1⟩
  · rcases get i _ h with ⟨e, h⟩ | ⟨j, rfl, g⟩
    · cases h
      subst e
      exact ⟨slt 0 _ rfl, p1, lose_same, o, p3, p4⟩
    · obtain ⟨v, q1, ⟨d', e, q2⟩ | ⟨e, _⟩⟩ := h3.get g
      · cases e
      · cases e
  · rcases get j _ h with ⟨_, h⟩ | ⟨j', rfl, g⟩
    · cases h
    · obtain ⟨v, q1, ⟨d', e, q2⟩ | ⟨e, _⟩⟩ := h3.get g
      · cases e
      · cases e
  · rcases get i _ h with ⟨e, h⟩ | ⟨j1, rfl, g⟩
    · rcases get j _ h' with ⟨e', h'⟩ | ⟨j2, rfl, g⟩
      · rw [e, e']
      · obtain ⟨v, q1, ⟨d', e, q2⟩ | ⟨e, _⟩⟩ := h3.get g
        · cases e
        · cases e
    · obtain ⟨v, q1, ⟨d', e, q2⟩ | ⟨e, _⟩⟩ := h3.get g
      · cases e
      · cases e
/-- what stands behind a def's run -/
theorem SR.dret {S0 H0 : Hp} {r : R} {v : V} (s : SR K ⟨S0, H0, pa⟩ S' H' env σ) (h : RetR K ⟨S0, H0, pa⟩ S' H' r v) : DRet K S0 H0 pa S' H' r v :=
  ⟨s.ex0, s.ex, s.keep0, s.nw0, s.old0, fun a e => (s.pool a e).1, s.pin, h⟩
end
section
variable {P : Program} {w : World} {K : PySem.W.Frag} {mg : Str → Option Value} {base : Heap} {x qual : Str} {st : Stmt} {f : Addr} {fd : FuncData} {N ps : List Str} {k : Nat} {m : DSM}
theorem lft_xc {A : Around} {outer : List Env} {s : Shared} {H : Hp} {E : XK} {cdv : Value} {scope : Scope} {S H0 : Hp} {pa : Option Addr} {Qx : Xd → Prop} (h : Lft K S H0 pa Qx E) : ∀ σ, XcOk (cxOf (L2N.CX P w) P w K mg base N qual scope f cdv A outer s H E) ⟨S, H0, pa⟩ σ Qx :=
  fun σ S' H' env d x v sr h0 h1 hd r q => wk_of (W := fun cls d _ H => E cls d H) (L2N.takes_of rfl rfl rfl rfl) (h x d v H' S' (sr.dret (r := .val .non) (v := .non) .non) h0 h1 hd r q)
theorem fn_dE (F : Fun K x qual st f fd) (Sc : FnScope N ps (defScope st))
    (hbody : ∀ (cdv : Value) (A : Around) (outer : List Env) (s : Shared) (H : Hp) (E : XK), Room k (A.deeper (envOfC qual (defScope st) s.heap.objs.size f cdv)) → ∃ t, DSs (cxOf (L2N.CX P w) P w K mg base N qual (defScope st) f cdv A outer s H E) (defBody st) m t) :
    FnOk P w K mg base (L2N.CX P w) (k + 1) f fd ps (spE K ps.length (bodyE N.length m)) := by
  refine F.okN Sc (fun vs H Q E h => ?_) fun cdv A outer s H vs Q E hr h => ?_
  · obtain ⟨S, pa, rs, Qd, Qx, h1, h2, h3, h4, h5⟩ := h
    exact h4
  · obtain ⟨S, pa, rs, Qd, Qx, h1, h2, h3, h4, h5, h6, h7⟩ := h
    obtain ⟨t, t1, t2⟩ := hbody cdv A outer s H E hr
    refine ⟨t, t1, t2 ⟨S, H, pa⟩ S H _ _ _ _ (SR.entry h1 h2 h3) h5 ?_⟩
    exact ⟨fun S' H' env σ s q => h6 _ _ _ (.val .non) (s.dret .non) q, fun S' H' env σ r v s q z => h6 _ _ _ _ (s.dret q) z, fun _ _ _ _ _ z => z.elim, fun _ _ _ _ _ z => z.elim, lft_xc h7⟩
theorem fn_dM (F : Fun K x qual st f fd) (Sc : FnScope N ps (defScope st))
    (hbody : ∀ (cdv : Value) (A : Around) (outer : List Env) (s : Shared) (H : Hp) (E : XK), Room k (A.deeper (envOfC qual (defScope st) s.heap.objs.size f cdv)) → ∃ t, DSs (cxOf (L2N.CX P w) P w K mg base N qual (defScope st) f cdv A outer s H E) (defBody st) m t) :
    FnOk P w K mg base (L2N.CX P w) (k + 1) f fd ps (spM K ps.length (bodyM N.length m)) := by
  refine F.okN Sc (fun vs H Q E h => ?_) fun cdv A outer s H vs Q E hr h => ?_
  · obtain ⟨S, pa, p, vs1, rs, l, Qd, Qx, h0, h1, h2, h3, h4, h5⟩ := h
    exact h4
  · obtain ⟨S, pa, p, vs1, rs, l, Qd, Qx, rfl, h1, h2, h3, h4, ⟨p1, p2, o, p3, p4⟩, h5, h6, h7⟩ := h
    obtain ⟨t, t1, t2⟩ := hbody cdv A outer s H E hr
    refine ⟨t, t1, t2 ⟨S, lose H p, pa⟩ S H _ _ _ _ (SR.entryM h1 h2 h3 p1 p2 p3 p4) (h5 p) ?_⟩
    have fin : ∀ {S' H' : Hp} {env : En} {σ : L2.St} {r : R} {v : V}, SR K ⟨S, lose H p, pa⟩ S' H' env σ → RetR K ⟨S, lose H p, pa⟩ S' H' r v → (∃ l', Has env 0 (.fix p l') ∧ Qd r l') → Q v H' := fun s r ⟨l', f, q⟩ => by
      obtain ⟨_, k2, _, o, k4, k5⟩ := s.fix _ _ _ f
      exact h6 _ _ _ _ l' (s.dret r) ⟨k2, o, k4, k5⟩ q
    exact ⟨fun S' H' env σ s q => fin s (r := .val .non) .non q, fun S' H' env σ r v s q z => fin s q z, fun _ _ _ _ _ z => z.elim, fun _ _ _ _ _ z => z.elim, lft_xc h7⟩
end
/-! ### calls -/
section
variable {K : PySem.W.Frag} {S H S' H' : Hp} {B : Bs} {env : En} {σ : L2.St}
/-- a thing is lost from sight -/
theorem SR.lost {p : Addr} {i : Nat} {l : FxL} {r : R} {v : V} (s : SR K B S H env σ) (h : Has env i (.fix p l)) (d : DRet K S (lose H p) B.pa S' H' r v) : SR K B S' H' (env.set i none) σ := by
  obtain ⟨h1, h2, h3, o, h4, h5⟩ := s.fix i p l h
  have s1 : SR K B S H (env.set i none) σ := by
    have q := s.drop (i := i) (n := some (.ref p))
    have e : σ.set i (some (.ref p)) = σ := by
      refine List.ext_getElem? fun j => ?_
      by_cases c : i = j
      · subst c
        rw [List.getElem?_set_self (List.getElem?_eq_some_iff.mp h1).1]
        exact h1.symm
      · rw [List.getElem?_set_ne c]
    rw [e] at q
    exact q
  refine s1.given h3 (fun w => ?_) d
  rcases w with w | ⟨j, m, w1, w2⟩ | ⟨j, m, w1⟩
  · obtain ⟨_, o, z⟩ := s.pool p w
    rw [h3] at z
    cases z
  · by_cases c : j = i
    · subst c
      exact nomatch set_self w1
    · exact s.dfx i j p l m h (set_other w1 c) w2
  · by_cases c : j = i
    · subst c
      exact nomatch set_self w1
    · exact c (s.dff j i p m l (set_other w1 c) h)
theorem XcOk.lft {X : Cx} {Qx : Xd → Prop} (s : SR X.K B S H env σ) (xk : XcOk X B σ Qx) : Lft X.K S H B.pa Qx (WE (wk X) σ) := fun x d v H' S' dr h0 h1 hd r q => xk S' H' env d x v (s.ret dr) (s.hp0 h0) h1 hd r q
theorem XcOk.lftM {X : Cx} {Qx : Xd → Prop} {p : Addr} {i : Nat} {l : FxL} (s : SR X.K B S H env σ) (h : Has env i (.fix p l)) (xk : XcOk X B σ Qx) : Lft X.K S (lose H p) B.pa Qx (WE (wk X) σ) := fun x d v H' S' dr h0 h1 hd r q => xk S' H' _ d x v (s.lost h dr) (by
  by_cases c : d = p
  · rw [c]
    exact (s.fix i p l h).2.2.1
  · exact s.hp0 ((lose_ne c).symm.trans h0)) h1 hd r q
end
def dCallE (F : FME) (n : DAM) : PM := fun env Q Qx => n env fun env' rs => argsOk rs = true ∧ F rs (fun r => match r with
  | .val d => Q env' d
  | _ => False) Qx
/-- f(w, e, ..), w the i-th name's thing -/
def dCallM (i : Nat) (F : FMM) (n : DAM) : PM := fun env Q Qx => match env[i]? with
  | some (some (.fix _ _)) => n env fun env' rs => argsOk rs = true ∧ match env'[i]? with
    | some (some (.fix p l)) => F rs l (fun r l' => match r with
      | .val d => Q (env'.set i (some (.fix p l'))) d
      | _ => False) Qx
    | _ => False
  | _ => False
/-- w.m(), which changes nothing and raises nothing -/
def dAsk (i : Nat) (F : FMM) : DM := fun env Q => match env[i]? with
  | some (some (.fix _ l)) => F [] l (fun r l' => l' = l ∧ match r with
    | .val d => Q env (.val d)
    | _ => False) (fun _ => False)
  | _ => False
section
variable {X : Cx} {k : Nat} {f C : Addr} {fd : FuncData} {ps : List Str} {FE : FME} {FM' : FMM} {x m : Str} {p pos apos p1 p2 : Pos} {e o : Expr} {es : List Expr} {n : DAM} {tn : TA} {np i : Nat}
theorem de_callE (hF : FnOk X.prog X.w X.K X.mg X.base (L2N.CX X.prog X.w) k f fd ps (spE X.K np FE)) (hr : Room k X.A) (hg : Gl X x) (hm : X.mg x = some (.ref f)) (hk : PySem.W.keepIn X.K (.ref f) = true) (hb : Binds X.K fd ps [])
    (ha : DA X (e :: es) n tn) (hlen : (e :: es).length = np) (hdb : (x == ("__debug__" : Str)) = false := by decide) (he : starEach (e :: es) X.env = (false, eval e X.env) :: starEach es X.env := by rfl) (hpl : (backTo pos (starEach es X.env)).any (·.1) = false := by rfl) :
    DP X (.Call (.Name x p) (e :: es) [] pos) (dCallE FE n) (tCallS (spE X.K np FE) (WE (wk X)) tn) := by
  refine ⟨pe_callS hF hr hg hm hk hb (fun σ => L2N.passAt takes_wk σ) ha.1 hdb he hpl, fun B S H env σ Q Qx Qv s q xk k => ha.2 B S H env σ _ _ s q fun vs H1 S1 env1 rs z l len q1 => ?_⟩
  refine ⟨S1, B.pa, rs, _, Qx, z.sr.ex, fun a e => (z.sr.pool a e).1, l.args q1.1, len.trans hlen, q1.2, fun v H' S' r d q => ?_, xk.lft z.sr⟩
  cases r with
  | val d0 => exact k v d0 H' S' env1 (z.sr.ret d) d.ret q
  | own l => exact q.elim
  | brw i l => exact q.elim
  | pool => exact q.elim
/-- what is behind the arguments of a call with a thing -/
theorem spM_of {B : Bs} {S H : Hp} {env : En} {σ : L2.St} {vs : List V} {rs : List R} {Q : En → D → Prop} {Qx : Xd → Prop} {Qv : VK} {q0 : Addr} (s : SR X.K B S H env σ) (h0 : Slt σ i (.ref q0)) (l : LkA X.K B S H vs rs) (len : vs.length + 1 = np) (h : argsOk rs = true ∧ match env[i]? with
    | some (some (.fix p l)) => FM' rs l (fun r l' => match r with
      | .val d => Q (env.set i (some (.fix p l'))) d
      | _ => False) Qx
    | _ => False) (xk : XcOk X B σ Qx) (k : ∀ v d H' S' env', SR X.K B S' H' env' σ → Rep X.K S' v d → Q env' d → Qv v H') : spM X.K np FM' (.ref q0 :: vs) H Qv (WE (wk X) σ) := by
  obtain ⟨ha, h⟩ := h
  split at h
  · rename_i p l0 c
    obtain ⟨h1, h2, h3, o, h4, h5⟩ := s.fix i p _ c
    cases Slt.ref h0 h1
    have hpa : B.pa ≠ some q0 := fun e => by
      obtain ⟨_, o, w⟩ := s.pool q0 e
      rw [h3] at w
      cases w
    refine ⟨S, B.pa, q0, vs, rs, l0, _, Qx, rfl, s.ex, fun a e => (s.pool a e).1, l.args ha, by rw [List.length_cons]; exact len, ⟨h2, hpa, o, h4, h5⟩, h, fun v H' S' r l' d ⟨c1, o', c2, c3⟩ q => ?_, xk.lftM s c⟩
    cases r with
    | val d0 => exact k v d0 H' S' _ (s.handed c d c1 c2 c3) d.ret q
    | own l2 => exact q.elim
    | pool => exact q.elim
    | brw i l2 => exact q.elim
  · exact h.elim
theorem dp_callM0 (hF : FnOk X.prog X.w X.K X.mg X.base (L2N.CX X.prog X.w) k f fd ps (spM X.K np FM')) (hr : Room k X.A) (hg : Gl X x) (hm : X.mg x = some (.ref f)) (hk : PySem.W.keepIn X.K (.ref f) = true) (hb : Binds X.K fd ps [])
    (hv : PE X o (tVar i)) (ha : DA X es n tn) (hlen : es.length + 1 = np) (hs : starEach (o :: es) X.env = (false, eval o X.env) :: starEach es X.env := by rfl) (hdb : (x == ("__debug__" : Str)) = false := by decide) (hpl : (backTo pos (starEach es X.env)).any (·.1) = false := by rfl) :
    DP X (.Call (.Name x p) (o :: es) [] pos) (dCallM i FM' n) (tCallS (spM X.K np FM') (WE (wk X)) (tCons (tVar i) tn)) := by
  refine ⟨pe_callS hF hr hg hm hk hb (fun σ => L2N.passAt takes_wk σ) (pa_cons hv ha.1 hs) hdb hs hpl, fun B S H env σ Q Qx Qv s q xk k => ?_⟩
  unfold dCallM at q
  split at q
  · rename_i q0 l0 c
    obtain ⟨h1, _⟩ := s.fix i q0 _ c
    refine ⟨_, h1, ha.2 B S H env σ _ _ s q fun vs H1 S1 env1 rs z l len q1 => ?_⟩
    exact spM_of z.sr h1 l (by omega) q1 xk k
  · exact q.elim
end
end DL
end

section
set_option Elab.async false
set_option linter.all false
set_option maxRecDepth 100000
set_option maxHeartbeats 4000000
namespace L2
open PySem PySem.Spec PyProof.Rows
section
variable {X : Cx} {CX : CXT} {k : Nat} {f C : Addr} {fd : FuncData} {ps : List Str} {sp : Sp} {E : St → XK} {x m : Str} {p pos apos : Pos} {e o : Expr} {es : List Expr} {ta : TE} {t : TA}
def tMethX (C : Addr) (m : Str) (sp : Sp) (E : St → XK) (ta : TE) (t : TA) : TE := fun σ H Q => ta σ H fun x H1 => ∃ a dx fs, x = .ref a ∧ H1 a = some (.ins C dx fs) ∧ fs.lookup m = none ∧ t σ H1 fun vs H2 => sp (x :: vs) H2 Q (E σ)
theorem pe_methX {pl : Sem Bool} (ho : PE X o ta) (c : Cls X.K C) (hm : Meth X.K C m f) (F : FnOk X.prog X.w X.K X.mg X.base CX k f fd ps sp) (hr : Room k X.A) (hb : Binds X.K fd ps []) (hx : ∀ σ, PassesAt CX X σ (E σ)) (ha : PA X (e :: es) t)
    (hst : starEach (e :: es) X.env = (false, eval e X.env) :: starEach es X.env := by rfl) (hpl : (backTo pos (starEach es X.env)).any (·.1) = false := by rfl)
    (ht : eval (.Call (.Attribute o m apos) (e :: es) [] pos) X.env = (eval o X.env >>= fun ov => standAt apos.atName >>= fun _ => holding [ov] (getMethod ov m pl) >>= fun y => callWith pos y.1 y.2 (backTo pos (starEach (e :: es) X.env)) (backToKw pos (keywordEach [] X.env))) := by rfl) :
    PE X (.Call (.Attribute o m apos) (e :: es) [] pos) (tMethX C m sp E ta t) := by
  refine ⟨fun pins s σ H Q I h => ?_⟩
  refine PySem.W.methodCall_KW (pl := pl) (thn (ho.run pins s σ H _ I h) fun u s1 ⟨x, H1, I1, rx, a, dx, fs, ex, ea, l, q⟩ => ?_) ht
  subst ex
  obtain rfl : u = Value.ref a := rx
  refine getmeth_ok I1 ea c hm l ?_
  refine PySem.W.callWith_K (first := [.ref a]) (h₀ := X.base) I.ok.mod.kin hm.kp (thn (ha.run pos pins s1 σ H1 _ I1 q) fun us s2 ⟨vs, H2, I2, r, q2⟩ => ⟨I2.kIn, ?_⟩) hst hpl
  exact run_fnS (us := .ref a :: us) (vs := .ref a :: vs) F hr hb (hx σ) I2 (.cons rfl r) q2
theorem pe_methX0 {pl : Sem Bool} (ho : PE X o ta) (c : Cls X.K C) (hm : Meth X.K C m f) (F : FnOk X.prog X.w X.K X.mg X.base CX k f fd ps sp) (hr : Room k X.A) (hb : Binds X.K fd ps []) (hx : ∀ σ, PassesAt CX X σ (E σ))
    (ht : eval (.Call (.Attribute o m apos) [] [] pos) X.env = (eval o X.env >>= fun ov => standAt apos.atName >>= fun _ => holding [ov] (getMethod ov m pl) >>= fun y => callWith pos y.1 y.2 (backTo pos (starEach [] X.env)) (backToKw pos (keywordEach [] X.env))) := by rfl) :
    PE X (.Call (.Attribute o m apos) [] [] pos) (tMethX C m sp E ta tNil) := by
  refine ⟨fun pins s σ H Q I h => ?_⟩
  refine PySem.W.methodCall_KW (pl := pl) (thn (ho.run pins s σ H _ I h) fun u s1 ⟨x, H1, I1, rx, a, dx, fs, ex, ea, l, q⟩ => ?_) ht
  subst ex
  obtain rfl : u = Value.ref a := rx
  refine getmeth_ok I1 ea c hm l ?_
  exact PySem.W.callWith_K0 (first := [.ref a]) I1.kIn hm.kp (run_fnS (us := [.ref a]) (vs := [.ref a]) F hr hb (hx σ) I1 (.cons rfl .nil) q)
/-- C(e, ..) whose __init__ may raise -/
def tMakeX (C : Addr) (sp : Sp) (E : St → XK) (t : TA) : TE := fun σ H Q => t σ H fun vs H1 => ∀ x dx, H1 x = none → H1 dx = none → dx ≠ x →
  sp (.ref x :: vs) (upd (upd H1 dx (.own x)) x (.ins C dx [])) (fun v H2 => v = .non ∧ Q (.ref x) H2) (E σ)
theorem pe_makeX (M : Mk X.K C f) (F : FnOk X.prog X.w X.K X.mg X.base CX k f fd ps sp) (hr : Room (k + 1) X.A) (hg : Gl X x) (hm : X.mg x = some (.ref C)) (hb : Binds X.K fd ps []) (hx : ∀ σ, PassesAt CX X σ (E σ))
    (ha : PA X (e :: es) t) (hdb : (x == ("__debug__" : Str)) = false := by decide) (he : starEach (e :: es) X.env = (false, eval e X.env) :: starEach es X.env := by rfl) (hpl : (backTo pos (starEach es X.env)).any (·.1) = false := by rfl) :
    PE X (.Call (.Name x p) (e :: es) [] pos) (tMakeX C sp E t) := by
  refine ⟨fun pins s σ H Q I h => ?_⟩
  refine wpAny_Call_Name_kw (ld_glob I hg hm ?_ hdb)
  refine PySem.W.callWith_K (h₀ := X.base) I.ok.mod.kin M.kp (thn (ha.run pos pins s σ H _ I h) fun us s1 ⟨vs, H1, I1, r, q⟩ => ⟨I1.kIn, ?_⟩) he hpl
  have nx : H1 (s1.heap.objs.size + 1) = none := I1.hok.fresh (Nat.le_succ _)
  have nd : H1 s1.heap.objs.size = none := I1.hok.fresh (Nat.le_refl _)
  have hq := q _ _ nx nd (Nat.ne_of_lt (Nat.lt_succ_self _))
  have I2 := Inv.made (C := C) I1
  have r2 : Vals (V.ref (s1.heap.objs.size + 1) :: vs) (Value.ref (s1.heap.objs.size + 1) :: us) := .cons rfl r
  have hl : (Value.ref (s1.heap.objs.size + 1) :: us).length = ps.length := by
    have w := r2.length
    rw [F.len _ _ _ _ hq] at w
    exact w.symm
  have b := hb _ (Value.ref (s1.heap.objs.size + 1) :: us) I2.kIn (by rw [List.append_nil]; exact hl)
  rw [List.append_nil] at b
  show wpAny _ _ (call (.ref C) us) _ _ _
  refine wpAny_call (make_map (f := f) I1.kIn M.makes M.init (beq_iff_eq.mp M.fn) (codeAny_mono (F.run _ X.stack _ _ ⟨Value.ref (s1.heap.objs.size + 1) :: us, []⟩ _ _ _ (E σ) (hr.make C us []) (I2.env0.make C us []) b r2 hq) fun r s' hq' => ?_))
  cases r with
  | error e => exact hx σ pins _ _ e s' I2 hq'
  | ok fl =>
    cases fl with
    | ret u =>
      obtain ⟨v, H', I3, rv, ev, q3⟩ := I2.after hq'
      subst ev
      exact ⟨rv, ⟨V.ref (s1.heap.objs.size + 1), H', I3, rfl, q3⟩⟩
    | next => exact False.elim hq'
    | brk => exact False.elim hq'
    | cont => exact False.elim hq'
end
end L2
namespace DL
open PySem PySem.Spec PyProof.Rows L2
open Evl (Ex)
def noF (m : Str) (ns : List Str) : Bool := ns.all fun n => !(m == n)
theorem noF_lookup {m : Str} : ∀ {fs : List (Str × V)}, noF m (fs.map (·.1)) = true → fs.lookup m = none
  | [], _ => rfl
  | (n, v) :: fs, h => by
    unfold noF at h
    rw [List.map_cons, List.all_cons, Bool.and_eq_true] at h
    rw [List.lookup_cons]
    cases q : m == n with
    | true =>
      have h1 := h.1
      rw [q] at h1
      cases h1
    | false => exact noF_lookup (fs := fs) h.2
/-- w.m(e, ..) -/
def dMethM (C0 : Addr) (i : Nat) (m : Str) (F : FMM) (n : DAM) : PM := fun env Q Qx => match env[i]? with
  | some (some (.fix _ (.ins C _ ns _))) => C = C0 ∧ noF m ns = true ∧ n env fun env' rs => argsOk rs = true ∧ match env'[i]? with
    | some (some (.fix p l)) => F rs l (fun r l' => match r with
      | .val d => Q (env'.set i (some (.fix p l'))) d
      | _ => False) Qx
    | _ => False
  | _ => False
/-- w.m(), nothing is changed -/
def dAskM (C0 : Addr) (i : Nat) (m : Str) (F : FMM) : DM := fun env Q => match env[i]? with
  | some (some (.fix _ (.ins C dx ns l))) => C = C0 ∧ noF m ns = true ∧ F [] (.ins C dx ns l) (fun r l' => l' = .ins C dx ns l ∧ match r with
    | .val d => Q env (.val d)
    | _ => False) (fun _ => False)
  | _ => False
theorem xc_never {X : Cx} {B : Bs} {σ : L2.St} : XcOk X B σ fun _ => False := fun _ _ _ _ _ _ _ _ _ _ _ z => z.elim
section
variable {X : Cx} {k : Nat} {f C : Addr} {fd : FuncData} {ps : List Str} {F : FMM} {x m a txt : Str} {p pos apos p1 p2 xp : Pos} {e o : Expr} {es : List Expr} {n : DAM} {tn : TA} {np i : Nat}
theorem dp_meth {pl : Sem Bool} (c : Cls X.K C) (hm : Meth X.K C m f) (hF : FnOk X.prog X.w X.K X.mg X.base (L2N.CX X.prog X.w) k f fd ps (spM X.K np F)) (hr : Room k X.A) (hb : Binds X.K fd ps []) (hv : PE X o (tVar i)) (ha : DA X (e :: es) n tn) (hlen : (e :: es).length + 1 = np)
    (hst : starEach (e :: es) X.env = (false, eval e X.env) :: starEach es X.env := by rfl) (hpl : (backTo pos (starEach es X.env)).any (·.1) = false := by rfl)
    (ht : eval (.Call (.Attribute o m apos) (e :: es) [] pos) X.env = (eval o X.env >>= fun ov => standAt apos.atName >>= fun _ => holding [ov] (getMethod ov m pl) >>= fun y => callWith pos y.1 y.2 (backTo pos (starEach (e :: es) X.env)) (backToKw pos (keywordEach [] X.env))) := by rfl) :
    DP X (.Call (.Attribute o m apos) (e :: es) [] pos) (dMethM C i m F n) (tMethX C m (spM X.K np F) (WE (wk X)) (tVar i) tn) := by
  refine ⟨pe_methX hv c hm hF hr hb (fun σ => L2N.passAt takes_wk σ) ha.1 hst hpl ht, fun B S H env σ Q Qx Qv s q xk k => ?_⟩
  unfold dMethM at q
  split at q
  · rename_i q0 C' dx ns l0 c0
    obtain ⟨rfl, nf, q⟩ := q
    obtain ⟨h1, _, _, o', h4, fs, rfl, rfl, _⟩ := s.fix i q0 _ c0
    refine ⟨_, h1, q0, dx, fs, rfl, h4, noF_lookup nf, ha.2 B S H env σ _ _ s q fun vs H1 S1 env1 rs z l len q1 => ?_⟩
    exact spM_of z.sr h1 l (by omega) q1 xk k
  · exact q.elim
theorem dp_meth0 {pl : Sem Bool} (c : Cls X.K C) (hm : Meth X.K C m f) (hF : FnOk X.prog X.w X.K X.mg X.base (L2N.CX X.prog X.w) k f fd ps (spM X.K 1 F)) (hr : Room k X.A) (hb : Binds X.K fd ps []) (hv : PE X o (tVar i))
    (ht : eval (.Call (.Attribute o m apos) [] [] pos) X.env = (eval o X.env >>= fun ov => standAt apos.atName >>= fun _ => holding [ov] (getMethod ov m pl) >>= fun y => callWith pos y.1 y.2 (backTo pos (starEach [] X.env)) (backToKw pos (keywordEach [] X.env))) := by rfl) :
    DP X (.Call (.Attribute o m apos) [] [] pos) (dMethM C i m F dNil) (tMethX C m (spM X.K 1 F) (WE (wk X)) (tVar i) tNil) := by
  refine ⟨pe_methX0 hv c hm hF hr hb (fun σ => L2N.passAt takes_wk σ) ht, fun B S H env σ Q Qx Qv s q xk k => ?_⟩
  unfold dMethM at q
  split at q
  · rename_i q0 C' dx ns l0 c0
    obtain ⟨rfl, nf, q⟩ := q
    obtain ⟨h1, _, _, o', h4, fs, rfl, rfl, _⟩ := s.fix i q0 _ c0
    refine ⟨_, h1, q0, dx, fs, rfl, h4, noF_lookup nf, ?_⟩
    exact spM_of s h1 .nil rfl q xk k
  · exact q.elim
theorem de_ask {pl : Sem Bool} (c : Cls X.K C) (hm : Meth X.K C m f) (hF : FnOk X.prog X.w X.K X.mg X.base (L2N.CX X.prog X.w) k f fd ps (spM X.K 1 F)) (hr : Room k X.A) (hb : Binds X.K fd ps []) (hv : PE X o (tVar i))
    (ht : eval (.Call (.Attribute o m apos) [] [] pos) X.env = (eval o X.env >>= fun ov => standAt apos.atName >>= fun _ => holding [ov] (getMethod ov m pl) >>= fun y => callWith pos y.1 y.2 (backTo pos (starEach [] X.env)) (backToKw pos (keywordEach [] X.env))) := by rfl) :
    DE X (.Call (.Attribute o m apos) [] [] pos) (dAskM C i m F) (tMethX C m (spM X.K 1 F) (WE (wk X)) (tVar i) tNil) := by
  refine ⟨pe_methX0 hv c hm hF hr hb (fun σ => L2N.passAt takes_wk σ) ht, fun B S H env σ Q Qv s q k => ?_⟩
  unfold dAskM at q
  split at q
  · rename_i q0 C' dx ns l0 c0
    obtain ⟨rfl, nf, q⟩ := q
    obtain ⟨h1, h2, h3, o', h4, fs, rfl, rfl, h5⟩ := s.fix i q0 _ c0
    refine ⟨_, h1, q0, dx, fs, rfl, h4, noF_lookup nf, ?_⟩
    have hpa : B.pa ≠ some q0 := fun e => by
      obtain ⟨_, o, w⟩ := s.pool q0 e
      rw [h3] at w
      cases w
    refine ⟨S, B.pa, q0, [], [], .ins C' dx (fs.map (·.1)) l0, _, fun _ => False, rfl, s.ex, fun a e => (s.pool a e).1, .nil, rfl, ⟨h2, hpa, _, h4, fs, rfl, rfl, h5⟩, q, fun v H' S' r l' d ⟨c1, o', c2, c3⟩ q => ?_, xc_never.lftM s c0⟩
    obtain ⟨rfl, q⟩ := q
    have s' := s.handed c0 d c1 c2 c3
    have e0 : env.set i (some (.fix q0 (.ins C' dx (fs.map (·.1)) l0))) = env := by
      refine List.ext_getElem? fun j => ?_
      by_cases z : i = j
      · subst z
        rw [List.getElem?_set_self (List.getElem?_eq_some_iff.mp c0).1]
        exact c0.symm
      · rw [List.getElem?_set_ne z]
    rw [e0] at s'
    have go : Go (Ow B env σ) S H S' H' := by
      refine ⟨d.ex, fun a o h nz => ?_, fun a o h nz e => ?_, fun a h => ?_⟩
      · have ne : a ≠ q0 := fun z => nz (.inr (.inr ⟨i, _, z ▸ c0⟩))
        exact d.keep a o ((lose_ne ne).trans h) fun e => nz (.inl e)
      · have ne : a ≠ q0 := fun z => nz (.inr (.inr ⟨i, _, z ▸ c0⟩))
        exact d.nw a o ((lose_ne ne).trans h) e
      · by_cases ne : a = q0
        · subst ne
          rw [c2] at h
          cases h
        · exact (lose_ne ne).symm.trans (d.old a h)
    cases r with
    | val d0 => exact k v H' S' env (.val d0) ⟨s', go, .refl _, d.ret⟩ q
    | own l2 => exact q.elim
    | pool => exact q.elim
    | brw i l2 => exact q.elim
  · exact q.elim
/-! raise -/
inductive SmallD : D → Prop
  | str (y : Str) : y.length ≤ 1000 → SmallD (.str y)
  | int (i : Int) : i.natAbs.log2 < 1000 → SmallD (.int i)
def dRaise (C : Addr) (a : Str) (m : DM) : DSM := fun E env => m env fun _ r => match r with
  | .val d => SmallD d ∧ E.xc ⟨C, a, d⟩
  | _ => False
theorem ds_raise {fI : Addr} {ma : DM} {ta : TE} (hc : X.calm = true) (T : EX.ErrTxt X.prog X.K C fI a txt) (ht : txt.length ≤ 1000) (na : EX.NmOk a) (hsup : X.mg "super" = none) (gC : X.mg x = some (.ref C)) (hr : Room k X.A) (ha : DE X e ma ta) (hg : Gl X x)
    (hs : starEach (e :: []) X.env = (false, eval e X.env) :: starEach [] X.env := by rfl) (hdb : (x == ("__debug__" : Str)) = false := by decide) (hpl : (backTo pos (starEach [] X.env)).any (·.1) = false := by rfl) :
    DS X (.Raise (some (.Call (.Name x p) [e] [] pos)) none p2) (dRaise C a ma) (tRaiseErr C a (wk X) (tCons ta tNil)) := by
  refine ⟨ps_raiseErr hc takes_wk T ht na hsup gC hr (pa_cons ha.1 pa_nil hs) hg hdb hs hpl, fun B S H env σ E D s q ek => ?_⟩
  refine ha.2 B S H env σ _ _ s q fun v H1 S1 env1 r z q1 => ?_
  cases r with
  | val d =>
    have zr : Rep X.K S1 v d := z.res
    refine ⟨v, rfl, ?_, fun dd hd => ?_⟩
    · cases q1.1 with
      | str y h =>
        cases zr
        exact .str y h
      | int i h =>
        cases zr
        exact .int i h
    · have n := Nw.hid z.sr.ex (o := .xd [(a, v)]) hd
      exact ek.xc σ S1 _ env1 dd ⟨C, a, d⟩ v (z.sr.nw n) (z.sr.hp0 hd) (z.sr.sp0 hd) upd_same (zr.mono n.ex) q1.2
  | own l => exact q1.elim
  | brw i l => exact q1.elim
  | pool => exact q1.elim
/-- e, for what it does -/
def dDropP (m : PM) : DSM := fun E env => m env (fun env' _ => E.nx env') E.xc
theorem ds_exprP {m : PM} {ta : TE} (ha : DP X e m ta) (hs : swapsWith e none pos.line X.env = pure false := by rfl) : DS X (.Expr e pos) (dDropP m) (tDrop ta) :=
  ⟨ps_expr ha.1 hs, fun B S H env σ E D s q ek => ha.2 B S H env σ _ _ _ s q (ek.xc σ) fun v d H' S' env' s' _ q' => ek.nx S' H' env' σ s' q'⟩
/-! a tuple whose last part may raise -/
abbrev PAM := En → (En → List D → Prop) → (Xd → Prop) → Prop
def DAP (X : Cx) (es : List Expr) (m : PAM) (t : TA) : Prop := PA X es t ∧ ∀ (B : Bs) (S H : Hp) (env : En) (σ : L2.St) (Q : En → List D → Prop) (Qx : Xd → Prop) (Qv : List V → Hp → Prop), SR X.K B S H env σ → m env Q Qx → XcOk X B σ Qx →
  (∀ vs ds H' S' env', SR X.K B S' H' env' σ → Reps X.K S' vs ds → Q env' ds → Qv vs H') → t σ H Qv
def dEndP (m : PM) : PAM := fun env Q Qx => m env (fun env' d => Q env' [d]) Qx
def dConsP (m : DM) (n : PAM) : PAM := fun env Q Qx => dKeep m env fun env1 r => match r with
  | .val d => n env1 (fun env2 ds => Q env2 (d :: ds)) Qx
  | _ => False
def dTupP (n : PAM) : PM := fun env Q Qx => n env (fun env' ds => ds.length ≤ sizeLine ∧ Q env' (.tup ds)) Qx
theorem dap_end {m : PM} {ta : TE} (ha : DP X e m ta) (hs : starEach (e :: []) X.env = (false, eval e X.env) :: starEach [] X.env := by rfl) : DAP X [e] (dEndP m) (tCons ta tNil) :=
  ⟨pa_cons ha.1 pa_nil hs, fun B S H env σ Q Qx Qv s q xk k => ha.2 B S H env σ _ Qx _ s q xk fun v d H' S' env' s' r q' => k [v] [d] H' S' env' s' (.cons r .nil) q'⟩
theorem dap_cons {ma : DM} {ta : TE} {n : PAM} (ha : DE X e ma ta) (hb : DAP X es n tn) (hs : starEach (e :: es) X.env = (false, eval e X.env) :: starEach es X.env := by rfl) : DAP X (e :: es) (dConsP ma n) (tCons ta tn) := by
  obtain ⟨t1, t2⟩ := de_keep ha
  refine ⟨pa_cons t1 hb.1 hs, fun B S H env σ Q Qx Qv s q xk k => t2 B S H env σ _ _ s q fun v H1 S1 env1 r z q1 => ?_⟩
  cases r with
  | val d =>
    have zr : Rep X.K S1 v d := z.res
    refine hb.2 ⟨S1, B.H0, B.pa⟩ S1 H1 env1 σ _ Qx _ z.sr.base q1 (fun S2 H2 env2 d2 x2 v2 s2 => xk S2 H2 env2 d2 x2 v2 (z.sr.unbase s2)) fun vs ds H' S' env' s' rs q' => ?_
    exact k (v :: vs) (d :: ds) H' S' env' (z.sr.unbase s') (.cons (zr.mono s'.ex0) rs) q'
  | own l => exact q1.elim
  | brw i l => exact q1.elim
  | pool => exact q1.elim
theorem dp_tup {x1} {n : PAM} (h : DAP X es n tn) : DP X (.Tuple es x1 pos) (dTupP n) (tTup tn) := by
  refine ⟨pe_tup h.1, fun B S H env σ Q Qx Qv s q xk k => h.2 B S H env σ _ Qx _ s q xk fun vs ds H' S' env' s' r q' => ⟨by rw [r.length]; exact q'.1, fun p hp => ?_⟩⟩
  have n := Nw.add s'.ex (o := .tup vs) hp
  exact k _ (.tup ds) _ _ env' (s'.nw n) (.tup (SqT.of upd_same) (r.mono n.ex)) q'.2
end
end DL
end

section
set_option Elab.async false
set_option linter.all false
set_option maxRecDepth 100000
set_option maxHeartbeats 4000000
namespace DL
open PySem PySem.Spec PyProof.Rows L2
open Evl (Ex)
/-! ### things made -/
section
variable {K : PySem.W.Frag} {B : Bs} {S H S' H' : Hp} {env : En} {σ : L2.St}
theorem SR.storeF {i : Nat} {p : Addr} {l : FxL} {o : HO} (s : SR K B S H env σ) (h1 : S p = none) (h2 : B.H0 p = none) (h3 : ¬ Ow B env σ p) (h4 : H p = some o) (h5 : FxAt K S l o) : SR K B S H (env.set i (some (.fix p l))) (σ.set i (some (.ref p))) := by
  have il : ∀ {j : Nat} {n : Nv}, Has (env.set i (some (.fix p l))) j n → j < σ.length := fun {j n} h => by
    have q := (List.getElem?_eq_some_iff.mp h).1
    rw [List.length_set] at q
    exact s.len ▸ q
  have other : ∀ {j : Nat} {n : Nv}, Has (env.set i (some (.fix p l))) j n → n ≠ .fix p l → j ≠ i ∧ Has env j n := fun {j n} h ne => by
    have c : j ≠ i := fun z => by
      subst z
      exact ne (Option.some.inj (set_self h)).symm
    exact ⟨c, set_other h c⟩
  refine ⟨s.ex0, s.nw0, s.keep0, s.old0, by rw [List.length_set, List.length_set]; exact s.len, s.ex, fun j d h => ?_, fun j m h => ?_, fun j k m n q e1 e2 e3 e4 => ?_, fun j h => ?_, s.pool, fun j q m h => ?_, fun j k q m n e1 e2 e3 => ?_, fun j k q m n e1 e2 => ?_, s.pin⟩
  · obtain ⟨c, h⟩ := other h (fun z => by cases z)
    obtain ⟨v, k1, k2⟩ := s.val j d h
    exact ⟨v, (sset_other c).mpr k1, k2⟩
  · obtain ⟨c, h⟩ := other h (fun z => by cases z)
    obtain ⟨q, vs, k1, k2⟩ := s.own j m h
    exact ⟨q, vs, (sset_other c).mpr k1, k2⟩
  · obtain ⟨c1, e1⟩ := other e1 (fun z => by cases z)
    obtain ⟨c2, e2⟩ := other e2 (fun z => by cases z)
    exact s.dis j k m n q e1 e2 ((sset_other c1).mp e3) ((sset_other c2).mp e4)
  · obtain ⟨c, h⟩ := other h (fun z => by cases z)
    obtain ⟨a, k1, k2⟩ := s.pl j h
    exact ⟨a, k1, (sset_other c).mpr k2⟩
  · by_cases c : j = i
    · subst c
      have q2 := il h
      cases set_self h
      exact ⟨sset_self q2, h1, h2, o, h4, h5⟩
    · obtain ⟨k1, k2⟩ := s.fix j q m (set_other h c)
      exact ⟨(sset_other c).mpr k1, k2⟩
  · obtain ⟨c2, g2⟩ := other e2 (fun z => by cases z)
    have g3 := (sset_other c2).mp e3
    by_cases c : j = i
    · subst c
      cases set_self e1
      exact h3 (.inr (.inl ⟨k, n, g2, g3⟩))
    · exact s.dfx j k q m n (set_other e1 c) g2 g3
  · by_cases c : j = i
    · subst c
      cases set_self e1
      by_cases c2 : k = j
      · exact c2.symm
      · exact (h3 (.inr (.inr ⟨k, n, set_other e2 c2⟩))).elim
    · by_cases c2 : k = i
      · subst c2
        cases set_self e2
        exact (h3 (.inr (.inr ⟨j, m, set_other e1 c⟩))).elim
      · exact s.dff j k q m n (set_other e1 c) (set_other e2 c2)
theorem lose_new {x dx C : Addr} {H : Hp} (hx : H x = none) (ne : dx ≠ x) : lose (upd (upd H dx (.own x)) x (.ins C dx [])) x = upd H dx (.own x) := by
  funext a
  by_cases c : a = x
  · subst c
    rw [lose_same, upd_ne (Ne.symm ne), hx]
  · rw [lose_ne c, upd_ne c]
end
/-- behind the arguments: what C(..) makes -/
def MadeF (C : Addr) (F : FMM) (rs : List R) (Q : FxL → Prop) (Qx : Xd → Prop) : Prop := argsOk rs = true ∧ ∀ dx, F rs (.ins C dx [] []) (fun r l' => match r with
  | .val .non => Q l'
  | _ => False) Qx
theorem made_of {X : Cx} {C : Addr} {F : FMM} {np : Nat} {B : Bs} {S H : Hp} {env : En} {σ : L2.St} {vs : List V} {rs : List R} {Q : FxL → Prop} {Qx : Xd → Prop} {Qv : VK} (s : SR X.K B S H env σ) (l : LkA X.K B S H vs rs) (len : vs.length + 1 = np) (h : MadeF C F rs Q Qx) {E : XK} (xk : ∀ x1 d v H' S', SR X.K B S' H' env σ → B.H0 d = none → S' d = none → H' d = some (.xd [(x1.a, v)]) → Rep X.K S' v x1.v → Qx x1 → E (.ref x1.C) (some d) H')
    (k : ∀ x H' S' l' o, SR X.K B S' H' env σ → Go (fun a => B.pa = some a) S H S' H' → H x = none → S' x = none → B.H0 x = none → ¬ Ow B env σ x → H' x = some o → FxAt X.K S' l' o → Q l' → Qv (.ref x) H') :
    ∀ x dx, H x = none → H dx = none → dx ≠ x → spM X.K np F (.ref x :: vs) (upd (upd H dx (.own x)) x (.ins C dx [])) (fun v H2 => v = .non ∧ Qv (.ref x) H2) E := by
  intro x dx hx hd ne
  have n2 := Nw.hid s.ex (o := .own x) hd
  have s2 := s.nw n2
  have hx2 : upd H dx (.own x) x = none := by rw [upd_ne (Ne.symm ne)]; exact hx
  have s3 := s2.nw (Nw.hid s2.ex (o := .ins C dx []) hx2)
  have hpa : B.pa ≠ some x := fun e => by
    obtain ⟨_, o, w⟩ := s.pool x e
    rw [s.hp0 hx] at w
    cases w
  refine ⟨S, B.pa, x, vs, rs, .ins C dx [] [], _, Qx, rfl, s3.ex, fun a e => (s3.pool a e).1, l.args h.1, by rw [List.length_cons]; exact len, ⟨s.sp0 hx, hpa, _, upd_same, [], rfl, rfl, .nil⟩, h.2 dx, ?_, ?_⟩
  · intro v H' S' r l' d c q
    rw [lose_new hx ne] at d
    obtain ⟨c1, o, c2, c3⟩ := c
    have s' := s2.ret d
    split at q
    · have dr := d.ret
      have ev : v = .non := by
        have w : Rep X.K S' v .non := dr
        cases w
        rfl
      refine ⟨ev, k x H' S' l' o s' ⟨d.ex, fun a u w nz => ?_, fun a u w nz e => ?_, fun a w => ?_⟩ hx c1 (s.hp0 hx) (s.now hx) c2 c3 q⟩
      · exact d.keep a u (by rw [upd_ne (fun z => by rw [z, hd] at w; cases w)]; exact w) nz
      · exact d.nw a u (by rw [upd_ne (fun z => by rw [z, hd] at w; cases w)]; exact w) e
      · have w2 := d.old a w
        by_cases c : a = dx
        · subst c
          exact hd
        · rw [upd_ne c] at w2
          exact w2
    · exact q.elim
  · intro x1 d v H' S' dr h0 h1 hdd r q
    rw [lose_new hx ne] at dr h0
    exact xk x1 d v H' S' (s2.ret dr) (s2.hp0 h0) h1 hdd r q
theorem XcOk.mk' {X : Cx} {B : Bs} {env : En} {σ : L2.St} {Qx : Xd → Prop} (xk : XcOk X B σ Qx) : ∀ x1 d v H' S', SR X.K B S' H' env σ → B.H0 d = none → S' d = none → H' d = some (.xd [(x1.a, v)]) → Rep X.K S' v x1.v → Qx x1 → WE (wk X) σ (.ref x1.C) (some d) H' :=
  fun x1 d v H' S' s h0 h1 hd r q => xk S' H' env d x1 v s h0 h1 hd r q
/-- name = C(e, ..): the name alone holds it -/
def dSetM (C : Addr) (i : Nat) (F : FMM) (n : DAM) : DSM := fun E env => n env fun env1 rs => MadeF C F rs (fun l' => ∀ p, E.nx (env1.set i (some (.fix p l')))) E.xc
/-- C(e, ..), from now on unchanged -/
def dMake (C : Addr) (F : FMM) (n : DAM) : DM := fun env Q => n env fun env1 rs => MadeF C F rs (fun l' => match l' with
  | .ins C' _ ns l => C' = C ∧ Q env1 (.val (.ins C ns l))
  | _ => False) fun _ => False
/-- .. which may raise -/
def dMakeP (C : Addr) (F : FMM) (n : DAM) : PM := fun env Q Qx => n env fun env1 rs => MadeF C F rs (fun l' => match l' with
  | .ins C' _ ns l => C' = C ∧ Q env1 (.ins C ns l)
  | _ => False) Qx
section
variable {X : Cx} {k : Nat} {f C : Addr} {fd : FuncData} {ps : List Str} {F : FMM} {x y : Str} {p pos pos' cpos : Pos} {e : Expr} {es : List Expr} {n : DAM} {tn : TA} {np i : Nat}
theorem ds_setM (M : Mk X.K C f) (hF : FnOk X.prog X.w X.K X.mg X.base (L2N.CX X.prog X.w) k f fd ps (spM X.K np F)) (hr : Room (k + 1) X.A) (hg : Gl X x) (hm : X.mg x = some (.ref C)) (hb : Binds X.K fd ps []) (ha : DA X (e :: es) n tn) (hlen : (e :: es).length + 1 = np)
    (hN : X.N.Nodup) (hi : X.N[i]? = some y) (hy : Loc X.env.scope y) (hdb : (x == ("__debug__" : Str)) = false := by decide) (he : starEach (e :: es) X.env = (false, eval e X.env) :: starEach es X.env := by rfl) (hpl : (backTo cpos (starEach es X.env)).any (·.1) = false := by rfl)
    (hs : swapsWith (.Call (.Name x p) (e :: es) [] cpos) (some (.Name y pos')) pos.line X.env = pure false := by rfl) (hf : X.fn y = true ∨ X.env.scope.names.lookup y = some .local := by first | exact .inl rfl | exact .inr rfl | assumption) :
    DS X (.Assign [.Name y pos'] (.Call (.Name x p) (e :: es) [] cpos) pos) (dSetM C i F n) (tAsg (tMakeX C (spM X.K np F) (WE (wk X)) tn) (gName i)) := by
  refine ⟨ps_set hN hi hy (pe_makeX M hF hr hg hm hb (fun σ => L2N.passAt takes_wk σ) ha.1 hdb he hpl) hs hf, fun B S H env σ E D s q ek => ?_⟩
  refine ha.2 B S H env σ _ _ s q fun vs H1 S1 env1 rs z l len q1 => ?_
  refine made_of (np := np) (Qv := fun v H' => D.nx (σ.set i (some v)) H') z.sr l (by omega) q1 (XcOk.mk' (ek.xc σ)) fun x H' S' l' o s' go hx c1 c0 c4 c2 c3 q2 => ?_
  exact ek.nx S' H' _ _ (s'.storeF c1 c0 c4 c2 c3) (q2 x)
theorem frz_new {B : Bs} {S H S' H' : Hp} {env : En} {σ : L2.St} {a : Addr} {C' dx : Addr} {ns : List Str} {l : List D} {o : HO} (s' : SR X.K B S' H' env σ) (go : Go (fun a => B.pa = some a) S H S' H') (hx : H a = none) (c1 : S' a = none) (c0 : B.H0 a = none) (c4 : ¬ Ow B env σ a) (c2 : H' a = some o) (c3 : FxAt X.K S' (.ins C' dx ns l) o) :
    ∃ S'', SR X.K B S'' H' env σ ∧ Go (fun a => B.pa = some a) S H S'' H' ∧ Rep X.K S'' (.ref a) (.ins C' ns l) := by
  obtain ⟨fs, rfl, rfl, r⟩ := c3
  have e1 : Ex S' (upd S' a (.ins C' dx fs)) := Ex.new c1
  refine ⟨_, s'.add c1 c0 c4 c2, ⟨go.ex.trans e1, go.keep, fun b u w nz z => ?_, go.old⟩, .ins upd_same rfl rfl (r.mono e1)⟩
  rw [upd_ne (fun c => by rw [c, hx] at w; cases w)]
  exact go.nw b u w nz z
theorem de_make (M : Mk X.K C f) (hF : FnOk X.prog X.w X.K X.mg X.base (L2N.CX X.prog X.w) k f fd ps (spM X.K np F)) (hr : Room (k + 1) X.A) (hg : Gl X x) (hm : X.mg x = some (.ref C)) (hb : Binds X.K fd ps []) (ha : DA X (e :: es) n tn) (hlen : (e :: es).length + 1 = np)
    (hdb : (x == ("__debug__" : Str)) = false := by decide) (he : starEach (e :: es) X.env = (false, eval e X.env) :: starEach es X.env := by rfl) (hpl : (backTo pos (starEach es X.env)).any (·.1) = false := by rfl) :
    DE X (.Call (.Name x p) (e :: es) [] pos) (dMake C F n) (tMakeX C (spM X.K np F) (WE (wk X)) tn) := by
  refine ⟨pe_makeX M hF hr hg hm hb (fun σ => L2N.passAt takes_wk σ) ha.1 hdb he hpl, fun B S H env σ Q Qv s q k => ?_⟩
  refine ha.2 B S H env σ _ _ s q fun vs H1 S1 env1 rs z l len q1 => ?_
  refine made_of (np := np) z.sr l (by omega) q1 (XcOk.mk' xc_never) fun x H' S' l' o s' go hx c1 c0 c4 c2 c3 q2 => ?_
  split at q2
  · rename_i C' dx ns l
    obtain ⟨rfl, q2⟩ := q2
    obtain ⟨S2, s2, g2, r2⟩ := frz_new s' go hx c1 c0 c4 c2 c3
    exact k _ H' S2 env1 (.val (.ins C' ns l)) ⟨s2, z.go.trans g2 fun a o w nz e => nz (.inl e), z.fz, r2⟩ q2
  · exact q2.elim
theorem dp_make (M : Mk X.K C f) (hF : FnOk X.prog X.w X.K X.mg X.base (L2N.CX X.prog X.w) k f fd ps (spM X.K np F)) (hr : Room (k + 1) X.A) (hg : Gl X x) (hm : X.mg x = some (.ref C)) (hb : Binds X.K fd ps []) (ha : DA X (e :: es) n tn) (hlen : (e :: es).length + 1 = np)
    (hdb : (x == ("__debug__" : Str)) = false := by decide) (he : starEach (e :: es) X.env = (false, eval e X.env) :: starEach es X.env := by rfl) (hpl : (backTo pos (starEach es X.env)).any (·.1) = false := by rfl) :
    DP X (.Call (.Name x p) (e :: es) [] pos) (dMakeP C F n) (tMakeX C (spM X.K np F) (WE (wk X)) tn) := by
  refine ⟨pe_makeX M hF hr hg hm hb (fun σ => L2N.passAt takes_wk σ) ha.1 hdb he hpl, fun B S H env σ Q Qx Qv s q xk k => ?_⟩
  refine ha.2 B S H env σ _ _ s q fun vs H1 S1 env1 rs z l len q1 => ?_
  refine made_of (np := np) z.sr l (by omega) q1 (XcOk.mk' xk) fun x H' S' l' o s' go hx c1 c0 c4 c2 c3 q2 => ?_
  split at q2
  · rename_i C' dx ns l
    obtain ⟨rfl, q2⟩ := q2
    obtain ⟨S2, s2, g2, r2⟩ := frz_new s' go hx c1 c0 c4 c2 c3
    exact k _ _ H' S2 env1 s2 r2 q2
  · exact q2.elim
end
end DL
end

section
set_option Elab.async false
set_option linter.all false
set_option maxRecDepth 100000
set_option maxHeartbeats 4000000
namespace DL
open PySem PySem.Spec PyProof.Rows L2
open Evl (Ex)
/-- a method of the class at C -/
structure MeAt (K : PySem.W.Frag) (C : Addr) (name qual : Str) (st : Stmt) (f : Addr) (fd : FuncData) (ps : List Str) : Prop where
  fn : Fun K name qual st f fd
  m : Meth K C name f
  b : Binds K fd ps []
theorem aug_add : ∀ x y H Q, Q (.int (x + y)) H → rAdd (.int x) (.int y) H Q := fun x y H Q q => ⟨x, y, rfl, rfl, q⟩
theorem _root_.L2.FnOk.up {P : Program} {w : World} {K : PySem.W.Frag} {mg : Str → Option Value} {base : Heap} {CX : CXT} {k j : Nat} {f : Addr} {fd : FuncData} {ps : List Str} {sp : Sp} (h : FnOk P w K mg base CX k f fd ps sp) (hj : k ≤ j) : FnOk P w K mg base CX j f fd ps sp :=
  ⟨h.len, fun A outer s H args us vs Q E hr => h.run A outer s H args us vs Q E (hr.mono hj)⟩
end DL
end

section
set_option Elab.async false
set_option linter.all false
set_option maxRecDepth 100000
set_option maxHeartbeats 4000000
namespace DL
open PySem PySem.Spec PyProof.Rows L2
open Evl (Ex)
/-! ### defs whose last two parameters are lists that they change -/
section
variable {K : PySem.W.Frag} {B : Bs} {S H S' H' : Hp} {env : En} {σ : L2.St} {pa : Option Addr}
/-- a thing is taken out of the ground, into a name's hand -/
theorem SR.regive {S0 H0 : Hp} {i : Nat} {p : Addr} {l : FxL} {o : HO} (s : SR K ⟨S0, H0, pa⟩ S H env σ) (hi : Has env i (.val .any)) (hs : Slt σ i (.ref p)) (h1 : S p = none) (h2 : pa ≠ some p) (hno : ∀ j m, Has env j (.own m) → ¬ Slt σ j (.ref p)) (hnf : ∀ j m, ¬ Has env j (.fix p m)) (h4 : H p = some o) (h5 : FxAt K S l o) :
    SR K ⟨S0, lose H0 p, pa⟩ S H (env.set i (some (.fix p l))) σ := by
  have other : ∀ {j : Nat} {n : Nv}, Has (env.set i (some (.fix p l))) j n → n ≠ .fix p l → j ≠ i ∧ Has env j n := fun {j n} h ne => by
    have c : j ≠ i := fun z => by
      subst z
      exact ne (Option.some.inj (set_self h)).symm
    exact ⟨c, set_other h c⟩
  have lo : ∀ a, H0 a = none → lose H0 p a = none := fun a h => by
    by_cases c : a = p
    · subst c
      exact lose_same
    · rw [lose_ne c]
      exact h
  refine ⟨s.ex0, fun a o h e => s.nw0 a o (lose_some h).2 e, fun a o h c => s.keep0 a o (lose_some h).2 c, fun a h => lo a (s.old0 a h), by rw [List.length_set]; exact s.len, s.ex, fun j d h => ?_, fun j m h => ?_, fun j k m n q e1 e2 e3 e4 => ?_, fun j h => ?_, fun a e => ?_, fun j q m h => ?_, fun j k q m n e1 e2 e3 => ?_, fun j k q m n e1 e2 => ?_, fun a e => ?_⟩
  · exact s.val j d (other h (fun z => by cases z)).2
  · obtain ⟨q, vs, k1, k2, k3, k4⟩ := s.own j m (other h (fun z => by cases z)).2
    exact ⟨q, vs, k1, k2, lo q k3, k4⟩
  · exact s.dis j k m n q (other e1 (fun z => by cases z)).2 (other e2 (fun z => by cases z)).2 e3 e4
  · exact s.pl j (other h (fun z => by cases z)).2
  · obtain ⟨k1, u, k2⟩ := s.pool a e
    refine ⟨k1, u, ?_⟩
    have e' : pa = some a := e
    show lose H0 p a = some u
    rw [lose_ne (fun c => h2 (by rw [← c]; exact e'))]
    exact k2
  · by_cases c : j = i
    · subst c
      cases set_self h
      exact ⟨hs, h1, lose_same, o, h4, h5⟩
    · obtain ⟨k1, k2, k3, k4⟩ := s.fix j q m (set_other h c)
      exact ⟨k1, k2, lo q k3, k4⟩
  · obtain ⟨c2, g2⟩ := other e2 (fun z => by cases z)
    by_cases c : j = i
    · subst c
      cases set_self e1
      exact hno k n g2 e3
    · exact s.dfx j k q m n (set_other e1 c) g2 e3
  · by_cases c : j = i
    · subst c
      cases set_self e1
      by_cases c2 : k = j
      · exact c2.symm
      · exact (hnf k n (set_other e2 c2)).elim
    · by_cases c2 : k = i
      · subst c2
        cases set_self e2
        exact (hnf j m (set_other e1 c)).elim
      · exact s.dff j k q m n (set_other e1 c) (set_other e2 c2)
  · have e' : pa = some a := e
    show headO (H a) = headO (lose H0 p a)
    rw [lose_ne (fun c => h2 (by rw [← c]; exact e'))]
    exact s.pin a e
/-- a place is forgotten -/
theorem SR.forget {p : Addr} (s : SR K B S H env σ) (h0 : S p = none) (h1 : B.H0 p = none) (h2 : ¬ Ow B env σ p) : SR K B S (lose H p) env σ := by
  have up : ∀ a o, B.H0 a = some o → a ≠ p := fun a o h c => by
    rw [c, h1] at h
    cases h
  have npa : ∀ a, B.pa = some a → a ≠ p := fun a e c => h2 (.inl (by rw [← c]; exact e))
  refine ⟨s.ex0, s.nw0, fun a o h c => by rw [lose_ne (up a o h)]; exact s.keep0 a o h c, fun a h => ?_, s.len, fun a o h => ?_, s.val, fun j m h => ?_, s.dis, s.pl, fun a e => ?_, fun j q m h => ?_, s.dfx, s.dff, fun a e => by rw [lose_ne (npa a e)]; exact s.pin a e⟩
  · by_cases c : a = p
    · subst c
      exact h1
    · exact s.old0 a ((lose_ne c).symm.trans h)
  · rw [lose_ne (fun c => by rw [c, h0] at h; cases h)]
    exact s.ex a o h
  · obtain ⟨q, vs, k1, k2, k3, k4, k5⟩ := s.own j m h
    exact ⟨q, vs, k1, k2, k3, (lose_ne (fun c => h2 (.inr (.inl ⟨j, m, h, by rw [c] at k1; exact k1⟩)))).trans k4, k5⟩
  · obtain ⟨⟨y, l, cells, pos, big, seed, cnt, bud, k1, k2⟩, o⟩ := s.pool a e
    exact ⟨⟨y, l, cells, pos, big, seed, cnt, bud, (lose_ne (npa a e)).trans k1, k2⟩, o⟩
  · obtain ⟨k1, k2, k3, o, k4, k5⟩ := s.fix j q m h
    exact ⟨k1, k2, k3, o, (lose_ne (fun c => h2 (.inr (.inr ⟨j, m, by rw [c] at h; exact h⟩)))).trans k4, k5⟩
theorem set_slot {i : Nat} {v : V} (h : Slt σ i v) : σ.set i (some v) = σ := by
  refine List.ext_getElem? fun j => ?_
  by_cases c : i = j
  · subst c
    rw [List.getElem?_set_self (List.getElem?_eq_some_iff.mp h).1]
    exact h.symm
  · rw [List.getElem?_set_ne c]
/-- a name's thing is let go -/
theorem SR.letgo {i : Nat} {p : Addr} {l : FxL} (s : SR K B S H env σ) (h : Has env i (.fix p l)) : SR K B S H (env.set i none) σ ∧ ¬ Ow B (env.set i none) σ p := by
  obtain ⟨h1, h2, h3, o, h4, h5⟩ := s.fix i p l h
  have s1 := s.drop (i := i) (n := some (.ref p))
  rw [set_slot h1] at s1
  refine ⟨s1, fun w => ?_⟩
  rcases w with w | ⟨j, m, w1, w2⟩ | ⟨j, m, w1⟩
  · obtain ⟨_, o, z⟩ := s.pool p w
    rw [h3] at z
    cases z
  · by_cases c : j = i
    · subst c
      exact nomatch set_self w1
    · exact s.dfx i j p l m h (set_other w1 c) w2
  · by_cases c : j = i
    · subst c
      exact nomatch set_self w1
    · exact c (s.dff j i p m l (set_other w1 c) h)
theorem SR.refix {i : Nat} {p : Addr} {l : FxL} {o : HO} (s : SR K B S H env σ) (hs : Slt σ i (.ref p)) (h1 : S p = none) (h2 : B.H0 p = none) (h3 : ¬ Ow B env σ p) (h4 : H p = some o) (h5 : FxAt K S l o) : SR K B S H (env.set i (some (.fix p l))) σ := by
  have q := s.storeF (i := i) h1 h2 h3 h4 h5
  rw [set_slot hs] at q
  exact q
/-- two things handed over, and back -/
theorem SR.handed2 {i j : Nat} {p q : Addr} {l l' m m' : FxL} {o u : HO} {r : R} {v : V} (ij : i ≠ j) (s : SR K B S H env σ) (hp : Has env i (.fix p l)) (hq : Has env j (.fix q m)) (d : DRet K S (lose (lose H p) q) B.pa S' H' r v) (p1 : S' p = none) (p2 : H' p = some o) (p3 : FxAt K S' l' o)
    (q1 : S' q = none) (q2 : H' q = some u) (q3 : FxAt K S' m' u) : SR K B S' H' ((env.set i (some (.fix p l'))).set j (some (.fix q m'))) σ := by
  have pq : p ≠ q := fun z => ij (s.dff i j p l m hp (by rw [z]; exact hq))
  obtain ⟨a1, a2, a3, oa, a4, a5⟩ := s.fix i p l hp
  obtain ⟨b1, b2, b3, ob, b4, b5⟩ := s.fix j q m hq
  obtain ⟨s1, n1⟩ := s.letgo hp
  have hq1 : Has (env.set i none) j (.fix q m) := (List.getElem?_set_ne ij).trans hq
  obtain ⟨s2, n2⟩ := s1.letgo hq1
  have n1' : ¬ Ow B ((env.set i none).set j none) σ p := fun w => n1 (by
    rcases w with w | ⟨k, m, w1, w2⟩ | ⟨k, m, w1⟩
    · exact .inl w
    · by_cases c : k = j
      · subst c
        exact nomatch set_self w1
      · exact .inr (.inl ⟨k, m, set_other w1 c, w2⟩)
    · by_cases c : k = j
      · subst c
        exact nomatch set_self w1
      · exact .inr (.inr ⟨k, m, set_other w1 c⟩))
  have s3 := s2.forget a2 a3 n1'
  have s4 := s3.given b3 n2 d
  have s5 := s4.refix (i := i) (l := l') a1 p1 a3 n1' p2 p3
  have n3 : ¬ Ow B (((env.set i none).set j none).set i (some (.fix p l'))) σ q := fun w => by
    rcases w with w | ⟨k, m, w1, w2⟩ | ⟨k, m, w1⟩
    · exact n2 (.inl w)
    · by_cases c : k = i
      · subst c
        cases set_self w1
      · exact n2 (.inr (.inl ⟨k, m, set_other w1 c, w2⟩))
    · by_cases c : k = i
      · subst c
        cases set_self w1
        exact pq rfl
      · exact n2 (.inr (.inr ⟨k, m, set_other w1 c⟩))
  have s6 := s5.refix (i := j) (l := m') b1 q1 b3 n3 q2 q3
  have e : (((env.set i none).set j none).set i (some (.fix p l'))).set j (some (.fix q m')) = (env.set i (some (.fix p l'))).set j (some (.fix q m')) := by
    rw [List.set_comm _ _ (Ne.symm ij), List.set_set, List.set_set]
  rw [e] at s6
  exact s6
end
end DL
end

section
set_option Elab.async false
set_option linter.all false
set_option maxRecDepth 100000
set_option maxHeartbeats 4000000
namespace DL
open PySem PySem.Spec PyProof.Rows L2
open Evl (Ex)
abbrev FMJ := List R → List D → List D → (R → List D → List D → Prop) → Prop
abbrev anyR : R := .val .any
def startJ (n : Nat) (rs : List R) (p : Addr) (l : List D) (q : Addr) (m : List D) : En := ((startD n (rs ++ [anyR, anyR])).set rs.length (some (.fix p (.lst l)))).set (rs.length + 1) (some (.fix q (.lst m)))
def bodyJ (n : Nat) (b : DSM) : FMJ := fun rs l m Qd => ∀ p q : Addr, b { nx := fun env => ∃ l' m', Has env rs.length (.fix p (.lst l')) ∧ Has env (rs.length + 1) (.fix q (.lst m')) ∧ Qd (.val .non) l' m', rt := fun env r => ∃ l' m', Has env rs.length (.fix p (.lst l')) ∧ Has env (rs.length + 1) (.fix q (.lst m')) ∧ Qd r l' m' } (startJ n rs p l q m)
def LstAt (K : PySem.W.Frag) (S H : Hp) (p : Addr) (l : List D) : Prop := S p = none ∧ ∃ ws, H p = some (.lst ws) ∧ Reps K S ws l
def spJ (K : PySem.W.Frag) (n : Nat) (F : FMJ) : Sp := fun vs H Q _ => ∃ (S : Hp) (pa : Option Addr) (vs0 : List V) (p q : Addr) (rs : List R) (l m : List D) (Qd : R → List D → List D → Prop), vs = vs0 ++ [.ref p, .ref q] ∧ Ex S H ∧ (∀ a, pa = some a → PoolAt S H a) ∧ ArgR K S pa vs0 rs ∧ vs.length = n ∧ p ≠ q ∧
  (pa ≠ some p ∧ LstAt K S H p l) ∧ (pa ≠ some q ∧ LstAt K S H q m) ∧ F rs l m Qd ∧
  ∀ v H' S' r l' m', DRet K S (lose (lose H p) q) pa S' H' r v → LstAt K S' H' p l' → LstAt K S' H' q m' → Qd r l' m' → Q v H'
theorem spJ.imp {K : PySem.W.Frag} {n : Nat} {F F' : FMJ} (h : ∀ rs l m Q, F' rs l m Q → F rs l m Q) : ∀ vs H Q E, spJ K n F' vs H Q E → spJ K n F vs H Q E :=
  fun vs H Q E ⟨S, pa, vs0, p, q, rs, l, m, Qd, h0, h1, h2, h3, h4, h5, h6, h7, h8, h9⟩ => ⟨S, pa, vs0, p, q, rs, l, m, Qd, h0, h1, h2, h3, h4, h5, h6, h7, h _ _ _ _ h8, h9⟩
section
variable {K : PySem.W.Frag} {S H : Hp} {pa : Option Addr}
theorem ArgR.app2 {v : V} {d : D} (r : Rep K S v d) : ∀ {vs : List V} {rs : List R}, ArgR K S pa vs rs → ArgR K S pa (vs ++ [v]) (rs ++ [.val d])
  | _, _, .nil => .val r .nil
  | _, _, .val h t => .val h (ArgR.app2 r t)
  | _, _, .pool h t => .pool h (ArgR.app2 r t)
theorem SR.entryJ {vs : List V} {rs : List R} {N : List Str} {p q : Addr} {l m : List D} (h1 : Ex S H) (h2 : ∀ a, pa = some a → PoolAt S H a) (h3 : ArgR K S pa vs rs) (hn : rs.length + 1 < N.length) (pq : p ≠ q) (hp : pa ≠ some p) (hpl : LstAt K S H p l) (hq : pa ≠ some q) (hql : LstAt K S H q m) :
    SR K ⟨S, lose (lose H p) q, pa⟩ S H (startJ N.length rs p l q m) (L2.start N (vs ++ [.ref p, .ref q])) := by
  have hl := h3.length
  have a1 := (h3.app2 (.any (.ref p))).app2 (.any (.ref q))
  rw [List.append_assoc, List.append_assoc] at a1
  have s0 := SR.entry (N := N) h1 h2 a1
  obtain ⟨p1, ws, p2, p3⟩ := hpl
  obtain ⟨q1, us, q2, q3⟩ := hql
  have len0 : (startD N.length (rs ++ [anyR, anyR])) = rs.map R.nv ++ (some (.val .any) :: some (.val .any) :: List.replicate (N.length - (rs.length + 2)) none) := by
    unfold startD
    rw [List.map_append, List.length_append, List.append_assoc]
    rfl
  have own0 : ∀ j m, ¬ Has (startD N.length (rs ++ [anyR, anyR])) j (.own m) := fun j m h => by
    have h' : (rs.map R.nv ++ (some (.val .any) :: some (.val .any) :: List.replicate (N.length - (rs.length + 2)) none))[j]? = some (some (.own m)) := by rw [← len0]; exact h
    rcases List.mem_append.mp (List.mem_of_getElem? h') with w | w
    · obtain ⟨r, hr, er⟩ := List.mem_map.mp w
      have : ∀ {vs : List V} {rs : List R}, ArgR K S pa vs rs → ∀ r ∈ rs, R.nv r ≠ some (.own m) := fun {vs rs} a => by
        induction a with
        | nil => intro r hr; cases hr
        | val _ _ ih =>
          intro r hr
          rcases List.mem_cons.mp hr with rfl | hr
          · intro z; cases z
          · exact ih r hr
        | pool _ _ ih =>
          intro r hr
          rcases List.mem_cons.mp hr with rfl | hr
          · intro z; cases z
          · exact ih r hr
      exact this h3 r hr er
    · rcases List.mem_cons.mp w with w | w
      · cases w
      · rcases List.mem_cons.mp w with w | w
        · cases w
        · rw [List.mem_replicate] at w
          cases w.2
  have fix0 : ∀ j x m, ¬ Has (startD N.length (rs ++ [anyR, anyR])) j (.fix x m) := fun j x m h => by
    have h' : (rs.map R.nv ++ (some (.val .any) :: some (.val .any) :: List.replicate (N.length - (rs.length + 2)) none))[j]? = some (some (.fix x m)) := by rw [← len0]; exact h
    rcases List.mem_append.mp (List.mem_of_getElem? h') with w | w
    · obtain ⟨r, hr, er⟩ := List.mem_map.mp w
      cases r with
      | val d => cases er
      | own l => cases er
      | brw i l => cases er
      | pool => cases er
    · rcases List.mem_cons.mp w with w | w
      · cases w
      · rcases List.mem_cons.mp w with w | w
        · cases w
        · rw [List.mem_replicate] at w
          cases w.2
  have at0 : Has (startD N.length (rs ++ [anyR, anyR])) rs.length (.val .any) := by
    rw [len0]
    show (rs.map R.nv ++ _)[rs.length]? = _
    rw [List.getElem?_append_right (by rw [List.length_map]; exact Nat.le_refl _), List.length_map, Nat.sub_self]
    rfl
  have at1 : Has (startD N.length (rs ++ [anyR, anyR])) (rs.length + 1) (.val .any) := by
    rw [len0]
    show (rs.map R.nv ++ _)[rs.length + 1]? = _
    rw [List.getElem?_append_right (by rw [List.length_map]; exact Nat.le_succ _), List.length_map, Nat.add_sub_cancel_left]
    rfl
  have slt : ∀ k v, (vs ++ [V.ref p, V.ref q])[k]? = some v → Slt (L2.start N (vs ++ [.ref p, .ref q])) k v := fun k v h => by
    unfold L2.start
    have c : k < ((vs ++ [V.ref p, V.ref q]).map some).length := by
      rw [List.length_map]
      exact (List.getElem?_eq_some_iff.mp h).1
    show ((vs ++ [V.ref p, V.ref q]).map some ++ List.replicate (N.length - (vs ++ [V.ref p, V.ref q]).length) none)[k]? = some (some v)
    rw [List.getElem?_append_left c, List.getElem?_map, h]
    rfl
  have sp : Slt (L2.start N (vs ++ [.ref p, .ref q])) rs.length (.ref p) := slt _ _ (by
    rw [List.getElem?_append_right (by omega), hl, Nat.sub_self]
    rfl)
  have sq : Slt (L2.start N (vs ++ [.ref p, .ref q])) (rs.length + 1) (.ref q) := slt _ _ (by
    rw [List.getElem?_append_right (by omega), hl, Nat.add_sub_cancel_left]
    rfl)
  have s1 := SR.regive (l := .lst l) s0 at0 sp p1 hp (fun j m h => absurd h (own0 j m)) (fun j m => fix0 j p m) p2 ⟨ws, rfl, p3⟩
  refine SR.regive (l := .lst m) s1 ((List.getElem?_set_ne (Nat.ne_of_lt (Nat.lt_succ_self _))).trans at1) sq q1 hq (fun j m h => ?_) (fun j m h => ?_) q2 ⟨us, rfl, q3⟩
  · by_cases c : j = rs.length
    · subst c
      exact nomatch set_self h
    · exact absurd (set_other h c) (own0 j m)
  · by_cases c : j = rs.length
    · subst c
      have e := set_self h
      injection e with e
      injection e with e
      exact pq e
    · exact fix0 j q m (set_other h c)
theorem fn_dJ {P : Program} {w : World} {mg : Str → Option Value} {base : Heap} {x qual : Str} {st : Stmt} {f : Addr} {fd : FuncData} {N ps : List Str} {k : Nat} {b : DSM} (F : Fun K x qual st f fd) (Sc : FnScope N ps (defScope st))
    (hbody : ∀ (cdv : Value) (A : Around) (outer : List Env) (s : Shared) (H : Hp) (E : XK), Room k (A.deeper (envOfC qual (defScope st) s.heap.objs.size f cdv)) → ∃ t, DSs (cxOf CX0 P w K mg base N qual (defScope st) f cdv A outer s H E).nox (defBody st) b t) :
    FnOk P w K mg base CX0 (k + 1) f fd ps (spJ K ps.length (bodyJ N.length b)) := by
  have hpl : ps.length ≤ N.length := by
    have := congrArg List.length Sc.pre
    rw [List.length_take] at this
    omega
  refine F.ok Sc (fun vs H Q E h => ?_) fun cdv A outer s H vs Q E hr h => ?_
  · obtain ⟨S, pa, vs0, p, q, rs, l, m, Qd, h0, h1, h2, h3, h4, h5⟩ := h
    exact h4
  · obtain ⟨S, pa, vs0, p, q, rs, l, m, Qd, rfl, h1, h2, h3, h4, h5, ⟨p1, p2⟩, ⟨q1, q2⟩, h6, h7⟩ := h
    obtain ⟨t, t1, t2⟩ := hbody cdv A outer s H E hr
    have hn : rs.length + 1 < N.length := by
      rw [List.length_append, h3.length] at h4
      have : ([V.ref p, V.ref q] : List V).length = 2 := rfl
      omega
    refine ⟨t, t1, t2 ⟨S, lose (lose H p) q, pa⟩ S H _ _ _ _ (SR.entryJ h1 h2 h3 hn h5 p1 p2 q1 q2) (h6 p q) ?_⟩
    have fin : ∀ {S' H' : Hp} {env : En} {σ : L2.St} {r : R} {v : V}, SR K ⟨S, lose (lose H p) q, pa⟩ S' H' env σ → RetR K ⟨S, lose (lose H p) q, pa⟩ S' H' r v → (∃ l' m', Has env rs.length (.fix p (.lst l')) ∧ Has env (rs.length + 1) (.fix q (.lst m')) ∧ Qd r l' m') → Q v H' := fun s r ⟨l', m', f, g, z⟩ => by
      obtain ⟨_, k2, _, o, k4, ws, rfl, k5⟩ := s.fix _ _ _ f
      obtain ⟨_, g2, _, o, g4, us, rfl, g5⟩ := s.fix _ _ _ g
      exact h7 _ _ _ _ l' m' (s.dret r) ⟨k2, ws, k4, k5⟩ ⟨g2, us, g4, g5⟩ z
    exact ⟨fun S' H' env σ s q => fin s (r := .val .non) .non q, fun S' H' env σ r v s q z => fin s q z, fun _ _ _ _ _ z => z.elim, fun _ _ _ _ _ z => z.elim, fun _ _ _ _ _ _ _ _ _ _ _ _ z => z.elim⟩
end
end DL
end

section
set_option Elab.async false
set_option linter.all false
set_option maxRecDepth 100000
set_option maxHeartbeats 4000000
namespace DL
open PySem PySem.Spec PyProof.Rows L2
open Evl (Ex)
/-! ### such defs called: with the own two lists, with two new ones -/
abbrev DJM := En → (En → List R → Addr → List D → Addr → List D → Prop) → Prop
def DFJ (X : Cx) (i j : Nat) (es : List Expr) (m : DJM) (t : TA) : Prop := PA X es t ∧ ∀ (B : Bs) (S H : Hp) (env : En) (σ : L2.St) (Q : En → List R → Addr → List D → Addr → List D → Prop) (Qv : List V → Hp → Prop), SR X.K B S H env σ → m env Q →
  (∀ vs p q H' S' env' rs l m, TPo X.K B S H env σ S' H' env' → LkA X.K B S' H' vs rs → Has env' i (.fix p (.lst l)) → Has env' j (.fix q (.lst m)) → vs.length + 2 = es.length → Q env' rs p l q m → Qv (vs ++ [.ref p, .ref q]) H') → t σ H Qv
def dEndJ (i j : Nat) : DJM := fun env Q => match env[i]?, env[j]? with
  | some (some (.fix p (.lst l))), some (some (.fix q (.lst m))) => Q env [] p l q m
  | _, _ => False
def dConsJ (m : DM) (n : DJM) : DJM := fun env Q => m env fun env1 r => n env1 fun env2 rs p l q m => Q env2 (r :: rs) p l q m
def dCallJ (i j : Nat) (F : FMJ) (n : DJM) : PM := fun env Q _ => n env fun env' rs p l q m => argsOk rs = true ∧ F rs l m fun r l' m' => match r with
  | .val d => Q ((env'.set i (some (.fix p (.lst l')))).set j (some (.fix q (.lst m')))) d
  | _ => False
abbrev DL2M := En → (En → List R → List D → List D → Prop) → Prop
def DLA2 (X : Cx) (es : List Expr) (m : DL2M) (t : TA) : Prop := PA X es t ∧ ∀ (B : Bs) (S H : Hp) (env : En) (σ : L2.St) (Q : En → List R → List D → List D → Prop) (Qv : List V → Hp → Prop), SR X.K B S H env σ → m env Q →
  (∀ vs p q H' S' env' rs l m, TPo X.K B S H env σ S' H' env' → LkA X.K B S' H' vs rs → Gift X.K B H S' H' env' σ p l → Gift X.K B H S' H' env' σ q m → p ≠ q → vs.length + 2 = es.length → Q env' rs l m → Qv (vs ++ [.ref p, .ref q]) H') → t σ H Qv
def dEnd2 (m n : DM) : DL2M := fun env Q => m env fun env1 r1 => n env1 fun env2 r2 => match r1, r2 with
  | .own l, .own m => Q env2 [] l m
  | _, _ => False
def dCons2 (m : DM) (n : DL2M) : DL2M := fun env Q => m env fun env1 r => n env1 fun env2 rs l m => Q env2 (r :: rs) l m
def dCall2 (F : FMJ) (n : DL2M) : DM := fun env Q => n env fun env' rs l m => argsOk rs = true ∧ F rs l m fun r _ _ => match r with
  | .val d => Q env' (.val d)
  | _ => False
/-- name op e, e a call that may change things -/
def dOpV (i : Nat) (o : M2) (n : PM) : PM := fun env Q Qx => match env[i]? with
  | some (some (.own _)) => n env (fun env' d => match env'[i]? with
    | some (some (.own l)) => o (.lst l) d fun r => match r with
      | .val x => Q env' x
      | .own x => Q env' (.lst x)
      | _ => False
    | _ => False) Qx
  | some (some (.val _)) => n env (fun env' d => match env'[i]? with
    | some (some (.val y)) => o y d fun r => match r with
      | .val x => Q env' x
      | .own x => Q env' (.lst x)
      | _ => False
    | _ => False) Qx
  | _ => False
section
variable {X : Cx} {a b : Expr} {ma mb : DM} {ta tb : TE} {k : Nat} {f : Addr} {fd : FuncData} {ps : List Str} {F : FMJ} {x : Str} {p pos : Pos} {e : Expr} {es : List Expr} {n : DJM} {n2 : DL2M} {tn : TA} {np i j : Nat}
theorem dfj_end (hv : PE X a (tVar i)) (hw : PE X b (tVar j)) (hs : starEach (a :: [b]) X.env = (false, eval a X.env) :: starEach [b] X.env := by rfl) (hs2 : starEach (b :: []) X.env = (false, eval b X.env) :: starEach [] X.env := by rfl) : DFJ X i j [a, b] (dEndJ i j) (tCons (tVar i) (tCons (tVar j) tNil)) := by
  refine ⟨pa_cons hv (pa_cons hw pa_nil hs2) hs, fun B S H env σ Q Qv s q k => ?_⟩
  unfold dEndJ at q
  split at q
  · rename_i p l q' m c1 c2
    obtain ⟨h1, _⟩ := s.fix i p _ c1
    obtain ⟨h2, _⟩ := s.fix j q' _ c2
    exact ⟨_, h1, _, h2, k [] p q' H S env [] l m (.refl s) .nil c1 c2 rfl q⟩
  · exact q.elim
theorem dfj_cons (ha : DE X a ma ta) (hb : DFJ X i j es n tn) (hs : starEach (a :: es) X.env = (false, eval a X.env) :: starEach es X.env := by rfl) : DFJ X i j (a :: es) (dConsJ ma n) (tCons ta tn) := by
  refine ⟨pa_cons ha.1 hb.1 hs, fun B S H env σ Q Qv s q k => ?_⟩
  refine ha.2 B S H env σ _ _ s q fun x H1 S1 env1 r1 e1 q1 => ?_
  refine hb.2 B S1 H1 env1 σ _ _ e1.sr q1 fun vs p q' H2 S2 env2 rs l m e2 l2 g g' len2 q2 => ?_
  refine k (x :: vs) p q' H2 S2 env2 (r1 :: rs) l m (e1.t.trans e2) (.cons (RepB.go e1 rfl e2) (fun d e => ?_) (fun e => ?_) l2) g g' (by rw [List.length_cons, List.length_cons]; omega) q2
  · subst e
    have := e1.res
    exact Rep.mono e2.go.ex this
  · subst e
    exact e1.res
theorem dp_callJ (ij : i ≠ j) (hF : FnOk X.prog X.w X.K X.mg X.base CX0 k f fd ps (spJ X.K np F)) (hr : Room k X.A) (hg : Gl X x) (hm : X.mg x = some (.ref f)) (hk : PySem.W.keepIn X.K (.ref f) = true) (hb : Binds X.K fd ps [])
    (ha : DFJ X i j (e :: es) n tn) (hlen : (e :: es).length = np) (hdb : (x == ("__debug__" : Str)) = false := by decide) (he : starEach (e :: es) X.env = (false, eval e X.env) :: starEach es X.env := by rfl) (hpl : (backTo pos (starEach es X.env)).any (·.1) = false := by rfl) :
    DP X (.Call (.Name x p) (e :: es) [] pos) (dCallJ i j F n) (tCall (spJ X.K np F) [] E0 tn) := by
  refine ⟨pe_call hF hr hg hm hk hb .nil pass0 ha.1 hdb he hpl, fun B S H env σ Q Qx Qv s q xk k => ha.2 B S H env σ _ _ s q fun vs p q' H1 S1 env1 rs l m z lk g g' len q1 => ?_⟩
  show spJ X.K np F ((vs ++ [.ref p, .ref q']) ++ []) H1 Qv E0
  rw [List.append_nil]
  obtain ⟨h1, h2, h3, o, h4, ws, rfl, h5⟩ := z.sr.fix i p _ g
  obtain ⟨g1, g2, g3, o, g4, us, rfl, g5⟩ := z.sr.fix j q' _ g'
  have hpa : B.pa ≠ some p := fun e => by
    obtain ⟨_, o, w⟩ := z.sr.pool p e
    rw [h3] at w
    cases w
  have hqa : B.pa ≠ some q' := fun e => by
    obtain ⟨_, o, w⟩ := z.sr.pool q' e
    rw [g3] at w
    cases w
  have pq : p ≠ q' := fun w => ij (z.sr.dff i j p _ _ g (by rw [w]; exact g'))
  refine ⟨S1, B.pa, vs, p, q', rs, l, m, _, rfl, z.sr.ex, fun a e => (z.sr.pool a e).1, lk.args q1.1, by rw [List.length_append]; exact len.trans hlen, pq, ⟨hpa, h2, ws, h4, h5⟩, ⟨hqa, g2, us, g4, g5⟩, q1.2, fun v H' S' r l' m' d ⟨c1, vs1, c2, c3⟩ ⟨d1, vs2, d2, d3⟩ qr => ?_⟩
  cases r with
  | val d0 => exact k v d0 H' S' _ (z.sr.handed2 (l' := .lst l') (m' := .lst m') ij g g' d c1 c2 ⟨_, rfl, c3⟩ d1 d2 ⟨_, rfl, d3⟩) d.ret qr
  | own l2 => exact qr.elim
  | pool => exact qr.elim
  | brw i l2 => exact qr.elim
theorem dla2_end (ha : DE X a ma ta) (hb : DE X b mb tb) (hs : starEach (a :: [b]) X.env = (false, eval a X.env) :: starEach [b] X.env := by rfl) (hs2 : starEach (b :: []) X.env = (false, eval b X.env) :: starEach [] X.env := by rfl) : DLA2 X [a, b] (dEnd2 ma mb) (tCons ta (tCons tb tNil)) := by
  refine ⟨pa_cons ha.1 (pa_cons hb.1 pa_nil hs2) hs, fun B S H env σ Q Qv s q k => ?_⟩
  refine ha.2 B S H env σ _ _ s q fun v H1 S1 env1 r1 e1 q1 => ?_
  refine hb.2 B S1 H1 env1 σ _ _ e1.sr q1 fun u H2 S2 env2 r2 e2 q2 => ?_
  split at q2
  · rename_i l m
    obtain ⟨p, ws, rfl, z1, z2, z3, z4, z5, z6⟩ := e1.res
    obtain ⟨q', us, rfl, y1, y2, y3, y4, y5, y6⟩ := e2.res
    have ne : p ≠ q' := fun c => by
      rw [← c, z5] at y3
      cases y3
    exact k [] p q' H2 S2 env2 [] l m (e1.t.trans e2.t) .nil ⟨e2.go.nw p _ z5 z4 z1, z2, fun w => z4 (Ow.frz e2.fz w), z3, ws, e2.go.keep p _ z5 z4, z6.mono e2.go.ex⟩ ⟨y1, y2, y4, e1.go.old q' y3, us, y5, y6⟩ ne rfl q2
  · exact q2.elim
theorem dla2_cons (ha : DE X a ma ta) (hb : DLA2 X es n2 tn) (hs : starEach (a :: es) X.env = (false, eval a X.env) :: starEach es X.env := by rfl) : DLA2 X (a :: es) (dCons2 ma n2) (tCons ta tn) := by
  refine ⟨pa_cons ha.1 hb.1 hs, fun B S H env σ Q Qv s q k => ?_⟩
  refine ha.2 B S H env σ _ _ s q fun x H1 S1 env1 r1 e1 q1 => ?_
  refine hb.2 B S1 H1 env1 σ _ _ e1.sr q1 fun vs p q' H2 S2 env2 rs l m e2 l2 g g' ne len2 q2 => ?_
  refine k (x :: vs) p q' H2 S2 env2 (r1 :: rs) l m (e1.t.trans e2) (.cons (RepB.go e1 rfl e2) (fun d e => ?_) (fun e => ?_) l2) ⟨g.s, g.b, g.o, e1.go.old p g.n, g.at_⟩ ⟨g'.s, g'.b, g'.o, e1.go.old q' g'.n, g'.at_⟩ ne (by rw [List.length_cons, List.length_cons]; omega) q2
  · subst e
    have := e1.res
    exact Rep.mono e2.go.ex this
  · subst e
    exact e1.res
theorem de_call2 (hF : FnOk X.prog X.w X.K X.mg X.base CX0 k f fd ps (spJ X.K np F)) (hr : Room k X.A) (hg : Gl X x) (hm : X.mg x = some (.ref f)) (hk : PySem.W.keepIn X.K (.ref f) = true) (hb : Binds X.K fd ps [])
    (ha : DLA2 X (e :: es) n2 tn) (hlen : (e :: es).length = np) (hdb : (x == ("__debug__" : Str)) = false := by decide) (he : starEach (e :: es) X.env = (false, eval e X.env) :: starEach es X.env := by rfl) (hpl : (backTo pos (starEach es X.env)).any (·.1) = false := by rfl) :
    DE X (.Call (.Name x p) (e :: es) [] pos) (dCall2 F n2) (tCall (spJ X.K np F) [] E0 tn) := by
  refine ⟨pe_call hF hr hg hm hk hb .nil pass0 ha.1 hdb he hpl, fun B S H env σ Q Qv s q k => ha.2 B S H env σ _ _ s q fun vs p q' H1 S1 env1 rs l m z lk g g' ne len q1 => ?_⟩
  show spJ X.K np F ((vs ++ [.ref p, .ref q']) ++ []) H1 Qv E0
  rw [List.append_nil]
  refine ⟨S1, B.pa, vs, p, q', rs, l, m, _, rfl, z.sr.ex, fun a e => (z.sr.pool a e).1, lk.args q1.1, by rw [List.length_append]; exact len.trans hlen, ne, ⟨fun e => g.o (.inl e), g.s, g.at_⟩, ⟨fun e => g'.o (.inl e), g'.s, g'.at_⟩, q1.2, fun v H' S' r l' m' d _ _ qr => ?_⟩
  have s' := (z.sr.forget g.s g.b g.o).given g'.b g'.o d
  have go : Go (Ow B env σ) S H S' H' := by
    refine ⟨z.go.ex.trans d.ex, fun a o h nz => ?_, fun a o h nz e => ?_, fun a h => ?_⟩
    · have n1 : a ≠ p := fun c => by rw [c, g.n] at h; cases h
      have n2 : a ≠ q' := fun c => by rw [c, g'.n] at h; cases h
      exact d.keep a o ((lose_ne n2).trans ((lose_ne n1).trans (z.go.keep a o h nz))) fun e => nz (.inl e)
    · have n1 : a ≠ p := fun c => by rw [c, g.n] at h; cases h
      have n2 : a ≠ q' := fun c => by rw [c, g'.n] at h; cases h
      exact d.nw a o ((lose_ne n2).trans ((lose_ne n1).trans (z.go.keep a o h nz))) (z.go.nw a o h nz e)
    · by_cases n1 : a = p
      · subst n1
        exact g.n
      · by_cases n2 : a = q'
        · subst n2
          exact g'.n
        · exact z.go.old a ((lose_ne n1).symm.trans ((lose_ne n2).symm.trans (d.old a h)))
  cases r with
  | val d0 => exact k v H' S' env1 (.val d0) ⟨s', go, z.fz, d.ret⟩ qr
  | own l2 => exact qr.elim
  | pool => exact qr.elim
  | brw i l2 => exact qr.elim
/-- what a rule by values has given, kept -/
theorem SR.nwr {K : PySem.W.Frag} {B : Bs} {S H S' H' : Hp} {env : En} {σ : L2.St} {r : R} {v : V} (s : SR K B S H env σ) (n : NwR K S H S' H' r v) : ∃ S'' d, SR K B S'' H' env σ ∧ Rep K S'' v d ∧ ((∃ x, r = .val x ∧ d = x) ∨ ∃ l, r = .own l ∧ d = .lst l) := by
  cases r with
  | val x => exact ⟨S', x, s.nw n.1, n.2, .inl ⟨x, rfl, rfl⟩⟩
  | own l =>
    obtain ⟨n1, p, vs, rfl, h1, h2, h3, h4⟩ := n
    have e1 : Ex S' (upd S' p (.lst vs)) := Ex.new h2
    have nO : ¬ Ow B env σ p := s.now h1
    exact ⟨_, .lst l, (s.nw n1).add h2 (s.hp0 h1) nO h3, .lst upd_same (h4.mono e1), .inr ⟨l, rfl, rfl⟩⟩
  | brw i l => exact n.elim
  | pool => exact n.elim
theorem dp_opV {op : Operator} {r : R2} {o : M2} {m : PM} (ho : OpR X (binaryOp op) r) (hd : OpD X.K r o) (hv : PE X a (tVar i)) (hb : DP X b m tb) : DP X (.BinOp a op b pos) (dOpV i o m) (tOp r (tVar i) tb) := by
  refine ⟨pe_op ho hv hb.1, fun B S H env σ Q Qx Qv s q xk k => ?_⟩
  have fin : ∀ {S2 H2 : Hp} {env2 : En} {x y : V} {dx dy : D}, SR X.K B S2 H2 env2 σ → RepB X.K S2 H2 x dx → Rep X.K S2 y dy → (o dx dy fun r => match r with
      | .val x => Q env2 x
      | .own x => Q env2 (.lst x)
      | _ => False) → r x y H2 Qv := fun {S2 H2 env2 x y dx dy} s2 r1 r2 q2 => by
    refine hd S2 H2 x y dx dy _ Qv s2.ex r1 (.inl r2) q2 fun v H3 S3 z n q3 => ?_
    obtain ⟨S4, d, s4, r4, hz⟩ := s2.nwr n
    rcases hz with ⟨x, rfl, rfl⟩ | ⟨l, rfl, rfl⟩
    · exact k v _ H3 S4 env2 s4 r4 q3
    · exact k v _ H3 S4 env2 s4 r4 q3
  unfold dOpV at q
  split at q
  · rename_i l0 c0
    obtain ⟨p, vs, hp, _⟩ := s.own i _ c0
    refine ⟨_, hp, hb.2 B S H env σ _ Qx _ s q xk fun u d H2 S2 env2 s2 r2 q2 => ?_⟩
    split at q2
    · rename_i l c
      obtain ⟨p', ws, y1, y2, y3, y4, y5⟩ := s2.own i l c
      cases Slt.ref hp y1
      exact fin s2 (.inr ⟨p, ws, l, rfl, rfl, y4, y5⟩) r2 q2
    · exact q2.elim
  · rename_i x0 c0
    obtain ⟨v, hp, _⟩ := s.val i _ c0
    refine ⟨_, hp, hb.2 B S H env σ _ Qx _ s q xk fun u d H2 S2 env2 s2 r2 q2 => ?_⟩
    split at q2
    · rename_i y c
      obtain ⟨w, y1, y2⟩ := s2.val i y c
      cases Slt.inj hp y1
      exact fin s2 (.inl y2) r2 q2
    · exact q2.elim
  · exact q.elim
end
end DL
end

section
set_option Elab.async false
set_option linter.all false
set_option maxRecDepth 100000
set_option maxHeartbeats 4000000
namespace L2H
theorem RoomH.units {k : Nat} {A : PySem.Around} (r : RoomH k A) : A.units + 64 < PySem.cLine := by have := r.un; omega
theorem RoomH.units1 {k : Nat} {A : PySem.Around} (r : RoomH k A) : A.units + 65 < PySem.cLine := by have := r.un; omega
end L2H
namespace DL
open PySem PySem.Spec PyProof.Rows L2
open Evl (Ex)
/-! ### in an except suite -/
section
variable {P : Program} {w : World} {K : PySem.W.Frag} {mg : Str → Option Value} {base : Heap} {x qual : Str} {st : Stmt} {f : Addr} {fd : FuncData} {N ps : List Str} {k : Nat} {m : DSM}
theorem fn_dH (F : Fun K x qual st f fd) (Sc : FnScope N ps (defScope st))
    (hbody : ∀ (cdv : Value) (A : Around) (outer : List Env) (s : Shared) (H : Hp) (E : XK) (p : Addr × Obj), L2H.Hot1 A p → L2H.RoomH k (A.deeper (envOfC qual (defScope st) s.heap.objs.size f cdv)) → ∃ t, DSs (L2H.cxH CX0 P w K mg base N qual (defScope st) f cdv A outer s H E p) (defBody st) m t) :
    L2H.FnH P w K mg base CX0 (k + 1) f fd ps (spF K ps.length (bodyF N.length m)) := by
  obtain ⟨oc, od, kV, doc, pm, an, cdv, ct, osl, rfl, lk, hcd⟩ := F.ex
  refine L2H.fn_ofH lk hcd Sc (fun vs H Q E h => ?_) fun A outer s H vs Q E p hot hr h => ?_
  · obtain ⟨S, pa, rs, Qd, h1, h2, h3, h4, h5⟩ := h
    exact h4
  · obtain ⟨S, pa, rs, Qd, h1, h2, h3, h4, h5, h6⟩ := h
    obtain ⟨t, t1, t2⟩ := hbody cdv A outer s H E p hot hr
    refine ⟨t, t1, t2 ⟨S, H, pa⟩ S H _ _ _ _ (SR.entry h1 h2 h3) h5 ?_⟩
    exact ⟨fun S' H' env σ s q => h6 _ _ _ (.val .non) (s.dret .non) q, fun S' H' env σ r v s q z => h6 _ _ _ _ (s.dret q) z, fun _ _ _ _ _ z => z.elim, fun _ _ _ _ _ z => z.elim, fun _ _ _ _ _ _ _ _ _ _ _ _ z => z.elim⟩
theorem _root_.L2H.FnH.imp {CX : CXT} {sp sp' : Sp} (h : L2H.FnH P w K mg base CX k f fd ps sp') (i : ∀ vs H Q E, sp vs H Q E → sp' vs H Q E) : L2H.FnH P w K mg base CX k f fd ps sp :=
  ⟨fun vs H Q E z => h.len vs H Q E (i _ _ _ _ z), fun A outer s H args us vs Q E p hr hot hp he hb hv z => h.run A outer s H args us vs Q E p hr hot hp he hb hv (i _ _ _ _ z)⟩
end
section
variable {X : Cx} {k : Nat} {f : Addr} {fd : FuncData} {ps : List Str} {F : FM} {x : Str} {p pos : Pos} {e : Expr} {es : List Expr} {n : DAM} {tn : TA} {np : Nat}
theorem de_callH {K : PySem.W.Frag} (hF : L2H.FnH X.prog X.w X.K X.mg X.base CX0 k f fd ps (spF K np F)) (hr : L2H.RoomH k X.A) (hc : L2H.HotC X) (hg : Gl X x) (hm : X.mg x = some (.ref f)) (hk : PySem.W.keepIn X.K (.ref f) = true) (hb : Binds X.K fd ps [])
    (ha : DA X (e :: es) n tn) (hlen : (e :: es).length = np) (hK : K = X.K := by rfl) (hdb : (x == ("__debug__" : Str)) = false := by decide) (he : starEach (e :: es) X.env = (false, eval e X.env) :: starEach es X.env := by rfl) (hpl : (backTo pos (starEach es X.env)).any (·.1) = false := by rfl) :
    DE X (.Call (.Name x p) (e :: es) [] pos) (dCall F n) (tCallS (spF K np F) (fun _ => E0) tn) := by
  subst hK
  exact ⟨L2H.pe_callH hF hr hc hg hm hk hb (fun _ _ _ _ _ _ _ h => h.elim) ha.1 hdb he hpl, fun B S H env σ Q Qv s q k => ha.2 B S H env σ _ _ s q fun vs H1 S1 env1 rs z l len q1 => spF_call z.sr l q1.1 (len.trans hlen) q1.2 fun v H' S' env' r a b => k v H' S' env' r (z.e a) b⟩
end
theorem dt_truK {X : Cx} {a : Expr} {ma : DM} {ta : TE} (K : PySem.W.Frag) (ha : DE X a ma ta) (hK : K = X.K := by rfl) (he : ∀ whole, isTrue a X.env whole = (do let v ← whole; standAt a.pos; holding [v] (truthy v)) := by intro _; rfl) : DT X a (dTru ma) (tTruth K ta) := by
  subst hK
  exact dt_tru ha he
/-- e.a, e the error that the suite holds -/
def dErrF (e0 : Addr) (cls : Value) (d : Option Addr) (C : Addr) (a : Str) (j : Nat) : DM := fun env Q => match env[j]? with
  | some (some (.val (.err e1 dd C' a' v))) => (e1 = e0 ∧ cls = .ref C ∧ d = some dd ∧ a' = a) ∧ Q env (.val v)
  | _ => False
/-- isinstance(e, ..), its answer b -/
def dIsErr (e0 : Addr) (cls : Value) (d : Option Addr) (C : Addr) (b : Bool) (j : Nat) : DM := fun env Q => match env[j]? with
  | some (some (.val (.err e1 dd C' a' v))) => (e1 = e0 ∧ cls = .ref C ∧ d = some dd) ∧ Q env (.val (.bl b))
  | _ => False
def rErr1 (K : PySem.W.Frag) (cls : Value) (d : Option Addr) (a : Addr) : List V → Hp → VK → Prop := fun xs H Q => ∃ D dd fs, cls = .ref D ∧ d = some dd ∧ H dd = some (.xd fs) ∧ ExcC K D ∧ rIsErr K D a xs H Q
def rErrT (K : PySem.W.Frag) (cls : Value) (d : Option Addr) (a : Addr) : List V → Hp → VK → Prop := fun xs H Q => ∃ D dd fs, cls = .ref D ∧ d = some dd ∧ H dd = some (.xd fs) ∧ ExcC K D ∧ rIsErrT K D a xs H Q
section
variable {X : Cx} {e0 C : Addr} {oe : Obj} {cls : Value} {d : Option Addr} {pn : List (Addr × Obj)} {e c : Expr} {es : List Expr} {pos p p2 : Pos} {a txt : Str} {j : Nat} {fI : Addr}
theorem call_err1 (hz : L2N.Zn cls d oe) (hf : ∃ vs, oe.data = .fields vs) : CallR (X.suite e0 ((e0, oe) :: pn)) (.builtin "isinstance") (rErr1 X.K cls d e0) := fun pins s σ H xs us Q I r ⟨D, dd, fs, h1, h2, h3, h4, h5⟩ => by
  subst h1 h2
  exact call_isErr h4 hz.zc hf pins s σ H xs us Q I r ⟨⟨fs, h3⟩, h5⟩
theorem call_errT (hz : L2N.Zn cls d oe) (hf : ∃ vs, oe.data = .fields vs) : CallR (X.suite e0 ((e0, oe) :: pn)) (.builtin "isinstance") (rErrT X.K cls d e0) := fun pins s σ H xs us Q I r ⟨D, dd, fs, h1, h2, h3, h4, h5⟩ => by
  subst h1 h2
  exact call_isErrT h4 hz.zc hf pins s σ H xs us Q I r ⟨⟨fs, h3⟩, h5⟩
/-- what is known in the suite -/
structure SuFacts (X : Cx) (e0 : Addr) (cls : Value) (d : Option Addr) : Prop where
  call1 : CallR X (.builtin "isinstance") (rErr1 X.K cls d e0)
  callT : CallR X (.builtin "isinstance") (rErrT X.K cls d e0)
  fld : ∀ {C fI : Addr} {a txt : Str} {e : Expr} {te : TE} {pos : Pos}, EX.ErrTxt X.prog X.K C fI a txt → PE X e te → attributeBase e a X.env (eval e X.env) = eval e X.env → PE X (.Attribute e a pos) (tErrFld C a e0 cls d te)
  hot : L2H.HotC X
theorem suFacts (hz : L2N.Zn cls d oe) (hf : ∃ vs, oe.data = .fields vs) : SuFacts (X.suite e0 ((e0, oe) :: pn)) e0 cls d where
  call1 := call_err1 hz hf
  callT := call_errT hz hf
  fld := fun T he hb => pe_errFld T hz.zc hf he hb
  hot := by
    obtain ⟨vs, hv⟩ := hf
    exact ⟨(e0, oe), ⟨rfl, vs, hv, hz.2.2 vs hv⟩, List.mem_cons_self⟩
theorem de_errFld (T : EX.ErrTxt X.prog X.K C fI a txt) (sf : SuFacts X e0 cls d) (hv : PE X e (tVar j)) (hb : attributeBase e a X.env (eval e X.env) = eval e X.env := by rfl) :
    DE X (.Attribute e a pos) (dErrF e0 cls d C a j) (tErrFld C a e0 cls d (tVar j)) := by
  refine ⟨sf.fld T hv hb, fun B S H env σ Q Qv s q k => ?_⟩
  unfold dErrF at q
  split at q
  · rename_i e1 dd C' a' v c
    obtain ⟨⟨rfl, hcl, hd, rfl⟩, q⟩ := q
    obtain ⟨u, h1, h2⟩ := s.val j _ c
    cases h2 with
    | err h3 h4 => exact ⟨_, h1, rfl, hcl, dd, _, hd, s.ex _ _ h3, k _ H S env (.val v) ⟨s, .refl, .refl _, h4⟩ q⟩
  · exact q.elim
theorem de_isErr {K : PySem.W.Frag} {v : V} {cv : Value} {b : Bool} (T : ExcC K C) (hk : PySem.W.kitOne K (.ref C) cv = some b) (sf : SuFacts X e0 cls d) (hg : Gl X "isinstance") (hm : X.mg "isinstance" = none) (hv : PE X e (tVar j)) (hc : PE X c (tC v)) (cl : ClsV v cv)
    (hK : K = X.K := by rfl) (he : starEach (e :: [c]) X.env = (false, eval e X.env) :: starEach [c] X.env := by rfl) (he2 : starEach (c :: []) X.env = (false, eval c X.env) :: starEach [] X.env := by rfl) (hpl : (backTo pos (starEach [c] X.env)).any (·.1) = false := by rfl) :
    DE X (.Call (.Name "isinstance" p) (e :: [c]) [] pos) (dIsErr e0 cls d C b j) (tCB (rErr1 K cls d e0) (tCons (tVar j) (tCons (tC v) tNil))) := by
  subst hK
  refine ⟨pe_callB sf.call1 hg hm (by decide +kernel) (pa_cons hv (pa_cons hc pa_nil he2) he) (by decide) (by decide) he hpl, fun B S H env σ Q Qv s q k => ?_⟩
  unfold dIsErr at q
  split at q
  · rename_i e1 dd C' a' v' c
    obtain ⟨⟨rfl, hcl, hd⟩, q⟩ := q
    obtain ⟨u, h1, h2⟩ := s.val j _ c
    cases h2 with
    | err h3 h4 => exact ⟨_, h1, C, dd, _, hcl, hd, s.ex _ _ h3, T, v, cv, b, rfl, cl, hk, k _ H S env (.val (.bl b)) ⟨s, .refl, .refl _, Rep.bl b⟩ q⟩
  · exact q.elim
def tCs : List V → TA
  | [] => tNil
  | v :: vs => tCons (tC v) (tCs vs)
theorem tCs_run : ∀ (vs : List V) (σ : L2.St) (H : Hp) (Q : List V → Hp → Prop), Q vs H → tCs vs σ H Q
  | [], σ, H, Q, h => h
  | v :: vs, σ, H, Q, h => tCs_run vs σ H (fun ws H' => Q (v :: ws) H') h
theorem de_isErrT {K : PySem.W.Frag} {vs : List V} {us : List Value} {b : Bool} {x1} {pt : Pos} (T : ExcC K C) (hk : PySem.W.kitAny K (.ref C) us = some b) (sf : SuFacts X e0 cls d) (hg : Gl X "isinstance") (hm : X.mg "isinstance" = none) (hv : PE X e (tVar j)) (hl : vs.length ≤ 100)
    (hc : PA X es (tCs vs)) (cl : Paired ClsV vs us) (hK : K = X.K := by rfl) (he : starEach (e :: [.Tuple es x1 pt]) X.env = (false, eval e X.env) :: starEach [.Tuple es x1 pt] X.env := by rfl) (he2 : starEach (.Tuple es x1 pt :: []) X.env = (false, eval (.Tuple es x1 pt) X.env) :: starEach [] X.env := by rfl) (hpl : (backTo pos (starEach [.Tuple es x1 pt] X.env)).any (·.1) = false := by rfl) :
    DE X (.Call (.Name "isinstance" p) (e :: [.Tuple es x1 pt]) [] pos) (dIsErr e0 cls d C b j) (tCB (rErrT K cls d e0) (tCons (tVar j) (tCons (tTup (tCs vs)) tNil))) := by
  subst hK
  refine ⟨pe_callB sf.callT hg hm (by decide +kernel) (pa_cons hv (pa_cons (pe_tup hc) pa_nil he2) he) (by decide) (by decide) he hpl, fun B S H env σ Q Qv s q k => ?_⟩
  unfold dIsErr at q
  split at q
  · rename_i e1 dd C' a' v' c
    obtain ⟨⟨rfl, hcl, hd⟩, q⟩ := q
    obtain ⟨u, h1, h2⟩ := s.val j _ c
    cases h2 with
    | err h3 h4 =>
      refine ⟨_, h1, tCs_run vs σ H _ ⟨by rw [sizeLine_eq]; omega, fun tp htp => ?_⟩⟩
      have n := Nw.hid s.ex (o := .tup vs) htp
      exact ⟨C, dd, _, hcl, hd, n.sh _ _ h3, T, tp, vs, us, b, rfl, upd_same, cl, hk, k _ _ S env (.val (.bl b)) ⟨s.nw n, n.go, .refl _, Rep.bl b⟩ q⟩
  · exact q.elim
theorem roomM {k : Nat} {A : Around} {v : Option Value} (hr : Room k A) : L2H.RoomH k (A.mark v) := ⟨hr.dp, hr.un⟩
end
end DL
end

section
set_option Elab.async false
set_option linter.all false
set_option maxRecDepth 100000
set_option maxHeartbeats 4000000
namespace DL
open PySem PySem.Spec PyProof.Rows L2
open Evl (Ex)
/-! ### try: name = f(..) / except X as e: suite -/
def suEn (j : Nat) (E : DEn) : DEn := { nx := fun env => E.nx (env.set j none), rt := E.rt, bk := fun env => E.bk (env.set j none), ct := fun env => E.ct (env.set j none) }
/-- what is caught -/
def Caught (K : PySem.W.Frag) (c : Value) (j : Nat) (su : Addr → Value → Option Addr → DSM) (E : DEn) (env : En) (x : Xd) : Prop :=
  PySem.W.exmOne K (.ref x.C) c = some true ∧ ∀ e0 dd, su e0 (.ref x.C) (some dd) (suEn j E) (env.set j (some (.val (.err e0 dd x.C x.a x.v))))
def dTryE (K : PySem.W.Frag) (c : Value) (i j : Nat) (F : FME) (n : DAM) (su : Addr → Value → Option Addr → DSM) : DSM := fun E env => n env fun env1 rs => argsOk rs = true ∧ F rs (fun r => match r with
  | .val d => E.nx (env1.set i (some (.val d)))
  | _ => False) (Caught K c j su E env1)
/-- the same of C(..) -/
def dTryM (K : PySem.W.Frag) (c : Value) (C : Addr) (i j : Nat) (F : FMM) (n : DAM) (su : Addr → Value → Option Addr → DSM) : DSM := fun E env => n env fun env1 rs => MadeF C F rs (fun l' => match l' with
  | .ins C' _ ns l => C' = C ∧ E.nx (env1.set i (some (.val (.ins C ns l))))
  | _ => False) (Caught K c j su E env1)
section
variable {X : Cx} {k : Nat} {f C : Addr} {fd : FuncData} {ps : List Str} {FE : FME} {FM' : FMM} {x y nm fx : Str} {p np pos pos' cpos apos py : Pos} {e : Expr} {es : List Expr} {n : DAM} {tn : TA} {npar i j : Nat} {c : Value} {b0 : Stmt} {suite : List Stmt} {su : Addr → Value → Option Addr → DSM} {ts : Addr → Value → Option Addr → TS}
/-- the catch, by the data -/
theorem caught_ok (hsu : ∀ (a : Addr) (oe : Obj) (cls : Value) (d : Option Addr) (pn : List (Addr × Obj)), SuFacts (X.suite a ((a, oe) :: pn)) a cls d → DSs (X.suite a ((a, oe) :: pn)) (b0 :: suite) (su a cls d) (ts a cls d))
    {B : Bs} {S' H' : Hp} {env : En} {σ : L2.St} {E : DEn} {D : Ends} {z : Xd} {d : Addr} {v : V} (s : SR X.K B S' H' env σ) (ek : EndOk X B E D) (h0 : B.H0 d = none) (h1 : S' d = none) (hd : H' d = some (.xd [(z.a, v)])) (hr : Rep X.K S' v z.v) (q : Caught X.K c j su E env z) :
    wAs X.K c j ts (fun _ _ _ _ => False) D (.ref z.C) (some d) σ H' := by
  refine ⟨true, q.1, fun _ a ha => ?_, fun w => nomatch w⟩
  have nO : ¬ Ow B env σ d := fun w => by
    rcases w with w | ⟨i, l, w1, w2⟩ | ⟨i, l, w1⟩
    · obtain ⟨_, o, z⟩ := s.pool d w
      rw [h0] at z
      cases z
    · obtain ⟨p, vs, k1, k2, k3, k4, _⟩ := s.own i l w1
      cases Slt.ref w2 k1
      rw [hd] at k4
      cases k4
    · obtain ⟨_, _, _, o, k4, k5⟩ := s.fix i d l w1
      rw [hd] at k4
      cases k4
      cases l with
      | lst l =>
        obtain ⟨vs, e, _⟩ := k5
        cases e
      | ins C dx ns l =>
        obtain ⟨fs, e, _⟩ := k5
        cases e
  have e1 : Ex S' (upd S' d (.xd [(z.a, v)])) := Ex.new h1
  have s2 := s.add h1 h0 nO hd
  have s3 := s2.storeD (i := j) (v := .ref a) (d := .err a d z.C z.a z.v) (.err upd_same (hr.mono e1))
  refine (hsu a { cls := .ref z.C, dict := some d, data := .fields #[.none, .none, .none] } (.ref z.C) (some d) [] (suFacts ⟨rfl, rfl, fun vs hv => by cases hv; rfl⟩ ⟨_, rfl⟩)).2 B _ H' _ _ (suEn j E) _ s3 (q.2 a d) ?_
  exact ⟨fun S H env σ s q => ek.nx S H _ _ s.drop q, fun S H env σ r v s q w => ek.rt S H env σ r v s q w, fun S H env σ s q => ek.bk S H _ _ s.drop q, fun S H env σ s q => ek.ct S H _ _ s.drop q, fun _ _ _ _ _ _ _ _ _ _ _ _ w => w.elim⟩
theorem ds_tryE (hs : X.stack = X.env :: X.outer) (hfr : X.env.frame = some X.env.locals) (hN : X.N.Nodup) (hj : X.N[j]? = some nm) (hln : X.env.kindOf nm = some .local) (hc : Names X x c) (hF : FnOk X.prog X.w X.K X.mg X.base (L2N.CX X.prog X.w) k f fd ps (spE X.K npar FE)) (hr : Room k X.A) (hg : Gl X fx) (hm : X.mg fx = some (.ref f)) (hk : PySem.W.keepIn X.K (.ref f) = true) (hb : Binds X.K fd ps [])
    (ha : ∀ pn xe, DA (X.tr pn xe) (e :: es) n tn) (hlen : (e :: es).length = npar) (hi : X.N[i]? = some y) (hy : Loc X.env.scope y)
    (hsu : ∀ (a : Addr) (oe : Obj) (cls : Value) (d : Option Addr) (pn : List (Addr × Obj)), SuFacts (X.suite a ((a, oe) :: pn)) a cls d → DSs (X.suite a ((a, oe) :: pn)) (b0 :: suite) (su a cls d) (ts a cls d))
    (hdb : (fx == ("__debug__" : Str)) = false := by decide) (he : starEach (e :: es) X.env = (false, eval e X.env) :: starEach es X.env := by rfl) (hpl : (backTo cpos (starEach es X.env)).any (·.1) = false := by rfl)
    (hsw : swapsWith (.Call (.Name fx p) (e :: es) [] cpos) (some (.Name y py)) apos.line X.env = pure false := by rfl) (hf : X.fn y = true ∨ X.env.scope.names.lookup y = some .local := by first | exact .inl rfl | exact .inr rfl | assumption) :
    DS X (.Try [.Assign [.Name y py] (.Call (.Name fx p) (e :: es) [] cpos) apos] [.ExceptHandler (some (.Name x np)) (some nm) (b0 :: suite) pos'] [] [] pos) (dTryE X.K c i j FE n su)
      (fun D σ H => tAsg (tCallS (spE X.K npar FE) (WE (wAs X.K c j ts (fun _ _ _ _ => False) D)) tn) (gName i) D σ H) := by
  refine ⟨L2N.ps_try_as (i := j) (tb := fun W => tAsg (tCallS (spE X.K npar FE) (WE W) tn) (gName i)) (Wout := fun _ _ _ _ => False) hs hfr hN hj hln hc (fun u s' ⟨_, _, _, _, _, _, _, _, _, _, _, _, _, _, _, _, w⟩ => w.elim)
    (fun W pn xe tk _ => pss_one (ps_set (X := X.tr pn xe) hN hi hy (pe_callS (X := X.tr pn xe) hF hr hg hm hk hb (fun σ => L2N.passAt tk σ) (ha pn xe).1 hdb he hpl) hsw hf)) (fun a oe cls d pn hz hv => (hsu a oe cls d pn (suFacts hz hv)).1), fun B S H env σ E D s q ek => ?_⟩
  refine (ha [] X.xe).2 B S H env σ _ _ s q fun vs H1 S1 env1 rs z l len q1 => ?_
  have zs : SR X.K B S1 H1 env1 σ := z.sr
  refine ⟨S1, B.pa, rs, _, _, zs.ex, fun a e => (zs.pool a e).1, l.args q1.1, len.trans hlen, q1.2, fun v H' S' r d w => ?_, fun z2 d v H' S' dr h0 h1 hd r w => ?_⟩
  · cases r with
    | val d0 => exact ek.nx S' H' _ _ ((zs.ret d).storeD d.ret) w
    | own l => exact w.elim
    | brw i l => exact w.elim
    | pool => exact w.elim
  · exact caught_ok hsu (zs.ret dr) ek (zs.hp0 h0) h1 hd r w
theorem ds_tryM (hs : X.stack = X.env :: X.outer) (hfr : X.env.frame = some X.env.locals) (hN : X.N.Nodup) (hj : X.N[j]? = some nm) (hln : X.env.kindOf nm = some .local) (hc : Names X x c) (M : Mk X.K C f) (hF : FnOk X.prog X.w X.K X.mg X.base (L2N.CX X.prog X.w) k f fd ps (spM X.K npar FM')) (hr : Room (k + 1) X.A) (hg : Gl X fx) (hm : X.mg fx = some (.ref C)) (hb : Binds X.K fd ps [])
    (ha : ∀ pn xe, DA (X.tr pn xe) (e :: es) n tn) (hlen : (e :: es).length + 1 = npar) (hi : X.N[i]? = some y) (hy : Loc X.env.scope y)
    (hsu : ∀ (a : Addr) (oe : Obj) (cls : Value) (d : Option Addr) (pn : List (Addr × Obj)), SuFacts (X.suite a ((a, oe) :: pn)) a cls d → DSs (X.suite a ((a, oe) :: pn)) (b0 :: suite) (su a cls d) (ts a cls d))
    (hdb : (fx == ("__debug__" : Str)) = false := by decide) (he : starEach (e :: es) X.env = (false, eval e X.env) :: starEach es X.env := by rfl) (hpl : (backTo cpos (starEach es X.env)).any (·.1) = false := by rfl)
    (hsw : swapsWith (.Call (.Name fx p) (e :: es) [] cpos) (some (.Name y py)) apos.line X.env = pure false := by rfl) (hf : X.fn y = true ∨ X.env.scope.names.lookup y = some .local := by first | exact .inl rfl | exact .inr rfl | assumption) :
    DS X (.Try [.Assign [.Name y py] (.Call (.Name fx p) (e :: es) [] cpos) apos] [.ExceptHandler (some (.Name x np)) (some nm) (b0 :: suite) pos'] [] [] pos) (dTryM X.K c C i j FM' n su)
      (fun D σ H => tAsg (tMakeX C (spM X.K npar FM') (WE (wAs X.K c j ts (fun _ _ _ _ => False) D)) tn) (gName i) D σ H) := by
  refine ⟨L2N.ps_try_as (i := j) (tb := fun W => tAsg (tMakeX C (spM X.K npar FM') (WE W) tn) (gName i)) (Wout := fun _ _ _ _ => False) hs hfr hN hj hln hc (fun u s' ⟨_, _, _, _, _, _, _, _, _, _, _, _, _, _, _, _, w⟩ => w.elim)
    (fun W pn xe tk _ => pss_one (ps_set (X := X.tr pn xe) hN hi hy (pe_makeX (X := X.tr pn xe) M hF hr hg hm hb (fun σ => L2N.passAt tk σ) (ha pn xe).1 hdb he hpl) hsw hf)) (fun a oe cls d pn hz hv => (hsu a oe cls d pn (suFacts hz hv)).1), fun B S H env σ E D s q ek => ?_⟩
  refine (ha [] X.xe).2 B S H env σ _ _ s q fun vs H1 S1 env1 rs z l len q1 => ?_
  have zs : SR X.K B S1 H1 env1 σ := z.sr
  refine made_of (np := npar) (Qv := fun v H' => D.nx (σ.set i (some v)) H') zs l (by omega) q1 (fun z2 d v H' S' s' h0 h1 hd r w => caught_ok hsu s' ek h0 h1 hd r w) fun x0 H' S' l' o s' go hx c1 c0 c4 c2 c3 w => ?_
  split at w
  · rename_i C' dx ns l
    obtain ⟨rfl, w⟩ := w
    obtain ⟨S2, s2, g2, r2⟩ := frz_new s' go hx c1 c0 c4 c2 c3
    exact ek.nx S2 H' _ _ (s2.storeD r2) w
  · exact w.elim
end
end DL
end

section
set_option Elab.async false
set_option linter.all false
set_option maxRecDepth 100000
set_option maxHeartbeats 4000000
namespace G
open PySem PySem.Spec PyProof.Rows L2 DL
def top (i : Nat) : Stmt := PySem.Challenge.pw_someobjects_k02_whole_texts_of_trees.main.body.getD i (.Pass ⟨0, 0, 0, 0⟩)
abbrev s_row_tree : Stmt := top 14
abbrev N_row_tree : List Str := ["row", "below", "letter"]
theorem sc_row_tree : FnScope N_row_tree ["row"] (defScope s_row_tree) := ⟨rfl, rfl, rfl, by decide +kernel, rfl, by decide +kernel, by decide +kernel⟩
abbrev s_people : Stmt := top 15
abbrev N_people : List Str := ["tree"]
theorem sc_people : FnScope N_people ["tree"] (defScope s_people) := ⟨rfl, rfl, rfl, by decide +kernel, rfl, by decide +kernel, by decide +kernel⟩
abbrev s_nodes_of : Stmt := top 20
abbrev N_nodes_of : List Str := ["tree", "nodes", "waiting", "letter", "children"]
theorem sc_nodes_of : FnScope N_nodes_of ["tree"] (defScope s_nodes_of) := ⟨rfl, rfl, rfl, by decide +kernel, rfl, by decide +kernel, by decide +kernel⟩
abbrev s_filled : Stmt := top 16
abbrev N_filled : List Str := ["context", "tree", "nodes", "node"]
theorem sc_filled : FnScope N_filled ["context", "tree"] (defScope s_filled) := ⟨rfl, rfl, rfl, by decide +kernel, rfl, by decide +kernel, by decide +kernel⟩
abbrev s_tree_of : Stmt := top 21
abbrev N_tree_of : List Str := ["nodes", "built", "letter", "many", "children", "_"]
theorem sc_tree_of : FnScope N_tree_of ["nodes"] (defScope s_tree_of) := ⟨rfl, rfl, rfl, by decide +kernel, rfl, by decide +kernel, by decide +kernel⟩
abbrev s_tree_text : Stmt := top 19
abbrev N_tree_text : List Str := ["tree", "words", "node"]
theorem sc_tree_text : FnScope N_tree_text ["tree"] (defScope s_tree_text) := ⟨rfl, rfl, rfl, by decide +kernel, rfl, by decide +kernel, by decide +kernel⟩
abbrev s_law_built : Stmt := top 30
abbrev N_law_built : List Str := ["words", "rest", "word", "count", "children", "k", "child"]
theorem sc_law_built : FnScope N_law_built ["words"] (defScope s_law_built) := ⟨rfl, rfl, rfl, by decide +kernel, rfl, by decide +kernel, by decide +kernel⟩
abbrev s_law_count : Stmt := top 32
abbrev N_law_count : List Str := ["tree", "child"]
theorem sc_law_count : FnScope N_law_count ["tree"] (defScope s_law_count) := ⟨rfl, rfl, rfl, by decide +kernel, rfl, by decide +kernel, by decide +kernel⟩
abbrev s_law_filled : Stmt := top 31
abbrev N_law_filled : List Str := ["context", "tree", "child"]
theorem sc_law_filled : FnScope N_law_filled ["context", "tree"] (defScope s_law_filled) := ⟨rfl, rfl, rfl, by decide +kernel, rfl, by decide +kernel, by decide +kernel⟩
abbrev s_law_same : Stmt := top 25
abbrev N_law_same : List Str := ["actual", "due", "k"]
theorem sc_law_same : FnScope N_law_same ["actual", "due"] (defScope s_law_same) := ⟨rfl, rfl, rfl, by decide +kernel, rfl, by decide +kernel, by decide +kernel⟩
abbrev s_law_digit : Stmt := top 28
abbrev N_law_digit : List Str := ["word", "most"]
theorem sc_law_digit : FnScope N_law_digit ["word", "most"] (defScope s_law_digit) := ⟨rfl, rfl, rfl, by decide +kernel, rfl, by decide +kernel, by decide +kernel⟩
abbrev s_law_wrong : Stmt := top 29
abbrev N_law_wrong : List Str := ["words", "due", "nodes", "holes", "counting", "at"]
theorem sc_law_wrong : FnScope N_law_wrong ["words"] (defScope s_law_wrong) := ⟨rfl, rfl, rfl, by decide +kernel, rfl, by decide +kernel, by decide +kernel⟩
abbrev s_law_long_words : Stmt := top 27
abbrev N_law_long_words : List Str := ["pool", "count", "words", "k"]
theorem sc_law_long_words : FnScope N_law_long_words ["pool"] (defScope s_law_long_words) := ⟨rfl, rfl, rfl, by decide +kernel, rfl, by decide +kernel, by decide +kernel⟩
abbrev s_law_draw : Stmt := top 24
abbrev N_law_draw : List Str := ["pool", "size", "cell", "value"]
theorem sc_law_draw : FnScope N_law_draw ["pool", "size"] (defScope s_law_draw) := ⟨rfl, rfl, rfl, by decide +kernel, rfl, by decide +kernel, by decide +kernel⟩
abbrev s_law_changed : Stmt := top 33
abbrev N_law_changed : List Str := ["pool", "words", "menu", "k", "place", "way", "word", "own", "at", "signs"]
theorem sc_law_changed : FnScope N_law_changed ["pool", "words"] (defScope s_law_changed) := ⟨rfl, rfl, rfl, by decide +kernel, rfl, by decide +kernel, by decide +kernel⟩
abbrev s_law_pool : Stmt := top 23
abbrev N_law_pool : List Str := ["script", "budget"]
theorem sc_law_pool : FnScope N_law_pool ["script", "budget"] (defScope s_law_pool) := ⟨rfl, rfl, rfl, by decide +kernel, rfl, by decide +kernel, by decide +kernel⟩
abbrev s_law_tree_words : Stmt := top 26
abbrev N_law_tree_words : List Str := ["pool", "left", "hole", "words", "count", "below", "kept", "k"]
theorem sc_law_tree_words : FnScope N_law_tree_words ["pool", "left", "hole"] (defScope s_law_tree_words) := ⟨rfl, rfl, rfl, by decide +kernel, rfl, by decide +kernel, by decide +kernel⟩
abbrev s_Words_initdd : Stmt := inClass (top 8) 0
abbrev N_Words_initdd : List Str := ["self", "text"]
theorem sc_Words_initdd : FnScope N_Words_initdd ["self", "text"] (defScope s_Words_initdd) := ⟨rfl, rfl, rfl, by decide +kernel, rfl, by decide +kernel, by decide +kernel⟩
abbrev s_Words_ahead : Stmt := inClass (top 8) 1
abbrev N_Words_ahead : List Str := ["self"]
theorem sc_Words_ahead : FnScope N_Words_ahead ["self"] (defScope s_Words_ahead) := ⟨rfl, rfl, rfl, by decide +kernel, rfl, by decide +kernel, by decide +kernel⟩
abbrev s_Words_take : Stmt := inClass (top 8) 2
abbrev N_Words_take : List Str := ["self", "fitting", "word"]
theorem sc_Words_take : FnScope N_Words_take ["self", "fitting"] (defScope s_Words_take) := ⟨rfl, rfl, rfl, by decide +kernel, rfl, by decide +kernel, by decide +kernel⟩
abbrev s_Words_number : Stmt := inClass (top 8) 3
abbrev N_Words_number : List Str := ["self", "low", "high", "n"]
theorem sc_Words_number : FnScope N_Words_number ["self", "low", "high"] (defScope s_Words_number) := ⟨rfl, rfl, rfl, by decide +kernel, rfl, by decide +kernel, by decide +kernel⟩
abbrev s_Words_finish : Stmt := inClass (top 8) 4
abbrev N_Words_finish : List Str := ["self"]
theorem sc_Words_finish : FnScope N_Words_finish ["self"] (defScope s_Words_finish) := ⟨rfl, rfl, rfl, by decide +kernel, rfl, by decide +kernel, by decide +kernel⟩
abbrev s_read_node : Stmt := top 18
abbrev N_read_node : List Str := ["words", "may_be_hole", "room", "letter"]
theorem sc_read_node : FnScope N_read_node ["words", "may_be_hole", "room"] (defScope s_read_node) := ⟨rfl, rfl, rfl, by decide +kernel, rfl, by decide +kernel, by decide +kernel⟩
abbrev s_read_tree : Stmt := top 17
abbrev N_read_tree : List Str := ["text", "words", "nodes", "told", "node"]
theorem sc_read_tree : FnScope N_read_tree ["text"] (defScope s_read_tree) := ⟨rfl, rfl, rfl, by decide +kernel, rfl, by decide +kernel, by decide +kernel⟩
abbrev s_law : Stmt := top 34
abbrev N_law : List Str := ["script", "pool", "words", "large", "text", "bad", "tree", "e", "due", "own", "row", "chain", "letter", "passed", "k"]
theorem sc_law : FnScope N_law ["script"] (defScope s_law) := ⟨rfl, rfl, rfl, by decide +kernel, rfl, by decide +kernel, by decide +kernel⟩
structure Ad where
  f_row_tree : Addr
  d_row_tree : FuncData
  f_people : Addr
  d_people : FuncData
  f_nodes_of : Addr
  d_nodes_of : FuncData
  f_filled : Addr
  d_filled : FuncData
  f_tree_of : Addr
  d_tree_of : FuncData
  f_tree_text : Addr
  d_tree_text : FuncData
  f_law_built : Addr
  d_law_built : FuncData
  f_law_count : Addr
  d_law_count : FuncData
  f_law_filled : Addr
  d_law_filled : FuncData
  f_law_same : Addr
  d_law_same : FuncData
  f_law_digit : Addr
  d_law_digit : FuncData
  f_law_wrong : Addr
  d_law_wrong : FuncData
  f_law_long_words : Addr
  d_law_long_words : FuncData
  f_law_draw : Addr
  d_law_draw : FuncData
  f_law_changed : Addr
  d_law_changed : FuncData
  f_law_pool : Addr
  d_law_pool : FuncData
  f_law_tree_words : Addr
  d_law_tree_words : FuncData
  f_Words_initdd : Addr
  d_Words_initdd : FuncData
  f_Words_ahead : Addr
  d_Words_ahead : FuncData
  f_Words_take : Addr
  d_Words_take : FuncData
  f_Words_number : Addr
  d_Words_number : FuncData
  f_Words_finish : Addr
  d_Words_finish : FuncData
  f_read_node : Addr
  d_read_node : FuncData
  f_read_tree : Addr
  d_read_tree : FuncData
  f_law : Addr
  d_law : FuncData
  k_HOLE_NODE : Addr
  t_HIGHEST_DIGIT : Tok
  t_MOST_CHILDREN : Tok
  t_MOST_PEOPLE : Tok
  Words : Addr
  i_BadText : Addr
  x_BadText : Addr
  x_BadMachine : Addr
  x_BadPaper : Addr
  x_BadRule : Addr
  x_TooLarge : Addr
  e_ObjectError : Addr
def m_row_tree : DSM :=
  (dSeq (dSet 1 (dTup dNil))
  (dSeq (dFor (dOver (dVar 0)) (dName 2)
  (dSet 1 (dTup (dCons (dKeep (dTup (dCons (dKeep (dVar 2)) (dCons (dKeep (dVar 1)) dNil)))) dNil))))
  (dRet (dOp mIx (dVar 1) (dC (.int 0))))))
def m_people (F_nodes_of : FM) : DSM :=
  (dRet (dCB mLen (dCons (dCall F_nodes_of (dCons (dKeep (dVar 0)) dNil)) dNil)))
def m_filled (F_nodes_of : FM) (F_tree_of : FM) : DSM :=
  (dSeq (dSet 2 (dLst dNil))
  (dSeq (dFor (dOver (dCall F_nodes_of (dCons (dKeep (dVar 0)) dNil))) (dName 3)
  (dIfS (dB (dOp mEq (dVar 3) (dC (.tup [.non, (.int 0)]))))
  (dExtA 2 (dCall F_nodes_of (dCons (dKeep (dVar 1)) dNil)))
  (dApp 2 (dVar 3))))
  (dRet (dCall F_tree_of (dCons (dKeep (dVar 2)) dNil)))))
def m_tree_text (F_nodes_of : FM) : DSM :=
  (dSeq (dSet 1 (dLst dNil))
  (dSeq (dFor (dOver (dCall F_nodes_of (dCons (dKeep (dVar 0)) dNil))) (dName 2)
  (dIfS (dB (dOp mEq (dVar 2) (dC (.tup [.non, (.int 0)]))))
  (dApp 1 (dC (.str "hole")))
  (dExtA 1 (dLst (dCons (dKeep (dCB mStr (dCons (dOp mIx (dVar 2) (dC (.int 0))) dNil))) (dCons (dKeep (dCB mStr (dCons (dOp mIx (dVar 2) (dC (.int 1))) dNil))) dNil))))))
  (dRet (dM1 mJoin (dC (.str " ")) (dVar 1)))))
def m_nodes_of : DSM :=
  (dSeq (dSet 1 (dLst dNil))
  (dSeq (dSet 2 (dLst (dCons (dKeep (dVar 0)) dNil)))
  (dSeq (dWhile (dTru (dVar 2))
  (dSeq (dAsgP (dTg 2 (dTCons (dName 3) (dTCons (dName 4) dTNil))) (dPopL 2))
  (dSeq (dApp 1 (dTup (dCons (dKeep (dVar 3)) (dCons (dKeep (dCB mLen (dCons (dVar 4) dNil))) dNil))))
  (dExtA 2 (dRevA (dVar 4))))))
  (dRet (dVar 1)))))
def m_tree_of : DSM :=
  (dSeq (dSet 1 (dLst dNil))
  (dSeq (dFor (dRev (dVar 0)) (dTg 2 (dTCons (dName 2) (dTCons (dName 3) dTNil)))
  (dSeq (dSet 4 (dLst dNil))
  (dSeq (dFor (dRng1 (dVar 3)) (dName 5)
  (dAppP 4 (dPopL 1)))
  (dApp 1 (dTup (dCons (dKeep (dVar 2)) (dCons (dKeep (dCB mTuple (dCons (dVar 4) dNil))) dNil)))))))
  (dRetP (dPopL 1))))
def m_law_built (F_law_built : FM) : DSM :=
  (dSeq (dSet 1 (dCB mList (dCons (dVar 0) dNil)))
  (dSeq (dSetP 2 (dPopF 1))
  (dSeq (dIfS (dB (dOp mEq (dVar 2) (dC (.str "hole"))))
  (dRet (dTup (dCons (dKeep (dTup (dCons (dKeep (dC .non)) (dCons (dKeep (dTup dNil)) dNil)))) (dCons (dKeep (dVar 1)) dNil))))
  dNext)
  (dSeq (dSetP 3 (dPInt (dPopF 1)))
  (dSeq (dSet 4 (dLst dNil))
  (dSeq (dFor (dRng1 (dVar 3)) (dName 5)
  (dSeq (dAsg (dTg 2 (dTCons (dName 6) (dTCons (dName 1) dTNil))) (dCall F_law_built (dCons (dKeep (dVar 1)) dNil)))
  (dApp 4 (dVar 6))))
  (dRet (dTup (dCons (dKeep (dTup (dCons (dKeep (dCB mInt (dCons (dVar 2) dNil))) (dCons (dKeep (dCB mTuple (dCons (dVar 4) dNil))) dNil)))) (dCons (dKeep (dVar 1)) dNil))))))))))
def m_law_count (F_law_count : FM) : DSM :=
  (dRet (dOp mAdd (dC (.int 1)) (dCB mSum (dCons (dLc (dOver (dOp mIx (dVar 0) (dC (.int 1)))) [1] (dName 1) dYes (dCall F_law_count (dCons (dKeep (dVar 1)) dNil))) dNil))))
def m_law_filled (F_law_filled : FM) : DSM :=
  (dSeq (dIfS (dB (dOp mIs (dOp mIx (dVar 0) (dC (.int 0))) (dC .non)))
  (dRet (dVar 1))
  dNext)
  (dRet (dTup (dCons (dKeep (dOp mIx (dVar 0) (dC (.int 0)))) (dCons (dKeep (dCB mTuple (dCons (dLc (dOver (dOp mIx (dVar 0) (dC (.int 1)))) [2] (dName 2) dYes (dCall F_law_filled (dCons (dKeep (dVar 2)) (dCons (dKeep (dVar 1)) dNil)))) dNil))) dNil)))))
def m_law_same (F_law_same : FM) : DSM :=
  (dSeq (dIfS (dOr (dTru (dIsi .tuple (dVar 1))) (dTru (dIsi .list (dVar 1))))
  (dSeq (dIfS (dOr (dB (dOp mNe (dIsi .tuple (dVar 1)) (dIsi .tuple (dVar 0)))) (dB (dOp mNe (dIsi .list (dVar 1)) (dIsi .list (dVar 0)))))
  (dRet (dC (.bl false)))
  dNext)
  (dSeq (dIfS (dB (dOp mNe (dCB mLen (dCons (dVar 0) dNil)) (dCB mLen (dCons (dVar 1) dNil))))
  (dRet (dC (.bl false)))
  dNext)
  (dSeq (dFor (dRng1 (dCB mLen (dCons (dVar 1) dNil))) (dName 2)
  (dIfS (dNot (dTru (dCall F_law_same (dCons (dKeep (dOp mIx (dVar 0) (dVar 2))) (dCons (dKeep (dOp mIx (dVar 1) (dVar 2))) dNil)))))
  (dRet (dC (.bl false)))
  dNext))
  (dRet (dC (.bl true))))))
  dNext)
  (dSeq (dIfS (dOr (dB (dOp mIs (dVar 1) (dC .non))) (dTru (dIsi .bool (dVar 1))))
  (dRet (dAndV (dOp mEq (dOp mIs (dVar 0) (dC .non)) (dOp mIs (dVar 1) (dC .non))) (dAndV (dOrV (dOp mIs (dVar 1) (dC .non)) (dIsi .bool (dVar 0))) (dOp mEq (dVar 0) (dVar 1)))))
  dNext)
  (dSeq (dIfS (dTru (dIsi .int (dVar 1)))
  (dRet (dAndV (dIsi .int (dVar 0)) (dAndV (dNotV (dIsi .bool (dVar 0))) (dOp mEq (dVar 0) (dVar 1)))))
  dNext)
  (dRet (dAndV (dIsi .str (dVar 0)) (dOp mEq (dVar 0) (dVar 1)))))))
def m_law_digit : DSM :=
  (dRet (dAndV (dOp mEq (dCB mLen (dCons (dVar 0) dNil)) (dC (.int 1))) (dAndV (dChain mLeA mLeA (dC (.str "0")) (dVar 0) (dC (.str "9"))) (dOp mLeA (dCB mInt (dCons (dVar 0) dNil)) (dVar 1)))))
def m_law_wrong (F_law_digit : FM) : DSM :=
  (dSeq (dSet 1 (dC (.int 1)))
  (dSeq (dSet 2 (dC (.int 0)))
  (dSeq (dSet 3 (dC (.int 0)))
  (dSeq (dSet 4 (dC (.bl false)))
  (dSeq (dFor (dRng1 (dCB mLen (dCons (dVar 0) dNil))) (dName 5)
  (dSeq (dIfS (dAnd (dB (dOp mEq (dVar 1) (dC (.int 0)))) (dNot (dTru (dVar 4))))
  (dRet (dVar 5))
  dNext)
  (dIfS (dTru (dVar 4))
  (dSeq (dIfS (dNot (dTru (dCall F_law_digit (dCons (dKeep (dOp mIx (dVar 0) (dVar 5))) (dCons (dKeep (dCB mMin2 (dCons (dC (.int 2)) (dCons (dOp mSub (dOp mSub (dC (.int 200)) (dVar 2)) (dVar 1)) dNil)))) dNil)))))
  (dRet (dVar 5))
  dNext)
  (dSeq (dSet 1 (dOp mAdd (dVar 1) (dCB mInt (dCons (dOp mIx (dVar 0) (dVar 5)) dNil))))
  (dSet 4 (dC (.bl false)))))
  (dIfS (dAnd (dB (dOp mEq (dOp mIx (dVar 0) (dVar 5)) (dC (.str "hole")))) (dB (dOp mEq (dVar 3) (dC (.int 0)))))
  (dSeq (dSet 3 (dC (.int 1)))
  (dSeq (dSet 2 (dOp mAdd (dVar 2) (dC (.int 1))))
  (dSet 1 (dOp mSub (dVar 1) (dC (.int 1))))))
  (dIfS (dTru (dCall F_law_digit (dCons (dKeep (dOp mIx (dVar 0) (dVar 5))) (dCons (dKeep (dC (.int 9))) dNil))))
  (dSeq (dSet 4 (dC (.bl true)))
  (dSeq (dSet 2 (dOp mAdd (dVar 2) (dC (.int 1))))
  (dSet 1 (dOp mSub (dVar 1) (dC (.int 1))))))
  (dRet (dVar 5)))))))
  (dSeq (dIfS (dOr (dB (dOp mGtA (dVar 1) (dC (.int 0)))) (dTru (dVar 4)))
  (dRet (dCB mLen (dCons (dVar 0) dNil)))
  dNext)
  (dRet (dC .non))))))))
def m_law_long_words (F_law_draw : FM) : DSM :=
  (dSeq (dSet 1 (dOp mAdd (dC (.int 199)) (dCall F_law_draw (dCons (dKeep (dVar 0)) (dCons (dKeep (dC (.int 4))) dNil)))))
  (dSeq (dSet 2 (dLst dNil))
  (dSeq (dFor (dRng1 (dOp mSub (dVar 1) (dC (.int 1)))) (dName 3)
  (dSet 2 (dOp mAdd (dVar 2) (dLst (dCons (dKeep (dCB mStr (dCons (dCall F_law_draw (dCons (dKeep (dVar 0)) (dCons (dKeep (dC (.int 10))) dNil))) dNil))) (dCons (dKeep (dC (.str "1"))) dNil))))))
  (dSeq (dIfS (dAnd (dB (dOp mEq (dCall F_law_draw (dCons (dKeep (dVar 0)) (dCons (dKeep (dC (.int 2))) dNil))) (dC (.int 0)))) (dB (dOp mGtA (dVar 1) (dC (.int 3)))))
  (dSeq (dSet 2 (dOp mAdd (dSl (dVar 2) dNoPart (dPart (dOp mMul (dC (.int 2)) (dCall F_law_draw (dCons (dKeep (dVar 0)) (dCons (dKeep (dOp mSub (dVar 1) (dC (.int 2)))) dNil)))))) (dLst (dCons (dKeep (dC (.str "3"))) (dCons (dKeep (dC (.str "2"))) (dCons (dKeep (dC (.str "1"))) (dCons (dKeep (dC (.str "0"))) dNil)))))))
  (dSet 2 (dOp mAdd (dVar 2) (dOp mRep (dLst (dCons (dKeep (dC (.str "4"))) (dCons (dKeep (dC (.str "1"))) dNil))) (dOp mSub (dOp mSub (dVar 1) (dOp mDiv (dCB mLen (dCons (dVar 2) dNil)) (dC (.int 2)))) (dC (.int 1)))))))
  dNext)
  (dRet (dOp mAdd (dVar 2) (dLst (dCons (dKeep (dC (.str "5"))) (dCons (dKeep (dC (.str "0"))) dNil)))))))))
def m_law_changed (F_law_draw : FM) : DSM :=
  (dSeq (dSet 2 (dLst (dCons (dKeep (dC (.str "0"))) (dCons (dKeep (dC (.str "1"))) (dCons (dKeep (dC (.str "2"))) (dCons (dKeep (dC (.str "3"))) (dCons (dKeep (dC (.str "9"))) (dCons (dKeep (dC (.str "10"))) (dCons (dKeep (dC (.str ""))) (dCons (dKeep (dC (.str "hole"))) (dCons (dKeep (dC (.str "holes"))) (dCons (dKeep (dC (.str "Hole"))) (dCons (dKeep (dC (.str "-1"))) (dCons (dKeep (dC (.str "x"))) (dCons (dKeep (dC (.str "1\n"))) (dCons (dKeep (dC (.str "\t1"))) dNil))))))))))))))))
  (dSeq (dFor (dRng1 (dCall F_law_draw (dCons (dKeep (dVar 0)) (dCons (dKeep (dC (.int 4))) dNil)))) (dName 3)
  (dSeq (dSet 4 (dCall F_law_draw (dCons (dKeep (dVar 0)) (dCons (dKeep (dOp mAdd (dCB mLen (dCons (dVar 1) dNil)) (dC (.int 1)))) dNil))))
  (dSeq (dSet 5 (dCall F_law_draw (dCons (dKeep (dVar 0)) (dCons (dKeep (dC (.int 4))) dNil))))
  (dSeq (dSet 6 (dOp mIx (dVar 2) (dCall F_law_draw (dCons (dKeep (dVar 0)) (dCons (dKeep (dCB mLen (dCons (dVar 2) dNil))) dNil)))))
  (dIfS (dB (dOp mEq (dVar 5) (dC (.int 0))))
  (dSet 1 (dOp mAdd (dSl (dVar 1) dNoPart (dPart (dVar 4))) (dSl (dVar 1) (dPart (dOp mAdd (dVar 4) (dC (.int 1)))) dNoPart)))
  (dIfS (dB (dOp mEq (dVar 5) (dC (.int 1))))
  (dSet 1 (dOp mAdd (dOp mAdd (dSl (dVar 1) dNoPart (dPart (dVar 4))) (dLst (dCons (dKeep (dVar 6)) dNil))) (dSl (dVar 1) (dPart (dVar 4)) dNoPart)))
  (dIfS (dB (dOp mEq (dVar 5) (dC (.int 2))))
  (dSet 1 (dOp mAdd (dOp mAdd (dSl (dVar 1) dNoPart (dPart (dVar 4))) (dLst (dCons (dKeep (dVar 6)) dNil))) (dSl (dVar 1) (dPart (dOp mAdd (dVar 4) (dC (.int 1)))) dNoPart)))
  (dSeq (dSet 7 (dM1 mJoin (dC (.str "")) (dSl (dVar 1) (dPart (dVar 4)) (dPart (dOp mAdd (dVar 4) (dC (.int 1)))))))
  (dSeq (dSet 8 (dCall F_law_draw (dCons (dKeep (dVar 0)) (dCons (dKeep (dOp mAdd (dCB mLen (dCons (dVar 7) dNil)) (dC (.int 1)))) dNil))))
  (dSeq (dSet 9 (dC (.str "0123 hole-+_.A~`")))
  (dSeq (dSet 7 (dOp mAdd (dOp mAdd (dSl (dVar 7) dNoPart (dPart (dVar 8))) (dOp mIx (dVar 9) (dCall F_law_draw (dCons (dKeep (dVar 0)) (dCons (dKeep (dCB mLen (dCons (dVar 9) dNil))) dNil))))) (dSl (dVar 7) (dPart (dOp mAdd (dVar 8) (dCall F_law_draw (dCons (dKeep (dVar 0)) (dCons (dKeep (dC (.int 2))) dNil))))) dNoPart)))
  (dSet 1 (dOp mAdd (dOp mAdd (dSl (dVar 1) dNoPart (dPart (dVar 4))) (dLst (dCons (dKeep (dVar 7)) dNil))) (dSl (dVar 1) (dPart (dOp mAdd (dVar 4) (dC (.int 1)))) dNoPart))))))))))))))
  (dRet (dVar 1))))
def m_law_pool : DSM :=
  (dRet (dLst (dCons (dKeep (dCB mList (dCons (dVar 0) dNil))) (dCons (dKeep (dC (.int 0))) (dCons (dKeep (dC (.int 0))) (dCons (dKeep (dC (.int 1))) (dCons (dKeep (dC (.int 0))) (dCons (dKeep (dVar 1)) dNil))))))))
def m_law_tree_words (F_law_draw : FM) (F_law_tree_words : FMJ) : DSM :=
  (dSeq (dIfS (dAnd (dB (dOp mGtA (dIxF 2 (dC (.int 0))) (dC (.int 0)))) (dB (dOp mEq (dCall F_law_draw (dCons (dKeep (dVar 0)) (dCons (dKeep (dC (.int 5))) dNil))) (dC (.int 0)))))
  (dSeq (dPutF 2 (dC (.int 0)) (dC (.int 0)))
  (dRet (dKeep (dLst (dCons (dKeep (dC (.str "hole"))) dNil)))))
  dNext)
  (dSeq (dSet 3 (dLst (dCons (dKeep (dCB mStr (dCons (dCall F_law_draw (dCons (dKeep (dVar 0)) (dCons (dKeep (dC (.int 10))) dNil))) dNil))) dNil)))
  (dSeq (dSet 4 (dOp mIx (dTup (dCons (dKeep (dC (.int 0))) (dCons (dKeep (dC (.int 1))) (dCons (dKeep (dC (.int 1))) (dCons (dKeep (dC (.int 2))) (dCons (dKeep (dC (.int 2))) dNil)))))) (dCall F_law_draw (dCons (dKeep (dVar 0)) (dCons (dKeep (dC (.int 5))) dNil)))))
  (dSeq (dSet 5 (dLst dNil))
  (dSeq (dSet 6 (dC (.int 0)))
  (dSeq (dFor (dRng1 (dVar 4)) (dName 7)
  (dIfS (dB (dOp mGtA (dIxF 1 (dC (.int 0))) (dC (.int 0))))
  (dSeq (dPutF 1 (dC (.int 0)) (dOp mSub (dIxF 1 (dC (.int 0))) (dC (.int 1))))
  (dSeq (dSet 6 (dOp mAdd (dVar 6) (dC (.int 1))))
  (dSetP 5 (dOpV 5 mAdd (dCallJ 1 2 F_law_tree_words (dConsJ (dKeep (dVar 0)) (dEndJ 1 2)))))))
  dNext))
  (dRet (dKeep (dOp mAdd (dOp mAdd (dVar 3) (dLst (dCons (dKeep (dCB mStr (dCons (dVar 6) dNil))) dNil))) (dVar 5))))))))))
def m_Words_initdd (a : Ad) : DSM :=
  (dSeq (dPutA a.Words 0 "words" (dIf (dTru (dVar 1)) (dM1 mSplit (dVar 1) (dC (.str " "))) (dLst dNil)))
  (dPutA a.Words 0 "at" (dC (.int 0))))
def m_Words_ahead (a : Ad) : DSM :=
  (dSeq (dIfS (dB (dOp mEq (dFldF a.Words 0 "at") (dCB mLen (dCons (dFldF a.Words 0 "words") dNil))))
  (dRet (dC .non))
  dNext)
  (dRet (dOp mIx (dFldF a.Words 0 "words") (dFldF a.Words 0 "at"))))
def m_Words_take (a : Ad) (F_Words_ahead : FMM) : DSM :=
  (dSeq (dSet 2 (dAskM a.Words 0 "ahead" F_Words_ahead))
  (dSeq (dIfS (dB (dOp mNotIn (dVar 2) (dVar 1)))
  (dRaise a.x_BadText "at" (dFldF a.Words 0 "at"))
  dNext)
  (dSeq (dAugA a.Words 0 "at" (fun x y => x + y) (dC (.int 1)))
  (dRet (dVar 2)))))
def m_Words_number (a : Ad) (F_Words_take : FMM) : DSM :=
  (dRetP (dPInt (dMethM a.Words 0 "take" F_Words_take (dCons (dKeep (dLc (dRng2 (dVar 1) (dOp mAdd (dVar 2) (dC (.int 1)))) [3] (dName 3) dYes (dCB mStr (dCons (dVar 3) dNil)))) dNil))))
def m_Words_finish (a : Ad) : DSM :=
  (dIfS (dB (dOp mLtA (dFldF a.Words 0 "at") (dCB mLen (dCons (dFldF a.Words 0 "words") dNil))))
  (dRaise a.x_BadText "at" (dFldF a.Words 0 "at"))
  dNext)
def m_read_node (a : Ad) (F_Words_ahead : FMM) (F_Words_take : FMM) (F_Words_number : FMM) : DSM :=
  (dSeq (dIfS (dAnd (dTru (dVar 1)) (dB (dOp mEq (dAskM a.Words 0 "ahead" F_Words_ahead) (dC (.str "hole")))))
  (dSeq (dDropP (dMethM a.Words 0 "take" F_Words_take (dCons (dKeep (dLst (dCons (dKeep (dC (.str "hole"))) dNil))) dNil)))
  (dRet (dC (.tup [.non, (.int 0)]))))
  dNext)
  (dSeq (dSetP 3 (dMethM a.Words 0 "number" F_Words_number (dCons (dKeep (dC (.int 0))) (dCons (dKeep (dC (.int 9))) dNil))))
  (dRetP (dTupP (dConsP (dVar 3) (dEndP (dMethM a.Words 0 "number" F_Words_number (dCons (dKeep (dC (.int 0))) (dCons (dKeep (dCB mMin2 (dCons (dC (.int 2)) (dCons (dVar 2) dNil)))) dNil)))))))))
def m_read_tree (a : Ad) (F_tree_of : FM) (F_read_node : FMM) (F_Words_finish : FMM) (F_Words_initdd : FMM) : DSM :=
  (dSeq (dSetM a.Words 1 F_Words_initdd (dCons (dKeep (dVar 0)) dNil))
  (dSeq (dSet 2 (dLst dNil))
  (dSeq (dSet 3 (dC (.int 1)))
  (dSeq (dWhile (dB (dOp mLtA (dCB mLen (dCons (dVar 2) dNil)) (dVar 3)))
  (dSeq (dSetP 4 (dCallM 1 F_read_node (dCons (dKeep (dOp mNotIn (dC (.tup [.non, (.int 0)])) (dVar 2))) (dCons (dKeep (dOp mSub (dC (.int 200)) (dVar 3))) dNil))))
  (dSeq (dApp 2 (dVar 4))
  (dAug 3 mAddI (dOp mIx (dVar 4) (dC (.int 1)))))))
  (dSeq (dDropP (dMethM a.Words 1 "finish" F_Words_finish dNil))
  (dRet (dCall F_tree_of (dCons (dKeep (dVar 2)) dNil))))))))
def m_law (K : PySem.W.Frag) (a : Ad) (F_law_pool : FM) (F_law_draw : FM) (F_law_long_words : FM) (F_law_changed : FM) (F_law_wrong : FM) (F_tree_text : FM) (F_law_same : FM) (F_people : FM) (F_law_built : FM) (F_law_filled : FM) (F_filled : FM) (F_law_count : FM) (F_row_tree : FM) (FH_law_same : FM) (F_law_tree_words : FMJ) (F_read_tree : FME) : DSM :=
  (dPool 1 (dCall F_law_pool (dCons (dKeep (dVar 0)) (dCons (dKeep (dC (.int 0))) dNil)))
  (dSeq (dSet 2 (dCall2 F_law_tree_words (dCons2 (dKeep (dVar 1)) (dEnd2 (dLst (dCons (dKeep (dCall F_law_draw (dCons (dKeep (dVar 1)) (dCons (dKeep (dC (.int 20))) dNil)))) dNil)) (dLst (dCons (dKeep (dCall F_law_draw (dCons (dKeep (dVar 1)) (dCons (dKeep (dC (.int 2))) dNil)))) dNil))))))
  (dSeq (dSet 3 (dOp mEq (dCall F_law_draw (dCons (dKeep (dVar 1)) (dCons (dKeep (dC (.int 12))) dNil))) (dC (.int 0))))
  (dSeq (dIfS (dTru (dVar 3))
  (dSet 2 (dCall F_law_long_words (dCons (dKeep (dVar 1)) dNil)))
  dNext)
  (dSeq (dIfS (dB (dOp mEq (dCall F_law_draw (dCons (dKeep (dVar 1)) (dCons (dKeep (dC (.int 2))) dNil))) (dC (.int 0))))
  (dSet 2 (dCall F_law_changed (dCons (dKeep (dVar 1)) (dCons (dKeep (dVar 2)) dNil))))
  dNext)
  (dSeq (dSet 4 (dM1 mJoin (dC (.str " ")) (dVar 2)))
  (dSeq (dSet 2 (dM1 mSplit (dVar 4) (dC (.str " "))))
  (dSeq (dIfS (dB (dOp mEq (dVar 4) (dC (.str ""))))
  (dSet 2 (dLst dNil))
  dNext)
  (dSeq (dSet 5 (dCall F_law_wrong (dCons (dKeep (dVar 2)) dNil)))
  (dSeq (dTryE K (.ref a.e_ObjectError) 6 7 F_read_tree (dCons (dKeep (dVar 4)) dNil) (fun e0 cls d =>
  (dSeq (dIfS (dOr (dNot (dTru (dIsErr e0 cls d a.x_BadText true 7))) (dOr (dNot (dTru (dIsErr e0 cls d a.x_BadText true 7))) (dTru (dIsErr e0 cls d a.x_BadText false 7))))
  (dRet (dC (.bl false)))
  dNext)
  (dRet (dAndV (dOp mIsN (dVar 5) (dC .non)) (dCall FH_law_same (dCons (dKeep (dErrF e0 cls d a.x_BadText "at" 7)) (dCons (dKeep (dVar 5)) dNil))))))))
  (dSeq (dIfS (dOr (dB (dOp mIsN (dVar 5) (dC .non))) (dNot (dTru (dCall F_law_same (dCons (dKeep (dCall F_tree_text (dCons (dKeep (dVar 6)) dNil))) (dCons (dKeep (dVar 4)) dNil))))))
  (dRet (dC (.bl false)))
  dNext)
  (dSeq (dIfS (dTru (dVar 3))
  (dRet (dOrV (dOp mIn (dC (.str "hole")) (dVar 2)) (dCall F_law_same (dCons (dKeep (dCall F_people (dCons (dKeep (dVar 6)) dNil))) (dCons (dKeep (dOp mDiv (dCB mLen (dCons (dVar 2) dNil)) (dC (.int 2)))) dNil)))))
  dNext)
  (dSeq (dSet 8 (dOp mIx (dCall F_law_built (dCons (dKeep (dVar 2)) dNil)) (dC (.int 0))))
  (dSeq (dSet 9 (dOp mIx (dCall F_law_built (dCons (dKeep (dCall2 F_law_tree_words (dCons2 (dKeep (dVar 1)) (dEnd2 (dLst (dCons (dKeep (dC (.int 4))) dNil)) (dLst (dCons (dKeep (dC (.int 0))) dNil)))))) dNil)) (dC (.int 0))))
  (dSeq (dIfS (dNot (dTru (dCall F_law_same (dCons (dKeep (dVar 6)) (dCons (dKeep (dVar 8)) dNil)))))
  (dRet (dC (.bl false)))
  dNext)
  (dSeq (dIfS (dAnd (dB (dOp mIn (dC (.str "hole")) (dVar 2))) (dNot (dTru (dCall F_law_same (dCons (dKeep (dCall F_filled (dCons (dKeep (dVar 6)) (dCons (dKeep (dVar 9)) dNil)))) (dCons (dKeep (dCall F_law_filled (dCons (dKeep (dVar 8)) (dCons (dKeep (dVar 9)) dNil)))) dNil))))))
  (dRet (dC (.bl false)))
  dNext)
  (dSeq (dIfS (dAnd (dB (dOp mNotIn (dC (.str "hole")) (dVar 2))) (dNot (dTru (dCall F_law_same (dCons (dKeep (dCall F_people (dCons (dKeep (dVar 6)) dNil))) (dCons (dKeep (dCall F_law_count (dCons (dKeep (dVar 8)) dNil))) dNil))))))
  (dRet (dC (.bl false)))
  dNext)
  (dSeq (dSet 10 (dLc (dRng1 (dOp mAdd (dC (.int 1)) (dCall F_law_draw (dCons (dKeep (dVar 1)) (dCons (dKeep (dC (.int 9))) dNil))))) [14] (dName 14) dYes (dCall F_law_draw (dCons (dKeep (dVar 1)) (dCons (dKeep (dC (.int 4))) dNil)))))
  (dSeq (dSet 11 (dTup (dCons (dKeep (dOp mIx (dVar 10) (dC (.int 0)))) (dCons (dKeep (dTup dNil)) dNil))))
  (dSeq (dFor (dOver (dSl (dVar 10) (dPart (dC (.int 1))) dNoPart)) (dName 12)
  (dSet 11 (dTup (dCons (dKeep (dVar 12)) (dCons (dKeep (dTup (dCons (dKeep (dVar 11)) dNil))) dNil)))))
  (dSeq (dSet 13 (dOp mIx (dTup (dCons (dKeep (dVar 10)) (dCons (dKeep (dCB mTuple (dCons (dVar 10) dNil))) dNil))) (dCall F_law_draw (dCons (dKeep (dVar 1)) (dCons (dKeep (dC (.int 2))) dNil)))))
  (dRet (dAndV (dCall F_law_same (dCons (dKeep (dCall F_row_tree (dCons (dKeep (dVar 13)) dNil))) (dCons (dKeep (dVar 11)) dNil))) (dOp mEq (dCB mList (dCons (dVar 13) dNil)) (dVar 10)))))))))))))))))))))))))
def mh_law_same : DSM :=
  (dSeq (dIfS (dOr (dTru (dIsi .tuple (dVar 1))) (dTru (dIsi .list (dVar 1))))
  (dSeq (dIfS (dOr (dB (dOp mNe (dIsi .tuple (dVar 1)) (dIsi .tuple (dVar 0)))) (dB (dOp mNe (dIsi .list (dVar 1)) (dIsi .list (dVar 0)))))
  (dRet (dC (.bl false)))
  dNext)
  (dSeq (dIfS (dB (dOp mNe (dCB mLen (dCons (dVar 0) dNil)) (dCB mLen (dCons (dVar 1) dNil))))
  (dRet (dC (.bl false)))
  dNext)
  (dSeq dNever
  (dRet (dC (.bl true))))))
  dNext)
  (dSeq (dIfS (dOr (dB (dOp mIs (dVar 1) (dC .non))) (dTru (dIsi .bool (dVar 1))))
  (dRet (dAndV (dOp mEq (dOp mIs (dVar 0) (dC .non)) (dOp mIs (dVar 1) (dC .non))) (dAndV (dOrV (dOp mIs (dVar 1) (dC .non)) (dIsi .bool (dVar 0))) (dOp mEq (dVar 0) (dVar 1)))))
  dNext)
  (dSeq (dIfS (dTru (dIsi .int (dVar 1)))
  (dRet (dAndV (dIsi .int (dVar 0)) (dAndV (dNotV (dIsi .bool (dVar 0))) (dOp mEq (dVar 0) (dVar 1)))))
  dNext)
  (dRet (dAndV (dIsi .str (dVar 0)) (dOp mEq (dVar 0) (dVar 1)))))))
structure Tx (K : PySem.W.Frag) (mg : Str → Option Value) (a : Ad) : Prop where
  n_ValueError : mg "ValueError" = none
  n_bool : mg "bool" = none
  n_int : mg "int" = none
  n_isinstance : mg "isinstance" = none
  n_len : mg "len" = none
  n_list : mg "list" = none
  n_min : mg "min" = none
  n_range : mg "range" = none
  n_reversed : mg "reversed" = none
  n_str : mg "str" = none
  n_sum : mg "sum" = none
  n_super : mg "super" = none
  n_tuple : mg "tuple" = none
  f_row_tree : FnAt K mg "row_tree" "row_tree" s_row_tree a.f_row_tree a.d_row_tree ["row"]
  f_people : FnAt K mg "people" "people" s_people a.f_people a.d_people ["tree"]
  f_nodes_of : FnAt K mg "nodes_of" "nodes_of" s_nodes_of a.f_nodes_of a.d_nodes_of ["tree"]
  f_filled : FnAt K mg "filled" "filled" s_filled a.f_filled a.d_filled ["context", "tree"]
  f_tree_of : FnAt K mg "tree_of" "tree_of" s_tree_of a.f_tree_of a.d_tree_of ["nodes"]
  f_tree_text : FnAt K mg "tree_text" "tree_text" s_tree_text a.f_tree_text a.d_tree_text ["tree"]
  f_law_built : FnAt K mg "_law_built" "_law_built" s_law_built a.f_law_built a.d_law_built ["words"]
  f_law_count : FnAt K mg "_law_count" "_law_count" s_law_count a.f_law_count a.d_law_count ["tree"]
  f_law_filled : FnAt K mg "_law_filled" "_law_filled" s_law_filled a.f_law_filled a.d_law_filled ["context", "tree"]
  f_law_same : FnAt K mg "_law_same" "_law_same" s_law_same a.f_law_same a.d_law_same ["actual", "due"]
  f_law_digit : FnAt K mg "_law_digit" "_law_digit" s_law_digit a.f_law_digit a.d_law_digit ["word", "most"]
  f_law_wrong : FnAt K mg "_law_wrong" "_law_wrong" s_law_wrong a.f_law_wrong a.d_law_wrong ["words"]
  f_law_long_words : FnAt K mg "_law_long_words" "_law_long_words" s_law_long_words a.f_law_long_words a.d_law_long_words ["pool"]
  f_law_draw : FnAt K mg "_law_draw" "_law_draw" s_law_draw a.f_law_draw a.d_law_draw ["pool", "size"]
  f_law_changed : FnAt K mg "_law_changed" "_law_changed" s_law_changed a.f_law_changed a.d_law_changed ["pool", "words"]
  f_law_pool : FnAt K mg "_law_pool" "_law_pool" s_law_pool a.f_law_pool a.d_law_pool ["script", "budget"]
  f_law_tree_words : FnAt K mg "_law_tree_words" "_law_tree_words" s_law_tree_words a.f_law_tree_words a.d_law_tree_words ["pool", "left", "hole"]
  f_Words_initdd : MeAt K a.Words "__init__" "Words.__init__" s_Words_initdd a.f_Words_initdd a.d_Words_initdd ["self", "text"]
  f_Words_ahead : MeAt K a.Words "ahead" "Words.ahead" s_Words_ahead a.f_Words_ahead a.d_Words_ahead ["self"]
  f_Words_take : MeAt K a.Words "take" "Words.take" s_Words_take a.f_Words_take a.d_Words_take ["self", "fitting"]
  f_Words_number : MeAt K a.Words "number" "Words.number" s_Words_number a.f_Words_number a.d_Words_number ["self", "low", "high"]
  f_Words_finish : MeAt K a.Words "finish" "Words.finish" s_Words_finish a.f_Words_finish a.d_Words_finish ["self"]
  f_read_node : FnAt K mg "read_node" "read_node" s_read_node a.f_read_node a.d_read_node ["words", "may_be_hole", "room"]
  f_read_tree : FnAt K mg "read_tree" "read_tree" s_read_tree a.f_read_tree a.d_read_tree ["text"]
  f_law : FnAt K mg "law" "law" s_law a.f_law a.d_law ["script"]
  c_HOLE_NODE : mg "HOLE_NODE" = some (.ref a.k_HOLE_NODE)
  r_HOLE_NODE : ∀ S, Rep K S (.ref a.k_HOLE_NODE) (.tup [.non, (.int 0)])
  c_HIGHEST_DIGIT : mg "HIGHEST_DIGIT" = some (.int 9 a.t_HIGHEST_DIGIT)
  c_MOST_CHILDREN : mg "MOST_CHILDREN" = some (.int 2 a.t_MOST_CHILDREN)
  c_MOST_PEOPLE : mg "MOST_PEOPLE" = some (.int 200 a.t_MOST_PEOPLE)
  cl_Words : Cls K a.Words
  no_Words_at : NoAttr K a.Words "at"
  no_Words_words : NoAttr K a.Words "words"
  mk_Words : Mk K a.Words a.f_Words_initdd
  gC_Words : mg "Words" = some (.ref a.Words)
  gX_BadText : mg "BadText" = some (.ref a.x_BadText)
  gX_BadMachine : mg "BadMachine" = some (.ref a.x_BadMachine)
  gX_BadPaper : mg "BadPaper" = some (.ref a.x_BadPaper)
  gX_BadRule : mg "BadRule" = some (.ref a.x_BadRule)
  gX_TooLarge : mg "TooLarge" = some (.ref a.x_TooLarge)
  gE_ObjectError : mg "ObjectError" = some (.ref a.e_ObjectError)
  exo_BadText_ObjectError : PySem.W.exmOne K (.ref a.x_BadText) (.ref a.e_ObjectError) = some true
  ec_BadText : ExcC K a.x_BadText
  kitT_BadText : PySem.W.kitAny K (.ref a.x_BadText) [.ref a.x_BadMachine, .ref a.x_BadPaper, .ref a.x_BadRule, .ref a.x_TooLarge] = some false
  kit_BadText_ValueError : PySem.W.kitOne K (.ref a.x_BadText) (.type "ValueError") = some true
  kit_BadText_BadText : PySem.W.kitOne K (.ref a.x_BadText) (.ref a.x_BadText) = some true
  x_BadText : EX.ErrTxt PySem.Challenge.pw_someobjects_k02_whole_texts_of_trees K a.x_BadText a.i_BadText "at" "the text does not go on like this at word "
section
variable {P : Program} {w : World} {K : PySem.W.Frag} {mg : Str → Option Value} {base : Heap} {a : Ad}
theorem b_row_tree (T : Tx K mg a) {k : Nat} : FnOk P w K mg base CX0 (k + 1) a.f_row_tree a.d_row_tree ["row"] (spF K 1 (bodyF 3 (m_row_tree))) := by
  exact fn_d T.f_row_tree.fn sc_row_tree fun cdv A outer s H E hr => ⟨_, (dss_cons (ds_set (i := 1) sc_row_tree.nd rfl (Or.inl rfl) (de_tup da_nil))
  (dss_cons (ds_for PassesOwn.never rfl (di_over (de_var 0 (pv 0))) (dg_name (i := 2) sc_row_tree.nd rfl (Or.inl rfl))
  (dss_one (ds_set (i := 1) sc_row_tree.nd rfl (Or.inl rfl) (de_tup (da_cons (de_keep (de_tup (da_cons (de_keep (de_var 2 (pv 2))) (da_cons (de_keep (de_var 1 (pv 1))) da_nil)))) da_nil)))))
  (dss_one (ds_ret (de_ix ix_seq opd_ix (de_var 1 (pv 1)) de_int (fun _ _ => rfl))))))⟩
theorem b_people (T : Tx K mg a) {k : Nat} {F_nodes_of : FM} (h_nodes_of : FnOk P w K mg base CX0 k a.f_nodes_of a.d_nodes_of ["tree"] (spF K 1 F_nodes_of)) : FnOk P w K mg base CX0 (k + 1) a.f_people a.d_people ["tree"] (spF K 1 (bodyF 1 (m_people F_nodes_of))) := by
  exact fn_d T.f_people.fn sc_people fun cdv A outer s H E hr => ⟨_, (dss_one (ds_ret (de_callB call_len cd_len (by rfl) T.n_len (by decide +kernel) (da_cons (de_call h_nodes_of hr (by rfl) T.f_nodes_of.g T.f_nodes_of.k T.f_nodes_of.b (da_cons (de_keep (de_var 0 (pv 0))) da_nil) rfl) da_nil))))⟩
theorem b_filled (T : Tx K mg a) {k : Nat} {F_nodes_of : FM} (h_nodes_of : FnOk P w K mg base CX0 k a.f_nodes_of a.d_nodes_of ["tree"] (spF K 1 F_nodes_of)) {F_tree_of : FM} (h_tree_of : FnOk P w K mg base CX0 k a.f_tree_of a.d_tree_of ["nodes"] (spF K 1 F_tree_of)) : FnOk P w K mg base CX0 (k + 1) a.f_filled a.d_filled ["context", "tree"] (spF K 2 (bodyF 4 (m_filled F_nodes_of F_tree_of))) := by
  exact fn_d T.f_filled.fn sc_filled fun cdv A outer s H E hr => ⟨_, (dss_cons (ds_set (i := 2) sc_filled.nd rfl (Or.inl rfl) (de_lst da_nil))
  (dss_cons (ds_for PassesOwn.never rfl (di_over (de_call h_nodes_of hr (by rfl) T.f_nodes_of.g T.f_nodes_of.k T.f_nodes_of.b (da_cons (de_keep (de_var 0 (pv 0))) da_nil) rfl)) (dg_name (i := 3) sc_filled.nd rfl (Or.inl rfl))
  (dss_one (ds_if (dt_cmp (op_eqD hr.units) opd_eq (de_var 3 (pv 3)) (de_gref rfl T.c_HOLE_NODE T.r_HOLE_NODE) (nomark _))
  (dss_one (ds_extA (i := 2) (pv 2) (de_call h_nodes_of hr (by rfl) T.f_nodes_of.g T.f_nodes_of.k T.f_nodes_of.b (da_cons (de_keep (de_var 1 (pv 1))) da_nil) rfl)))
  (dss_one (ds_app (i := 2) (pv 2) (de_var 3 (pv 3)))))))
  (dss_one (ds_ret (de_call h_tree_of hr (by rfl) T.f_tree_of.g T.f_tree_of.k T.f_tree_of.b (da_cons (de_keep (de_var 2 (pv 2))) da_nil) rfl)))))⟩
theorem b_tree_text (T : Tx K mg a) {k : Nat} {F_nodes_of : FM} (h_nodes_of : FnOk P w K mg base CX0 k a.f_nodes_of a.d_nodes_of ["tree"] (spF K 1 F_nodes_of)) : FnOk P w K mg base CX0 (k + 1) a.f_tree_text a.d_tree_text ["tree"] (spF K 1 (bodyF 3 (m_tree_text F_nodes_of))) := by
  exact fn_d T.f_tree_text.fn sc_tree_text fun cdv A outer s H E hr => ⟨_, (dss_cons (ds_set (i := 1) sc_tree_text.nd rfl (Or.inl rfl) (de_lst da_nil))
  (dss_cons (ds_for PassesOwn.never rfl (di_over (de_call h_nodes_of hr (by rfl) T.f_nodes_of.g T.f_nodes_of.k T.f_nodes_of.b (da_cons (de_keep (de_var 0 (pv 0))) da_nil) rfl)) (dg_name (i := 2) sc_tree_text.nd rfl (Or.inl rfl))
  (dss_one (ds_if (dt_cmp (op_eqD hr.units) opd_eq (de_var 2 (pv 2)) (de_gref rfl T.c_HOLE_NODE T.r_HOLE_NODE) (nomark _))
  (dss_one (ds_app (i := 1) (pv 1) de_str))
  (dss_one (ds_extA (i := 1) (pv 1) (de_lst (da_cons (de_keep (de_callTy call_str_int cd_str (by rfl) T.n_str (by decide +kernel) (da_cons (de_ix ix_seq opd_ix (de_var 2 (pv 2)) de_int (fun _ _ => rfl)) da_nil))) (da_cons (de_keep (de_callTy call_str_int cd_str (by rfl) T.n_str (by decide +kernel) (da_cons (de_ix ix_seq opd_ix (de_var 2 (pv 2)) de_int (fun _ _ => rfl)) da_nil))) da_nil))))))))
  (dss_one (ds_ret (de_join de_str (de_var 1 (pv 1)))))))⟩
theorem b_nodes_of (T : Tx K mg a) {k : Nat} : FnOk P w K mg base CX0 (k + 1) a.f_nodes_of a.d_nodes_of ["tree"] (spF K 1 (bodyF 5 (m_nodes_of))) := by
  exact fn_d T.f_nodes_of.fn sc_nodes_of fun cdv A outer s H E hr => ⟨_, (dss_cons (ds_set (i := 1) sc_nodes_of.nd rfl (Or.inl rfl) (de_lst da_nil))
  (dss_cons (ds_set (i := 2) sc_nodes_of.nd rfl (Or.inl rfl) (de_lst (da_cons (de_keep (de_var 0 (pv 0))) da_nil)))
  (dss_cons (ds_while PassesOwn.never (dt_tru (de_var 2 (pv 2)))
  (dss_cons (ds_asgP (dp_popL (i := 2) (pv 2)) (dg_tup rfl (dgs_cons (dg_name (i := 3) sc_nodes_of.nd rfl (Or.inl rfl)) (dgs_cons (dg_name (i := 4) sc_nodes_of.nd rfl (Or.inl rfl)) dgs_nil))))
  (dss_cons (ds_app (i := 1) (pv 1) (de_tup (da_cons (de_keep (de_var 3 (pv 3))) (da_cons (de_keep (de_callB call_len cd_len (by rfl) T.n_len (by decide +kernel) (da_cons (de_var 4 (pv 4)) da_nil))) da_nil))))
  (dss_one (ds_extA (i := 2) (pv 2) (de_revA (de_var 4 (pv 4))))))))
  (dss_one (ds_ret (de_var 1 (pv 1)))))))⟩
theorem b_tree_of (T : Tx K mg a) {k : Nat} : FnOk P w K mg base CX0 (k + 1) a.f_tree_of a.d_tree_of ["nodes"] (spF K 1 (bodyF 6 (m_tree_of))) := by
  exact fn_d T.f_tree_of.fn sc_tree_of fun cdv A outer s H E hr => ⟨_, (dss_cons (ds_set (i := 1) sc_tree_of.nd rfl (Or.inl rfl) (de_lst da_nil))
  (dss_cons (ds_for PassesOwn.never rfl (di_rev rfl T.n_reversed (de_var 0 (pv 0))) (dg_tup rfl (dgs_cons (dg_name (i := 2) sc_tree_of.nd rfl (Or.inl rfl)) (dgs_cons (dg_name (i := 3) sc_tree_of.nd rfl (Or.inl rfl)) dgs_nil)))
  (dss_cons (ds_set (i := 4) sc_tree_of.nd rfl (Or.inl rfl) (de_lst da_nil))
  (dss_cons (ds_for PassesOwn.never rfl (di_rng1 rfl T.n_range (de_var 3 (pv 3))) (dg_name (i := 5) sc_tree_of.nd rfl (Or.inl rfl))
  (dss_one (ds_appP (j := 4) (pv 4) (dp_popL (i := 1) (pv 1)))))
  (dss_one (ds_app (i := 1) (pv 1) (de_tup (da_cons (de_keep (de_var 2 (pv 2))) (da_cons (de_keep (de_callTy call_tuple_of cd_tuple (by rfl) T.n_tuple (by decide +kernel) (da_cons (de_var 4 (pv 4)) da_nil))) da_nil))))))))
  (dss_one (ds_retP (dp_popL (i := 1) (pv 1))))))⟩
theorem b_law_built (T : Tx K mg a) {k : Nat} {F_law_built : FM} (h_law_built : FnOk P w K mg base CX0 k a.f_law_built a.d_law_built ["words"] (spF K 1 F_law_built)) : FnOk P w K mg base CX0 (k + 1) a.f_law_built a.d_law_built ["words"] (spF K 1 (bodyF 7 (m_law_built F_law_built))) := by
  exact fn_d T.f_law_built.fn sc_law_built fun cdv A outer s H E hr => ⟨_, (dss_cons (ds_set (i := 1) sc_law_built.nd rfl (Or.inl rfl) (de_callTy call_list_of cd_list (by rfl) T.n_list (by decide +kernel) (da_cons (de_var 0 (pv 0)) da_nil)))
  (dss_cons (ds_setP (i := 2) (dp_popF (i := 1) (pv 1) pe_int) sc_law_built.nd rfl (Or.inl rfl))
  (dss_cons (ds_if (dt_cmp (op_eqD hr.units) opd_eq (de_var 2 (pv 2)) de_str (nomark _))
  (dss_one (ds_ret (de_tup (da_cons (de_keep (de_tup (da_cons (de_keep de_non) (da_cons (de_keep (de_tup da_nil)) da_nil)))) (da_cons (de_keep (de_var 1 (pv 1))) da_nil)))))
  dss_nil)
  (dss_cons (ds_setP (i := 3) (dp_int (dp_popF (i := 1) (pv 1) pe_int) rfl T.n_int (by decide +kernel)) sc_law_built.nd rfl (Or.inl rfl))
  (dss_cons (ds_set (i := 4) sc_law_built.nd rfl (Or.inl rfl) (de_lst da_nil))
  (dss_cons (ds_for PassesOwn.never rfl (di_rng1 rfl T.n_range (de_var 3 (pv 3))) (dg_name (i := 5) sc_law_built.nd rfl (Or.inl rfl))
  (dss_cons (ds_asg (de_call h_law_built hr (by rfl) T.f_law_built.g T.f_law_built.k T.f_law_built.b (da_cons (de_keep (de_var 1 (pv 1))) da_nil) rfl) (dg_tup rfl (dgs_cons (dg_name (i := 6) sc_law_built.nd rfl (Or.inl rfl)) (dgs_cons (dg_name (i := 1) sc_law_built.nd rfl (Or.inl rfl)) dgs_nil))))
  (dss_one (ds_app (i := 4) (pv 4) (de_var 6 (pv 6))))))
  (dss_one (ds_ret (de_tup (da_cons (de_keep (de_tup (da_cons (de_keep (de_callTy call_intA cd_int (by rfl) T.n_int (by decide +kernel) (da_cons (de_var 2 (pv 2)) da_nil))) (da_cons (de_keep (de_callTy call_tuple_of cd_tuple (by rfl) T.n_tuple (by decide +kernel) (da_cons (de_var 4 (pv 4)) da_nil))) da_nil)))) (da_cons (de_keep (de_var 1 (pv 1))) da_nil)))))))))))⟩
theorem b_law_count (T : Tx K mg a) {k : Nat} {F_law_count : FM} (h_law_count : FnOk P w K mg base CX0 k a.f_law_count a.d_law_count ["tree"] (spF K 1 F_law_count)) : FnOk P w K mg base CX0 (k + 1) a.f_law_count a.d_law_count ["tree"] (spF K 1 (bodyF 2 (m_law_count F_law_count))) := by
  exact fn_d T.f_law_count.fn sc_law_count fun cdv A outer s H E hr => ⟨_, (dss_one (ds_ret (de_op op_addA opd_add de_int (de_callB (cr_sum (by rfl)) cd_sum (by rfl) T.n_sum (by decide +kernel) (da_cons (de_lc [("child", 1)] rfl sc_law_count.nd (di_over (de_ix ix_seq opd_ix (de_var 0 (pv 0)) de_int (fun _ _ => rfl))) (blkOk_by (own := [("child", 1)]) (N := N_law_count) (sc := defScope s_law_count) (by decide +kernel)) (fun _ _ _ _ _ => (dg_name (i := 1) sc_law_count.nd rfl (Or.inl rfl))) (fun _ _ _ _ _ => dts_nil) (fun _ _ _ _ _ => (de_call h_law_count hr (by rfl) T.f_law_count.g T.f_law_count.k T.f_law_count.b (da_cons (de_keep (de_var 1 (pv 1))) da_nil) rfl)) (tgin_name (by decide)) (gin_name (by decide))) da_nil)))))⟩
theorem b_law_filled (T : Tx K mg a) {k : Nat} {F_law_filled : FM} (h_law_filled : FnOk P w K mg base CX0 k a.f_law_filled a.d_law_filled ["context", "tree"] (spF K 2 F_law_filled)) : FnOk P w K mg base CX0 (k + 1) a.f_law_filled a.d_law_filled ["context", "tree"] (spF K 2 (bodyF 3 (m_law_filled F_law_filled))) := by
  exact fn_d T.f_law_filled.fn sc_law_filled fun cdv A outer s H E hr => ⟨_, (dss_cons (ds_if (dt_cmp op_isN opd_is (de_ix ix_seq opd_ix (de_var 0 (pv 0)) de_int (fun _ _ => rfl)) de_non (nomark _))
  (dss_one (ds_ret (de_var 1 (pv 1))))
  dss_nil)
  (dss_one (ds_ret (de_tup (da_cons (de_keep (de_ix ix_seq opd_ix (de_var 0 (pv 0)) de_int (fun _ _ => rfl))) (da_cons (de_keep (de_callTy call_tuple_of cd_tuple (by rfl) T.n_tuple (by decide +kernel) (da_cons (de_lc [("child", 2)] rfl sc_law_filled.nd (di_over (de_ix ix_seq opd_ix (de_var 0 (pv 0)) de_int (fun _ _ => rfl))) (blkOk_by (own := [("child", 2)]) (N := N_law_filled) (sc := defScope s_law_filled) (by decide +kernel)) (fun _ _ _ _ _ => (dg_name (i := 2) sc_law_filled.nd rfl (Or.inl rfl))) (fun _ _ _ _ _ => dts_nil) (fun _ _ _ _ _ => (de_call h_law_filled hr (by rfl) T.f_law_filled.g T.f_law_filled.k T.f_law_filled.b (da_cons (de_keep (de_var 2 (pv 2))) (da_cons (de_keep (de_var 1 (pv 1))) da_nil)) rfl)) (tgin_name (by decide)) (gin_name (by decide))) da_nil))) da_nil))))))⟩
theorem b_law_same (T : Tx K mg a) {k : Nat} {F_law_same : FM} (h_law_same : FnOk P w K mg base CX0 k a.f_law_same a.d_law_same ["actual", "due"] (spF K 2 F_law_same)) : FnOk P w K mg base CX0 (k + 1) a.f_law_same a.d_law_same ["actual", "due"] (spF K 2 (bodyF 3 (m_law_same F_law_same))) := by
  exact fn_d T.f_law_same.fn sc_law_same fun cdv A outer s H E hr => ⟨_, (dss_cons (ds_if (DW.dt (dw_or (dt_tru (de_isi rfl T.n_isinstance (by decide +kernel) rfl T.n_tuple (by decide +kernel) (de_var 1 (pv 1)))) (dw_or1 (dt_tru (de_isi rfl T.n_isinstance (by decide +kernel) rfl T.n_list (by decide +kernel) (de_var 1 (pv 1)))))))
  (dss_cons (ds_if (DW.dt (dw_or (dt_cmp (op_neD hr.units) opd_ne (de_isi rfl T.n_isinstance (by decide +kernel) rfl T.n_tuple (by decide +kernel) (de_var 1 (pv 1))) (de_isi rfl T.n_isinstance (by decide +kernel) rfl T.n_tuple (by decide +kernel) (de_var 0 (pv 0))) (nomark _)) (dw_or1 (dt_cmp (op_neD hr.units) opd_ne (de_isi rfl T.n_isinstance (by decide +kernel) rfl T.n_list (by decide +kernel) (de_var 1 (pv 1))) (de_isi rfl T.n_isinstance (by decide +kernel) rfl T.n_list (by decide +kernel) (de_var 0 (pv 0))) (nomark _)))))
  (dss_one (ds_ret de_bl))
  dss_nil)
  (dss_cons (ds_if (dt_cmp (op_neD hr.units) opd_ne (de_callB call_len cd_len (by rfl) T.n_len (by decide +kernel) (da_cons (de_var 0 (pv 0)) da_nil)) (de_callB call_len cd_len (by rfl) T.n_len (by decide +kernel) (da_cons (de_var 1 (pv 1)) da_nil)) (nomark _))
  (dss_one (ds_ret de_bl))
  dss_nil)
  (dss_cons (ds_for PassesOwn.never rfl (di_rng1 rfl T.n_range (de_callB call_len cd_len (by rfl) T.n_len (by decide +kernel) (da_cons (de_var 1 (pv 1)) da_nil))) (dg_name (i := 2) sc_law_same.nd rfl (Or.inl rfl))
  (dss_one (ds_if (dt_not (dt_tru (de_call h_law_same hr (by rfl) T.f_law_same.g T.f_law_same.k T.f_law_same.b (da_cons (de_keep (de_ix ix_seq opd_ix (de_var 0 (pv 0)) (de_var 2 (pv 2)) (fun _ _ => rfl))) (da_cons (de_keep (de_ix ix_seq opd_ix (de_var 1 (pv 1)) (de_var 2 (pv 2)) (fun _ _ => rfl))) da_nil)) rfl)))
  (dss_one (ds_ret de_bl))
  dss_nil)))
  (dss_one (ds_ret de_bl)))))
  dss_nil)
  (dss_cons (ds_if (DW.dt (dw_or (dt_cmp op_isN opd_is (de_var 1 (pv 1)) de_non (nomark _)) (dw_or1 (dt_tru (de_isi rfl T.n_isinstance (by decide +kernel) rfl T.n_bool (by decide +kernel) (de_var 1 (pv 1)))))))
  (dss_one (ds_ret (de_and (de_cmp (op_eqD hr.units) opd_eq (de_cmp op_isN opd_is (de_var 0 (pv 0)) de_non (nomark _)) (de_cmp op_isN opd_is (de_var 1 (pv 1)) de_non (nomark _)) (nomark _)) (de_and (de_or (de_cmp op_isN opd_is (de_var 1 (pv 1)) de_non (nomark _)) (de_one (de_isi rfl T.n_isinstance (by decide +kernel) rfl T.n_bool (by decide +kernel) (de_var 0 (pv 0))))) (de_one (de_cmp (op_eqD hr.units) opd_eq (de_var 0 (pv 0)) (de_var 1 (pv 1)) (nomark _)))))))
  dss_nil)
  (dss_cons (ds_if (dt_tru (de_isi rfl T.n_isinstance (by decide +kernel) rfl T.n_int (by decide +kernel) (de_var 1 (pv 1))))
  (dss_one (ds_ret (de_and (de_isi rfl T.n_isinstance (by decide +kernel) rfl T.n_int (by decide +kernel) (de_var 0 (pv 0))) (de_and (de_not (de_isi rfl T.n_isinstance (by decide +kernel) rfl T.n_bool (by decide +kernel) (de_var 0 (pv 0)))) (de_one (de_cmp (op_eqD hr.units) opd_eq (de_var 0 (pv 0)) (de_var 1 (pv 1)) (nomark _)))))))
  dss_nil)
  (dss_one (ds_ret (de_and (de_isi rfl T.n_isinstance (by decide +kernel) rfl T.n_str (by decide +kernel) (de_var 0 (pv 0))) (de_one (de_cmp (op_eqD hr.units) opd_eq (de_var 0 (pv 0)) (de_var 1 (pv 1)) (nomark _)))))))))⟩
theorem b_law_digit (T : Tx K mg a) {k : Nat} : FnOk P w K mg base CX0 (k + 1) a.f_law_digit a.d_law_digit ["word", "most"] (spF K 2 (bodyF 2 (m_law_digit))) := by
  exact fn_d T.f_law_digit.fn sc_law_digit fun cdv A outer s H E hr => ⟨_, (dss_one (ds_ret (de_and (de_cmp (op_eqD hr.units) opd_eq (de_callB call_len cd_len (by rfl) T.n_len (by decide +kernel) (da_cons (de_var 0 (pv 0)) da_nil)) de_int (nomark _)) (de_and (de_chain op_leA opd_S op_leA opd_S de_str (de_var 0 (pv 0)) de_str) (de_one (de_cmp op_leA opd_S (de_callTy call_intA cd_int (by rfl) T.n_int (by decide +kernel) (da_cons (de_var 0 (pv 0)) da_nil)) (de_var 1 (pv 1)) (nomark _)))))))⟩
theorem b_law_wrong (T : Tx K mg a) {k : Nat} {F_law_digit : FM} (h_law_digit : FnOk P w K mg base CX0 k a.f_law_digit a.d_law_digit ["word", "most"] (spF K 2 F_law_digit)) : FnOk P w K mg base CX0 (k + 1) a.f_law_wrong a.d_law_wrong ["words"] (spF K 1 (bodyF 6 (m_law_wrong F_law_digit))) := by
  exact fn_d T.f_law_wrong.fn sc_law_wrong fun cdv A outer s H E hr => ⟨_, (dss_cons (ds_set (i := 1) sc_law_wrong.nd rfl (Or.inl rfl) de_int)
  (dss_cons (ds_set (i := 2) sc_law_wrong.nd rfl (Or.inl rfl) de_int)
  (dss_cons (ds_set (i := 3) sc_law_wrong.nd rfl (Or.inl rfl) de_int)
  (dss_cons (ds_set (i := 4) sc_law_wrong.nd rfl (Or.inl rfl) de_bl)
  (dss_cons (ds_for PassesOwn.never rfl (di_rng1 rfl T.n_range (de_callB call_len cd_len (by rfl) T.n_len (by decide +kernel) (da_cons (de_var 0 (pv 0)) da_nil))) (dg_name (i := 5) sc_law_wrong.nd rfl (Or.inl rfl))
  (dss_cons (ds_if (DW.dt (dw_and (dt_cmp (op_eqD hr.units) opd_eq (de_var 1 (pv 1)) de_int (nomark _)) (dw_and1 (dt_not (dt_tru (de_var 4 (pv 4)))))))
  (dss_one (ds_ret (de_var 5 (pv 5))))
  dss_nil)
  (dss_one (ds_if (dt_tru (de_var 4 (pv 4)))
  (dss_cons (ds_if (dt_not (dt_tru (de_call h_law_digit hr (by rfl) T.f_law_digit.g T.f_law_digit.k T.f_law_digit.b (da_cons (de_keep (de_ix ix_seq opd_ix (de_var 0 (pv 0)) (de_var 5 (pv 5)) (fun _ _ => rfl))) (da_cons (de_keep (de_callB (call_min2 (by rfl)) cd_min2 (by rfl) T.n_min (by decide +kernel) (da_cons de_int (da_cons (de_op op_sub opd_sub (de_op op_sub opd_sub de_int (de_var 2 (pv 2))) (de_var 1 (pv 1))) da_nil)))) da_nil)) rfl)))
  (dss_one (ds_ret (de_var 5 (pv 5))))
  dss_nil)
  (dss_cons (ds_set (i := 1) sc_law_wrong.nd rfl (Or.inl rfl) (de_op op_addA opd_add (de_var 1 (pv 1)) (de_callTy call_intA cd_int (by rfl) T.n_int (by decide +kernel) (da_cons (de_ix ix_seq opd_ix (de_var 0 (pv 0)) (de_var 5 (pv 5)) (fun _ _ => rfl)) da_nil))))
  (dss_one (ds_set (i := 4) sc_law_wrong.nd rfl (Or.inl rfl) de_bl))))
  (dss_one (ds_if (DW.dt (dw_and (dt_cmp (op_eqD hr.units) opd_eq (de_ix ix_seq opd_ix (de_var 0 (pv 0)) (de_var 5 (pv 5)) (fun _ _ => rfl)) de_str (nomark _)) (dw_and1 (dt_cmp (op_eqD hr.units) opd_eq (de_var 3 (pv 3)) de_int (nomark _)))))
  (dss_cons (ds_set (i := 3) sc_law_wrong.nd rfl (Or.inl rfl) de_int)
  (dss_cons (ds_set (i := 2) sc_law_wrong.nd rfl (Or.inl rfl) (de_op op_addA opd_add (de_var 2 (pv 2)) de_int))
  (dss_one (ds_set (i := 1) sc_law_wrong.nd rfl (Or.inl rfl) (de_op op_sub opd_sub (de_var 1 (pv 1)) de_int)))))
  (dss_one (ds_if (dt_tru (de_call h_law_digit hr (by rfl) T.f_law_digit.g T.f_law_digit.k T.f_law_digit.b (da_cons (de_keep (de_ix ix_seq opd_ix (de_var 0 (pv 0)) (de_var 5 (pv 5)) (fun _ _ => rfl))) (da_cons (de_keep de_int) da_nil)) rfl))
  (dss_cons (ds_set (i := 4) sc_law_wrong.nd rfl (Or.inl rfl) de_bl)
  (dss_cons (ds_set (i := 2) sc_law_wrong.nd rfl (Or.inl rfl) (de_op op_addA opd_add (de_var 2 (pv 2)) de_int))
  (dss_one (ds_set (i := 1) sc_law_wrong.nd rfl (Or.inl rfl) (de_op op_sub opd_sub (de_var 1 (pv 1)) de_int)))))
  (dss_one (ds_ret (de_var 5 (pv 5))))))))))))
  (dss_cons (ds_if (DW.dt (dw_or (dt_cmp op_gtA opd_S (de_var 1 (pv 1)) de_int (nomark _)) (dw_or1 (dt_tru (de_var 4 (pv 4))))))
  (dss_one (ds_ret (de_callB call_len cd_len (by rfl) T.n_len (by decide +kernel) (da_cons (de_var 0 (pv 0)) da_nil))))
  dss_nil)
  (dss_one (ds_ret de_non))))))))⟩
theorem b_law_long_words (T : Tx K mg a) {k : Nat} {F_law_draw : FM} (h_law_draw : FnOk P w K mg base CX0 k a.f_law_draw a.d_law_draw ["pool", "size"] (spF K 2 F_law_draw)) : FnOk P w K mg base CX0 (k + 1) a.f_law_long_words a.d_law_long_words ["pool"] (spF K 1 (bodyF 4 (m_law_long_words F_law_draw))) := by
  exact fn_d T.f_law_long_words.fn sc_law_long_words fun cdv A outer s H E hr => ⟨_, (dss_cons (ds_set (i := 1) sc_law_long_words.nd rfl (Or.inl rfl) (de_op op_addA opd_add de_int (de_call h_law_draw hr (by rfl) T.f_law_draw.g T.f_law_draw.k T.f_law_draw.b (da_cons (de_keep (de_var 0 (pv 0))) (da_cons (de_keep de_int) da_nil)) rfl)))
  (dss_cons (ds_set (i := 2) sc_law_long_words.nd rfl (Or.inl rfl) (de_lst da_nil))
  (dss_cons (ds_for PassesOwn.never rfl (di_rng1 rfl T.n_range (de_op op_sub opd_sub (de_var 1 (pv 1)) de_int)) (dg_name (i := 3) sc_law_long_words.nd rfl (Or.inl rfl))
  (dss_one (ds_set (i := 2) sc_law_long_words.nd rfl (Or.inl rfl) (de_op op_addA opd_add (de_var 2 (pv 2)) (de_lst (da_cons (de_keep (de_callTy call_str_int cd_str (by rfl) T.n_str (by decide +kernel) (da_cons (de_call h_law_draw hr (by rfl) T.f_law_draw.g T.f_law_draw.k T.f_law_draw.b (da_cons (de_keep (de_var 0 (pv 0))) (da_cons (de_keep de_int) da_nil)) rfl) da_nil))) (da_cons (de_keep de_str) da_nil)))))))
  (dss_cons (ds_if (DW.dt (dw_and (dt_cmp (op_eqD hr.units) opd_eq (de_call h_law_draw hr (by rfl) T.f_law_draw.g T.f_law_draw.k T.f_law_draw.b (da_cons (de_keep (de_var 0 (pv 0))) (da_cons (de_keep de_int) da_nil)) rfl) de_int (nomark _)) (dw_and1 (dt_cmp op_gtA opd_S (de_var 1 (pv 1)) de_int (nomark _)))))
  (dss_cons (ds_set (i := 2) sc_law_long_words.nd rfl (Or.inl rfl) (de_op op_addA opd_add (de_slice (de_var 2 (pv 2)) do_none (do_some (de_op op_mul opd_mul de_int (de_call h_law_draw hr (by rfl) T.f_law_draw.g T.f_law_draw.k T.f_law_draw.b (da_cons (de_keep (de_var 0 (pv 0))) (da_cons (de_keep (de_op op_sub opd_sub (de_var 1 (pv 1)) de_int)) da_nil)) rfl)))) (de_lst (da_cons (de_keep de_str) (da_cons (de_keep de_str) (da_cons (de_keep de_str) (da_cons (de_keep de_str) da_nil)))))))
  (dss_one (ds_set (i := 2) sc_law_long_words.nd rfl (Or.inl rfl) (de_op op_addA opd_add (de_var 2 (pv 2)) (de_op op_rep opd_rep (de_lst (da_cons (de_keep de_str) (da_cons (de_keep de_str) da_nil))) (de_op op_sub opd_sub (de_op op_sub opd_sub (de_var 1 (pv 1)) (de_op op_fdivW opd_div (de_callB call_len cd_len (by rfl) T.n_len (by decide +kernel) (da_cons (de_var 2 (pv 2)) da_nil)) de_int)) de_int))))))
  dss_nil)
  (dss_one (ds_ret (de_op op_addA opd_add (de_var 2 (pv 2)) (de_lst (da_cons (de_keep de_str) (da_cons (de_keep de_str) da_nil))))))))))⟩
theorem b_law_changed (T : Tx K mg a) {k : Nat} {F_law_draw : FM} (h_law_draw : FnOk P w K mg base CX0 k a.f_law_draw a.d_law_draw ["pool", "size"] (spF K 2 F_law_draw)) : FnOk P w K mg base CX0 (k + 1) a.f_law_changed a.d_law_changed ["pool", "words"] (spF K 2 (bodyF 10 (m_law_changed F_law_draw))) := by
  exact fn_d T.f_law_changed.fn sc_law_changed fun cdv A outer s H E hr => ⟨_, (dss_cons (ds_set (i := 2) sc_law_changed.nd rfl (Or.inl rfl) (de_lst (da_cons (de_keep de_str) (da_cons (de_keep de_str) (da_cons (de_keep de_str) (da_cons (de_keep de_str) (da_cons (de_keep de_str) (da_cons (de_keep de_str) (da_cons (de_keep de_str) (da_cons (de_keep de_str) (da_cons (de_keep de_str) (da_cons (de_keep de_str) (da_cons (de_keep de_str) (da_cons (de_keep de_str) (da_cons (de_keep de_str) (da_cons (de_keep de_str) da_nil))))))))))))))))
  (dss_cons (ds_for PassesOwn.never rfl (di_rng1 rfl T.n_range (de_call h_law_draw hr (by rfl) T.f_law_draw.g T.f_law_draw.k T.f_law_draw.b (da_cons (de_keep (de_var 0 (pv 0))) (da_cons (de_keep de_int) da_nil)) rfl)) (dg_name (i := 3) sc_law_changed.nd rfl (Or.inl rfl))
  (dss_cons (ds_set (i := 4) sc_law_changed.nd rfl (Or.inl rfl) (de_call h_law_draw hr (by rfl) T.f_law_draw.g T.f_law_draw.k T.f_law_draw.b (da_cons (de_keep (de_var 0 (pv 0))) (da_cons (de_keep (de_op op_addA opd_add (de_callB call_len cd_len (by rfl) T.n_len (by decide +kernel) (da_cons (de_var 1 (pv 1)) da_nil)) de_int)) da_nil)) rfl))
  (dss_cons (ds_set (i := 5) sc_law_changed.nd rfl (Or.inl rfl) (de_call h_law_draw hr (by rfl) T.f_law_draw.g T.f_law_draw.k T.f_law_draw.b (da_cons (de_keep (de_var 0 (pv 0))) (da_cons (de_keep de_int) da_nil)) rfl))
  (dss_cons (ds_set (i := 6) sc_law_changed.nd rfl (Or.inl rfl) (de_ix ix_seq opd_ix (de_var 2 (pv 2)) (de_call h_law_draw hr (by rfl) T.f_law_draw.g T.f_law_draw.k T.f_law_draw.b (da_cons (de_keep (de_var 0 (pv 0))) (da_cons (de_keep (de_callB call_len cd_len (by rfl) T.n_len (by decide +kernel) (da_cons (de_var 2 (pv 2)) da_nil))) da_nil)) rfl) (fun _ _ => rfl)))
  (dss_one (ds_if (dt_cmp (op_eqD hr.units) opd_eq (de_var 5 (pv 5)) de_int (nomark _))
  (dss_one (ds_set (i := 1) sc_law_changed.nd rfl (Or.inl rfl) (de_op op_addA opd_add (de_slice (de_var 1 (pv 1)) do_none (do_some (de_var 4 (pv 4)))) (de_slice (de_var 1 (pv 1)) (do_some (de_op op_addA opd_add (de_var 4 (pv 4)) de_int)) do_none))))
  (dss_one (ds_if (dt_cmp (op_eqD hr.units) opd_eq (de_var 5 (pv 5)) de_int (nomark _))
  (dss_one (ds_set (i := 1) sc_law_changed.nd rfl (Or.inl rfl) (de_op op_addA opd_add (de_op op_addA opd_add (de_slice (de_var 1 (pv 1)) do_none (do_some (de_var 4 (pv 4)))) (de_lst (da_cons (de_keep (de_var 6 (pv 6))) da_nil))) (de_slice (de_var 1 (pv 1)) (do_some (de_var 4 (pv 4))) do_none))))
  (dss_one (ds_if (dt_cmp (op_eqD hr.units) opd_eq (de_var 5 (pv 5)) de_int (nomark _))
  (dss_one (ds_set (i := 1) sc_law_changed.nd rfl (Or.inl rfl) (de_op op_addA opd_add (de_op op_addA opd_add (de_slice (de_var 1 (pv 1)) do_none (do_some (de_var 4 (pv 4)))) (de_lst (da_cons (de_keep (de_var 6 (pv 6))) da_nil))) (de_slice (de_var 1 (pv 1)) (do_some (de_op op_addA opd_add (de_var 4 (pv 4)) de_int)) do_none))))
  (dss_cons (ds_set (i := 7) sc_law_changed.nd rfl (Or.inl rfl) (de_join de_str (de_slice (de_var 1 (pv 1)) (do_some (de_var 4 (pv 4))) (do_some (de_op op_addA opd_add (de_var 4 (pv 4)) de_int)))))
  (dss_cons (ds_set (i := 8) sc_law_changed.nd rfl (Or.inl rfl) (de_call h_law_draw hr (by rfl) T.f_law_draw.g T.f_law_draw.k T.f_law_draw.b (da_cons (de_keep (de_var 0 (pv 0))) (da_cons (de_keep (de_op op_addA opd_add (de_callB call_len cd_len (by rfl) T.n_len (by decide +kernel) (da_cons (de_var 7 (pv 7)) da_nil)) de_int)) da_nil)) rfl))
  (dss_cons (ds_set (i := 9) sc_law_changed.nd rfl (Or.inl rfl) de_str)
  (dss_cons (ds_set (i := 7) sc_law_changed.nd rfl (Or.inl rfl) (de_op op_addA opd_add (de_op op_addA opd_add (de_slice (de_var 7 (pv 7)) do_none (do_some (de_var 8 (pv 8)))) (de_ix ix_seq opd_ix (de_var 9 (pv 9)) (de_call h_law_draw hr (by rfl) T.f_law_draw.g T.f_law_draw.k T.f_law_draw.b (da_cons (de_keep (de_var 0 (pv 0))) (da_cons (de_keep (de_callB call_len cd_len (by rfl) T.n_len (by decide +kernel) (da_cons (de_var 9 (pv 9)) da_nil))) da_nil)) rfl) (fun _ _ => rfl))) (de_slice (de_var 7 (pv 7)) (do_some (de_op op_addA opd_add (de_var 8 (pv 8)) (de_call h_law_draw hr (by rfl) T.f_law_draw.g T.f_law_draw.k T.f_law_draw.b (da_cons (de_keep (de_var 0 (pv 0))) (da_cons (de_keep de_int) da_nil)) rfl))) do_none)))
  (dss_one (ds_set (i := 1) sc_law_changed.nd rfl (Or.inl rfl) (de_op op_addA opd_add (de_op op_addA opd_add (de_slice (de_var 1 (pv 1)) do_none (do_some (de_var 4 (pv 4)))) (de_lst (da_cons (de_keep (de_var 7 (pv 7))) da_nil))) (de_slice (de_var 1 (pv 1)) (do_some (de_op op_addA opd_add (de_var 4 (pv 4)) de_int)) do_none))))))))))))))))))
  (dss_one (ds_ret (de_var 1 (pv 1))))))⟩
theorem b_law_pool (T : Tx K mg a) {k : Nat} : FnOk P w K mg base CX0 (k + 1) a.f_law_pool a.d_law_pool ["script", "budget"] (spF K 2 (bodyF 2 (m_law_pool))) := by
  exact fn_d T.f_law_pool.fn sc_law_pool fun cdv A outer s H E hr => ⟨_, (dss_one (ds_ret (de_lst (da_cons (de_keep (de_callTy call_list_of cd_list (by rfl) T.n_list (by decide +kernel) (da_cons (de_var 0 (pv 0)) da_nil))) (da_cons (de_keep de_int) (da_cons (de_keep de_int) (da_cons (de_keep de_int) (da_cons (de_keep de_int) (da_cons (de_keep (de_var 1 (pv 1))) da_nil)))))))))⟩
theorem b_law_tree_words (T : Tx K mg a) {k : Nat} {F_law_draw : FM} (h_law_draw : FnOk P w K mg base CX0 k a.f_law_draw a.d_law_draw ["pool", "size"] (spF K 2 F_law_draw)) {F_law_tree_words : FMJ} (h_law_tree_words : FnOk P w K mg base CX0 k a.f_law_tree_words a.d_law_tree_words ["pool", "left", "hole"] (spJ K 3 F_law_tree_words)) : FnOk P w K mg base CX0 (k + 1) a.f_law_tree_words a.d_law_tree_words ["pool", "left", "hole"] (spJ K 3 (bodyJ 8 (m_law_tree_words F_law_draw F_law_tree_words))) := by
  exact fn_dJ T.f_law_tree_words.fn sc_law_tree_words fun cdv A outer s H E hr => ⟨_, (dss_cons (ds_if (DW.dt (dw_and (dt_cmp op_gtA opd_S (de_ixF (i := 2) (pv 2) de_int (fun _ _ => rfl)) de_int (nomark _)) (dw_and1 (dt_cmp (op_eqD hr.units) opd_eq (de_call h_law_draw hr (by rfl) T.f_law_draw.g T.f_law_draw.k T.f_law_draw.b (da_cons (de_keep (de_var 0 (pv 0))) (da_cons (de_keep de_int) da_nil)) rfl) de_int (nomark _)))))
  (dss_cons (ds_putF (i := 2) (pv 2) de_int de_int)
  (dss_one (ds_ret (de_keep (de_lst (da_cons (de_keep de_str) da_nil))))))
  dss_nil)
  (dss_cons (ds_set (i := 3) sc_law_tree_words.nd rfl (Or.inl rfl) (de_lst (da_cons (de_keep (de_callTy call_str_int cd_str (by rfl) T.n_str (by decide +kernel) (da_cons (de_call h_law_draw hr (by rfl) T.f_law_draw.g T.f_law_draw.k T.f_law_draw.b (da_cons (de_keep (de_var 0 (pv 0))) (da_cons (de_keep de_int) da_nil)) rfl) da_nil))) da_nil)))
  (dss_cons (ds_set (i := 4) sc_law_tree_words.nd rfl (Or.inl rfl) (de_ix ix_seq opd_ix (de_tup (da_cons (de_keep de_int) (da_cons (de_keep de_int) (da_cons (de_keep de_int) (da_cons (de_keep de_int) (da_cons (de_keep de_int) da_nil)))))) (de_call h_law_draw hr (by rfl) T.f_law_draw.g T.f_law_draw.k T.f_law_draw.b (da_cons (de_keep (de_var 0 (pv 0))) (da_cons (de_keep de_int) da_nil)) rfl) (fun _ _ => rfl)))
  (dss_cons (ds_set (i := 5) sc_law_tree_words.nd rfl (Or.inl rfl) (de_lst da_nil))
  (dss_cons (ds_set (i := 6) sc_law_tree_words.nd rfl (Or.inl rfl) de_int)
  (dss_cons (ds_for PassesOwn.never rfl (di_rng1 rfl T.n_range (de_var 4 (pv 4))) (dg_name (i := 7) sc_law_tree_words.nd rfl (Or.inl rfl))
  (dss_one (ds_if (dt_cmp op_gtA opd_S (de_ixF (i := 1) (pv 1) de_int (fun _ _ => rfl)) de_int (nomark _))
  (dss_cons (ds_putF (i := 1) (pv 1) de_int (de_op op_sub opd_sub (de_ixF (i := 1) (pv 1) de_int (fun _ _ => rfl)) de_int))
  (dss_cons (ds_set (i := 6) sc_law_tree_words.nd rfl (Or.inl rfl) (de_op op_addA opd_add (de_var 6 (pv 6)) de_int))
  (dss_one (ds_setP (i := 5) (dp_opV (i := 5) op_addA opd_add (pv 5) (dp_callJ (i := 1) (j := 2) (by decide) h_law_tree_words hr (by rfl) T.f_law_tree_words.g T.f_law_tree_words.k T.f_law_tree_words.b (dfj_cons (de_keep (de_var 0 (pv 0))) (dfj_end (i := 1) (j := 2) (pv 1) (pv 2))) rfl)) sc_law_tree_words.nd rfl (Or.inl rfl)))))
  dss_nil)))
  (dss_one (ds_ret (de_keep (de_op op_addA opd_add (de_op op_addA opd_add (de_var 3 (pv 3)) (de_lst (da_cons (de_keep (de_callTy call_str_int cd_str (by rfl) T.n_str (by decide +kernel) (da_cons (de_var 6 (pv 6)) da_nil))) da_nil))) (de_var 5 (pv 5))))))))))))⟩
theorem b_Words_initdd (T : Tx K mg a) {k : Nat} : FnOk PySem.Challenge.pw_someobjects_k02_whole_texts_of_trees w K mg base (L2N.CX PySem.Challenge.pw_someobjects_k02_whole_texts_of_trees w) (k + 1) a.f_Words_initdd a.d_Words_initdd ["self", "text"] (spM K 2 (bodyM 2 (m_Words_initdd a))) := by
  exact fn_dM T.f_Words_initdd.fn sc_Words_initdd fun cdv A outer s H E hr => ⟨_, (dss_cons (ds_putA (i := 0) T.cl_Words T.no_Words_words (pv 0) (de_if (dt_tru (de_var 1 (pv 1))) (de_split (de_var 1 (pv 1)) de_str) (de_lst da_nil)))
  (dss_one (ds_putA (i := 0) T.cl_Words T.no_Words_at (pv 0) de_int)))⟩
theorem b_Words_ahead (T : Tx K mg a) {k : Nat} : FnOk PySem.Challenge.pw_someobjects_k02_whole_texts_of_trees w K mg base (L2N.CX PySem.Challenge.pw_someobjects_k02_whole_texts_of_trees w) (k + 1) a.f_Words_ahead a.d_Words_ahead ["self"] (spM K 1 (bodyM 1 (m_Words_ahead a))) := by
  exact fn_dM T.f_Words_ahead.fn sc_Words_ahead fun cdv A outer s H E hr => ⟨_, (dss_cons (ds_if (dt_cmp (op_eqD hr.units) opd_eq (de_fldF (i := 0) T.cl_Words T.no_Words_at (pv 0)) (de_callB call_len cd_len (by rfl) T.n_len (by decide +kernel) (da_cons (de_fldF (i := 0) T.cl_Words T.no_Words_words (pv 0)) da_nil)) (nomark _))
  (dss_one (ds_ret de_non))
  dss_nil)
  (dss_one (ds_ret (de_ix ix_seq opd_ix (de_fldF (i := 0) T.cl_Words T.no_Words_words (pv 0)) (de_fldF (i := 0) T.cl_Words T.no_Words_at (pv 0)) (fun _ _ => rfl)))))⟩
theorem b_Words_take (T : Tx K mg a) {k : Nat} {F_Words_ahead : FMM} (h_Words_ahead : FnOk PySem.Challenge.pw_someobjects_k02_whole_texts_of_trees w K mg base (L2N.CX PySem.Challenge.pw_someobjects_k02_whole_texts_of_trees w) k a.f_Words_ahead a.d_Words_ahead ["self"] (spM K 1 F_Words_ahead)) : FnOk PySem.Challenge.pw_someobjects_k02_whole_texts_of_trees w K mg base (L2N.CX PySem.Challenge.pw_someobjects_k02_whole_texts_of_trees w) (k + 1) a.f_Words_take a.d_Words_take ["self", "fitting"] (spM K 2 (bodyM 3 (m_Words_take a F_Words_ahead))) := by
  exact fn_dM T.f_Words_take.fn sc_Words_take fun cdv A outer s H E hr => ⟨_, (dss_cons (ds_set (i := 2) sc_Words_take.nd rfl (Or.inl rfl) (de_ask (i := 0) T.cl_Words T.f_Words_ahead.m h_Words_ahead hr T.f_Words_ahead.b (pv 0)))
  (dss_cons (ds_if (dt_cmp (op_notInA hr.units1) opd_notIn (de_var 2 (pv 2)) (de_var 1 (pv 1)) rfl)
  (dss_one (ds_raise rfl T.x_BadText (Nat.le_of_ble_eq_true rfl) (Or.inl rfl) T.n_super T.gX_BadText hr (de_fldF (i := 0) T.cl_Words T.no_Words_at (pv 0)) (by rfl)))
  dss_nil)
  (dss_cons (ds_augA (i := 0) (o := fun x y => x + y) T.cl_Words T.no_Words_at (pv 0) de_int in_add aug_add)
  (dss_one (ds_ret (de_var 2 (pv 2)))))))⟩
theorem b_Words_number (T : Tx K mg a) {k : Nat} {F_Words_take : FMM} (h_Words_take : FnOk PySem.Challenge.pw_someobjects_k02_whole_texts_of_trees w K mg base (L2N.CX PySem.Challenge.pw_someobjects_k02_whole_texts_of_trees w) k a.f_Words_take a.d_Words_take ["self", "fitting"] (spM K 2 F_Words_take)) : FnOk PySem.Challenge.pw_someobjects_k02_whole_texts_of_trees w K mg base (L2N.CX PySem.Challenge.pw_someobjects_k02_whole_texts_of_trees w) (k + 1) a.f_Words_number a.d_Words_number ["self", "low", "high"] (spM K 3 (bodyM 4 (m_Words_number a F_Words_take))) := by
  exact fn_dM T.f_Words_number.fn sc_Words_number fun cdv A outer s H E hr => ⟨_, (dss_one (ds_retP (dp_int (dp_meth (i := 0) T.cl_Words T.f_Words_take.m h_Words_take hr T.f_Words_take.b (pv 0) (da_cons (de_keep (de_lc [("n", 3)] rfl sc_Words_number.nd (di_rng2 rfl T.n_range (de_var 1 (pv 1)) (de_op op_addA opd_add (de_var 2 (pv 2)) de_int)) (blkOk_by (own := [("n", 3)]) (N := N_Words_number) (sc := defScope s_Words_number) (by decide +kernel)) (fun _ _ _ _ _ => (dg_name (i := 3) sc_Words_number.nd rfl (Or.inl rfl))) (fun _ _ _ _ _ => dts_nil) (fun _ _ _ _ _ => (de_callTy call_str_int cd_str (by rfl) T.n_str (by decide +kernel) (da_cons (de_var 3 (pv 3)) da_nil))) (tgin_name (by decide)) (gin_name (by decide)))) da_nil) rfl) rfl T.n_int (by decide +kernel))))⟩
theorem b_Words_finish (T : Tx K mg a) {k : Nat} : FnOk PySem.Challenge.pw_someobjects_k02_whole_texts_of_trees w K mg base (L2N.CX PySem.Challenge.pw_someobjects_k02_whole_texts_of_trees w) (k + 1) a.f_Words_finish a.d_Words_finish ["self"] (spM K 1 (bodyM 1 (m_Words_finish a))) := by
  exact fn_dM T.f_Words_finish.fn sc_Words_finish fun cdv A outer s H E hr => ⟨_, (dss_one (ds_if (dt_cmp op_ltA opd_S (de_fldF (i := 0) T.cl_Words T.no_Words_at (pv 0)) (de_callB call_len cd_len (by rfl) T.n_len (by decide +kernel) (da_cons (de_fldF (i := 0) T.cl_Words T.no_Words_words (pv 0)) da_nil)) (nomark _))
  (dss_one (ds_raise rfl T.x_BadText (Nat.le_of_ble_eq_true rfl) (Or.inl rfl) T.n_super T.gX_BadText hr (de_fldF (i := 0) T.cl_Words T.no_Words_at (pv 0)) (by rfl)))
  dss_nil))⟩
theorem b_read_node (T : Tx K mg a) {k : Nat} {F_Words_ahead : FMM} (h_Words_ahead : FnOk PySem.Challenge.pw_someobjects_k02_whole_texts_of_trees w K mg base (L2N.CX PySem.Challenge.pw_someobjects_k02_whole_texts_of_trees w) k a.f_Words_ahead a.d_Words_ahead ["self"] (spM K 1 F_Words_ahead)) {F_Words_take : FMM} (h_Words_take : FnOk PySem.Challenge.pw_someobjects_k02_whole_texts_of_trees w K mg base (L2N.CX PySem.Challenge.pw_someobjects_k02_whole_texts_of_trees w) k a.f_Words_take a.d_Words_take ["self", "fitting"] (spM K 2 F_Words_take)) {F_Words_number : FMM} (h_Words_number : FnOk PySem.Challenge.pw_someobjects_k02_whole_texts_of_trees w K mg base (L2N.CX PySem.Challenge.pw_someobjects_k02_whole_texts_of_trees w) k a.f_Words_number a.d_Words_number ["self", "low", "high"] (spM K 3 F_Words_number)) : FnOk PySem.Challenge.pw_someobjects_k02_whole_texts_of_trees w K mg base (L2N.CX PySem.Challenge.pw_someobjects_k02_whole_texts_of_trees w) (k + 1) a.f_read_node a.d_read_node ["words", "may_be_hole", "room"] (spM K 3 (bodyM 4 (m_read_node a F_Words_ahead F_Words_take F_Words_number))) := by
  exact fn_dM T.f_read_node.fn sc_read_node fun cdv A outer s H E hr => ⟨_, (dss_cons (ds_if (DW.dt (dw_and (dt_tru (de_var 1 (pv 1))) (dw_and1 (dt_cmp (op_eqD hr.units) opd_eq (de_ask (i := 0) T.cl_Words T.f_Words_ahead.m h_Words_ahead hr T.f_Words_ahead.b (pv 0)) de_str (nomark _)))))
  (dss_cons (ds_exprP (dp_meth (i := 0) T.cl_Words T.f_Words_take.m h_Words_take hr T.f_Words_take.b (pv 0) (da_cons (de_keep (de_lst (da_cons (de_keep de_str) da_nil))) da_nil) rfl))
  (dss_one (ds_ret (de_gref rfl T.c_HOLE_NODE T.r_HOLE_NODE))))
  dss_nil)
  (dss_cons (ds_setP (i := 3) (dp_meth (i := 0) T.cl_Words T.f_Words_number.m h_Words_number hr T.f_Words_number.b (pv 0) (da_cons (de_keep de_int) (da_cons (de_keep (de_gint rfl T.c_HIGHEST_DIGIT)) da_nil)) rfl) sc_read_node.nd rfl (Or.inl rfl))
  (dss_one (ds_retP (dp_tup (dap_cons (de_var 3 (pv 3)) (dap_end (dp_meth (i := 0) T.cl_Words T.f_Words_number.m h_Words_number hr T.f_Words_number.b (pv 0) (da_cons (de_keep de_int) (da_cons (de_keep (de_callB (call_min2 (by rfl)) cd_min2 (by rfl) T.n_min (by decide +kernel) (da_cons (de_gint rfl T.c_MOST_CHILDREN) (da_cons (de_var 2 (pv 2)) da_nil)))) da_nil)) rfl))))))))⟩
theorem b_read_tree (T : Tx K mg a) {k : Nat} {F_tree_of : FM} (h_tree_of : FnOk PySem.Challenge.pw_someobjects_k02_whole_texts_of_trees w K mg base CX0 (k + 1) a.f_tree_of a.d_tree_of ["nodes"] (spF K 1 F_tree_of)) {F_read_node : FMM} (h_read_node : FnOk PySem.Challenge.pw_someobjects_k02_whole_texts_of_trees w K mg base (L2N.CX PySem.Challenge.pw_someobjects_k02_whole_texts_of_trees w) (k + 1) a.f_read_node a.d_read_node ["words", "may_be_hole", "room"] (spM K 3 F_read_node)) {F_Words_finish : FMM} (h_Words_finish : FnOk PySem.Challenge.pw_someobjects_k02_whole_texts_of_trees w K mg base (L2N.CX PySem.Challenge.pw_someobjects_k02_whole_texts_of_trees w) (k + 1) a.f_Words_finish a.d_Words_finish ["self"] (spM K 1 F_Words_finish)) {F_Words_initdd : FMM} (h_Words_initdd : FnOk PySem.Challenge.pw_someobjects_k02_whole_texts_of_trees w K mg base (L2N.CX PySem.Challenge.pw_someobjects_k02_whole_texts_of_trees w) k a.f_Words_initdd a.d_Words_initdd ["self", "text"] (spM K 2 F_Words_initdd)) : FnOk PySem.Challenge.pw_someobjects_k02_whole_texts_of_trees w K mg base (L2N.CX PySem.Challenge.pw_someobjects_k02_whole_texts_of_trees w) (k + 2) a.f_read_tree a.d_read_tree ["text"] (spE K 1 (bodyE 5 (m_read_tree a F_tree_of F_read_node F_Words_finish F_Words_initdd))) := by
  exact fn_dE T.f_read_tree.fn sc_read_tree fun cdv A outer s H E hr => ⟨_, (dss_cons (ds_setM (i := 1) T.mk_Words h_Words_initdd hr (by rfl) T.gC_Words T.f_Words_initdd.b (da_cons (de_keep (de_var 0 (pv 0))) da_nil) rfl sc_read_tree.nd rfl (Or.inl rfl))
  (dss_cons (ds_set (i := 2) sc_read_tree.nd rfl (Or.inl rfl) (de_lst da_nil))
  (dss_cons (ds_set (i := 3) sc_read_tree.nd rfl (Or.inl rfl) de_int)
  (dss_cons (ds_while (passes_of rfl) (dt_cmp op_ltA opd_S (de_callB call_len cd_len (by rfl) T.n_len (by decide +kernel) (da_cons (de_var 2 (pv 2)) da_nil)) (de_var 3 (pv 3)) (nomark _))
  (dss_cons (ds_setP (i := 4) (dp_callM0 (i := 1) h_read_node hr (by rfl) T.f_read_node.g T.f_read_node.k T.f_read_node.b (pv 1) (da_cons (de_keep (de_cmp (op_notInA hr.units1) opd_notIn (de_gref rfl T.c_HOLE_NODE T.r_HOLE_NODE) (de_var 2 (pv 2)) rfl)) (da_cons (de_keep (de_op op_sub opd_sub (de_gint rfl T.c_MOST_PEOPLE) (de_var 3 (pv 3)))) da_nil)) rfl) sc_read_tree.nd rfl (Or.inl rfl))
  (dss_cons (ds_app (i := 2) (pv 2) (de_var 4 (pv 4)))
  (dss_one (ds_aug (i := 3) sc_read_tree.nd rfl (Or.inl rfl) (de_ix ix_seq opd_ix (de_var 4 (pv 4)) de_int (fun _ _ => rfl)) iop_addI opd_addI)))))
  (dss_cons (ds_exprP (dp_meth0 (i := 1) T.cl_Words T.f_Words_finish.m h_Words_finish hr T.f_Words_finish.b (pv 1)))
  (dss_one (ds_ret (de_call h_tree_of hr (by rfl) T.f_tree_of.g T.f_tree_of.k T.f_tree_of.b (da_cons (de_keep (de_var 2 (pv 2))) da_nil) rfl))))))))⟩
theorem b_law (T : Tx K mg a) {k : Nat} {F_law_pool : FM} (h_law_pool : FnOk PySem.Challenge.pw_someobjects_k02_whole_texts_of_trees w K mg base CX0 k a.f_law_pool a.d_law_pool ["script", "budget"] (spF K 2 F_law_pool)) {F_law_draw : FM} (h_law_draw : FnOk PySem.Challenge.pw_someobjects_k02_whole_texts_of_trees w K mg base CX0 k a.f_law_draw a.d_law_draw ["pool", "size"] (spF K 2 F_law_draw)) {F_law_long_words : FM} (h_law_long_words : FnOk PySem.Challenge.pw_someobjects_k02_whole_texts_of_trees w K mg base CX0 k a.f_law_long_words a.d_law_long_words ["pool"] (spF K 1 F_law_long_words)) {F_law_changed : FM} (h_law_changed : FnOk PySem.Challenge.pw_someobjects_k02_whole_texts_of_trees w K mg base CX0 k a.f_law_changed a.d_law_changed ["pool", "words"] (spF K 2 F_law_changed)) {F_law_wrong : FM} (h_law_wrong : FnOk PySem.Challenge.pw_someobjects_k02_whole_texts_of_trees w K mg base CX0 k a.f_law_wrong a.d_law_wrong ["words"] (spF K 1 F_law_wrong)) {F_tree_text : FM} (h_tree_text : FnOk PySem.Challenge.pw_someobjects_k02_whole_texts_of_trees w K mg base CX0 k a.f_tree_text a.d_tree_text ["tree"] (spF K 1 F_tree_text)) {F_law_same : FM} (h_law_same : FnOk PySem.Challenge.pw_someobjects_k02_whole_texts_of_trees w K mg base CX0 k a.f_law_same a.d_law_same ["actual", "due"] (spF K 2 F_law_same)) {F_people : FM} (h_people : FnOk PySem.Challenge.pw_someobjects_k02_whole_texts_of_trees w K mg base CX0 k a.f_people a.d_people ["tree"] (spF K 1 F_people)) {F_law_built : FM} (h_law_built : FnOk PySem.Challenge.pw_someobjects_k02_whole_texts_of_trees w K mg base CX0 k a.f_law_built a.d_law_built ["words"] (spF K 1 F_law_built)) {F_law_filled : FM} (h_law_filled : FnOk PySem.Challenge.pw_someobjects_k02_whole_texts_of_trees w K mg base CX0 k a.f_law_filled a.d_law_filled ["context", "tree"] (spF K 2 F_law_filled)) {F_filled : FM} (h_filled : FnOk PySem.Challenge.pw_someobjects_k02_whole_texts_of_trees w K mg base CX0 k a.f_filled a.d_filled ["context", "tree"] (spF K 2 F_filled)) {F_law_count : FM} (h_law_count : FnOk PySem.Challenge.pw_someobjects_k02_whole_texts_of_trees w K mg base CX0 k a.f_law_count a.d_law_count ["tree"] (spF K 1 F_law_count)) {F_row_tree : FM} (h_row_tree : FnOk PySem.Challenge.pw_someobjects_k02_whole_texts_of_trees w K mg base CX0 k a.f_row_tree a.d_row_tree ["row"] (spF K 1 F_row_tree)) {FH_law_same : FM} (hh_law_same : L2H.FnH PySem.Challenge.pw_someobjects_k02_whole_texts_of_trees w K mg base CX0 k a.f_law_same a.d_law_same ["actual", "due"] (spF K 2 FH_law_same)) {F_law_tree_words : FMJ} (h_law_tree_words : FnOk PySem.Challenge.pw_someobjects_k02_whole_texts_of_trees w K mg base CX0 k a.f_law_tree_words a.d_law_tree_words ["pool", "left", "hole"] (spJ K 3 F_law_tree_words)) {F_read_tree : FME} (h_read_tree : FnOk PySem.Challenge.pw_someobjects_k02_whole_texts_of_trees w K mg base (L2N.CX PySem.Challenge.pw_someobjects_k02_whole_texts_of_trees w) k a.f_read_tree a.d_read_tree ["text"] (spE K 1 F_read_tree)) : FnOk PySem.Challenge.pw_someobjects_k02_whole_texts_of_trees w K mg base CX0 (k + 1) a.f_law a.d_law ["script"] (spF K 1 (bodyF 15 (m_law K a F_law_pool F_law_draw F_law_long_words F_law_changed F_law_wrong F_tree_text F_law_same F_people F_law_built F_law_filled F_filled F_law_count F_row_tree FH_law_same F_law_tree_words F_read_tree))) := by
  exact fn_d T.f_law.fn sc_law fun cdv A outer s H E hr => ⟨_, (dss_pool (i := 1) (de_call h_law_pool hr (by rfl) T.f_law_pool.g T.f_law_pool.k T.f_law_pool.b (da_cons (de_keep (de_var 0 (pv 0))) (da_cons (de_keep de_int) da_nil)) rfl)
  (dss_cons (ds_set (i := 2) sc_law.nd rfl (Or.inl rfl) (de_call2 h_law_tree_words hr (by rfl) T.f_law_tree_words.g T.f_law_tree_words.k T.f_law_tree_words.b (dla2_cons (de_keep (de_var 1 (pv 1))) (dla2_end (de_lst (da_cons (de_keep (de_call h_law_draw hr (by rfl) T.f_law_draw.g T.f_law_draw.k T.f_law_draw.b (da_cons (de_keep (de_var 1 (pv 1))) (da_cons (de_keep de_int) da_nil)) rfl)) da_nil)) (de_lst (da_cons (de_keep (de_call h_law_draw hr (by rfl) T.f_law_draw.g T.f_law_draw.k T.f_law_draw.b (da_cons (de_keep (de_var 1 (pv 1))) (da_cons (de_keep de_int) da_nil)) rfl)) da_nil)))) rfl))
  (dss_cons (ds_set (i := 3) sc_law.nd rfl (Or.inl rfl) (de_cmp (op_eqD hr.units) opd_eq (de_call h_law_draw hr (by rfl) T.f_law_draw.g T.f_law_draw.k T.f_law_draw.b (da_cons (de_keep (de_var 1 (pv 1))) (da_cons (de_keep de_int) da_nil)) rfl) de_int (nomark _)))
  (dss_cons (ds_if (dt_tru (de_var 3 (pv 3)))
  (dss_one (ds_set (i := 2) sc_law.nd rfl (Or.inl rfl) (de_call h_law_long_words hr (by rfl) T.f_law_long_words.g T.f_law_long_words.k T.f_law_long_words.b (da_cons (de_keep (de_var 1 (pv 1))) da_nil) rfl)))
  dss_nil)
  (dss_cons (ds_if (dt_cmp (op_eqD hr.units) opd_eq (de_call h_law_draw hr (by rfl) T.f_law_draw.g T.f_law_draw.k T.f_law_draw.b (da_cons (de_keep (de_var 1 (pv 1))) (da_cons (de_keep de_int) da_nil)) rfl) de_int (nomark _))
  (dss_one (ds_set (i := 2) sc_law.nd rfl (Or.inl rfl) (de_call h_law_changed hr (by rfl) T.f_law_changed.g T.f_law_changed.k T.f_law_changed.b (da_cons (de_keep (de_var 1 (pv 1))) (da_cons (de_keep (de_var 2 (pv 2))) da_nil)) rfl)))
  dss_nil)
  (dss_cons (ds_set (i := 4) sc_law.nd rfl (Or.inl rfl) (de_join de_str (de_var 2 (pv 2))))
  (dss_cons (ds_set (i := 2) sc_law.nd rfl (Or.inl rfl) (de_split (de_var 4 (pv 4)) de_str))
  (dss_cons (ds_if (dt_cmp (op_eqD hr.units) opd_eq (de_var 4 (pv 4)) de_str (nomark _))
  (dss_one (ds_set (i := 2) sc_law.nd rfl (Or.inl rfl) (de_lst da_nil)))
  dss_nil)
  (dss_cons (ds_set (i := 5) sc_law.nd rfl (Or.inl rfl) (de_call h_law_wrong hr (by rfl) T.f_law_wrong.g T.f_law_wrong.k T.f_law_wrong.b (da_cons (de_keep (de_var 2 (pv 2))) da_nil) rfl))
  (dss_cons (ds_tryE (i := 6) (j := 7) (su := fun e0 cls d => (dSeq (dIfS (dOr (dNot (dTru (dIsErr e0 cls d a.x_BadText true 7))) (dOr (dNot (dTru (dIsErr e0 cls d a.x_BadText true 7))) (dTru (dIsErr e0 cls d a.x_BadText false 7))))
  (dRet (dC (.bl false)))
  dNext)
  (dRet (dAndV (dOp mIsN (dVar 5) (dC .non)) (dCall FH_law_same (dCons (dKeep (dErrF e0 cls d a.x_BadText "at" 7)) (dCons (dKeep (dVar 5)) dNil))))))) rfl rfl sc_law.nd rfl rfl ⟨by rfl, by decide, Or.inl T.gE_ObjectError⟩ h_read_tree hr (by rfl) T.f_read_tree.g T.f_read_tree.k T.f_read_tree.b (fun pn xe => (da_cons (de_keep (de_var 4 (pv 4))) da_nil)) rfl rfl (Or.inl rfl) (fun e0 oe cls d pn sf =>
  (dss_cons (ds_if (DW.dt (dw_or (dt_not (dt_truK K (de_isErr (v := .ref a.x_BadText) (cv := .ref a.x_BadText) (b := true) T.ec_BadText T.kit_BadText_BadText sf (by rfl) T.n_isinstance (pv 7) (pe_glob (by rfl) T.gX_BadText rfl) (.own _)))) (dw_or (dt_not (dt_truK K (de_isErr (v := .ty "ValueError") (cv := .type "ValueError") (b := true) T.ec_BadText T.kit_BadText_ValueError sf (by rfl) T.n_isinstance (pv 7) (pe_bltn (by rfl) T.n_ValueError (by decide +kernel) rfl) (.ty _)))) (dw_or1 (dt_truK K (de_isErrT (vs := [.ref a.x_BadMachine, .ref a.x_BadPaper, .ref a.x_BadRule, .ref a.x_TooLarge]) (us := [.ref a.x_BadMachine, .ref a.x_BadPaper, .ref a.x_BadRule, .ref a.x_TooLarge]) (b := false) T.ec_BadText T.kitT_BadText sf (by rfl) T.n_isinstance (pv 7) (Nat.le_of_ble_eq_true rfl) (pa_cons (pe_glob (by rfl) T.gX_BadMachine rfl) (pa_cons (pe_glob (by rfl) T.gX_BadPaper rfl) (pa_cons (pe_glob (by rfl) T.gX_BadRule rfl) (pa_cons (pe_glob (by rfl) T.gX_TooLarge rfl) pa_nil)))) (.cons (.own _) (.cons (.own _) (.cons (.own _) (.cons (.own _) .nil))))))))))
  (dss_one (ds_ret de_bl))
  dss_nil)
  (dss_one (ds_ret (de_and (de_cmp op_notN opd_isN (de_var 5 (pv 5)) de_non (nomark _)) (de_one (de_callH hh_law_same (roomM hr) sf.hot (by rfl) T.f_law_same.g T.f_law_same.k T.f_law_same.b (da_cons (de_keep (de_errFld T.x_BadText sf (pv 7))) (da_cons (de_keep (de_var 5 (pv 5))) da_nil)) rfl))))))))
  (dss_cons (ds_if (DW.dt (dw_or (dt_cmp op_notN opd_isN (de_var 5 (pv 5)) de_non (nomark _)) (dw_or1 (dt_not (dt_tru (de_call h_law_same hr (by rfl) T.f_law_same.g T.f_law_same.k T.f_law_same.b (da_cons (de_keep (de_call h_tree_text hr (by rfl) T.f_tree_text.g T.f_tree_text.k T.f_tree_text.b (da_cons (de_keep (de_var 6 (pv 6))) da_nil) rfl)) (da_cons (de_keep (de_var 4 (pv 4))) da_nil)) rfl))))))
  (dss_one (ds_ret de_bl))
  dss_nil)
  (dss_cons (ds_if (dt_tru (de_var 3 (pv 3)))
  (dss_one (ds_ret (de_or (de_cmp (op_inA hr.units1) opd_in de_str (de_var 2 (pv 2)) rfl) (de_one (de_call h_law_same hr (by rfl) T.f_law_same.g T.f_law_same.k T.f_law_same.b (da_cons (de_keep (de_call h_people hr (by rfl) T.f_people.g T.f_people.k T.f_people.b (da_cons (de_keep (de_var 6 (pv 6))) da_nil) rfl)) (da_cons (de_keep (de_op op_fdivW opd_div (de_callB call_len cd_len (by rfl) T.n_len (by decide +kernel) (da_cons (de_var 2 (pv 2)) da_nil)) de_int)) da_nil)) rfl)))))
  dss_nil)
  (dss_cons (ds_set (i := 8) sc_law.nd rfl (Or.inl rfl) (de_ix ix_seq opd_ix (de_call h_law_built hr (by rfl) T.f_law_built.g T.f_law_built.k T.f_law_built.b (da_cons (de_keep (de_var 2 (pv 2))) da_nil) rfl) de_int (fun _ _ => rfl)))
  (dss_cons (ds_set (i := 9) sc_law.nd rfl (Or.inl rfl) (de_ix ix_seq opd_ix (de_call h_law_built hr (by rfl) T.f_law_built.g T.f_law_built.k T.f_law_built.b (da_cons (de_keep (de_call2 h_law_tree_words hr (by rfl) T.f_law_tree_words.g T.f_law_tree_words.k T.f_law_tree_words.b (dla2_cons (de_keep (de_var 1 (pv 1))) (dla2_end (de_lst (da_cons (de_keep de_int) da_nil)) (de_lst (da_cons (de_keep de_int) da_nil)))) rfl)) da_nil) rfl) de_int (fun _ _ => rfl)))
  (dss_cons (ds_if (dt_not (dt_tru (de_call h_law_same hr (by rfl) T.f_law_same.g T.f_law_same.k T.f_law_same.b (da_cons (de_keep (de_var 6 (pv 6))) (da_cons (de_keep (de_var 8 (pv 8))) da_nil)) rfl)))
  (dss_one (ds_ret de_bl))
  dss_nil)
  (dss_cons (ds_if (DW.dt (dw_and (dt_cmp (op_inA hr.units1) opd_in de_str (de_var 2 (pv 2)) rfl) (dw_and1 (dt_not (dt_tru (de_call h_law_same hr (by rfl) T.f_law_same.g T.f_law_same.k T.f_law_same.b (da_cons (de_keep (de_call h_filled hr (by rfl) T.f_filled.g T.f_filled.k T.f_filled.b (da_cons (de_keep (de_var 6 (pv 6))) (da_cons (de_keep (de_var 9 (pv 9))) da_nil)) rfl)) (da_cons (de_keep (de_call h_law_filled hr (by rfl) T.f_law_filled.g T.f_law_filled.k T.f_law_filled.b (da_cons (de_keep (de_var 8 (pv 8))) (da_cons (de_keep (de_var 9 (pv 9))) da_nil)) rfl)) da_nil)) rfl))))))
  (dss_one (ds_ret de_bl))
  dss_nil)
  (dss_cons (ds_if (DW.dt (dw_and (dt_cmp (op_notInA hr.units1) opd_notIn de_str (de_var 2 (pv 2)) rfl) (dw_and1 (dt_not (dt_tru (de_call h_law_same hr (by rfl) T.f_law_same.g T.f_law_same.k T.f_law_same.b (da_cons (de_keep (de_call h_people hr (by rfl) T.f_people.g T.f_people.k T.f_people.b (da_cons (de_keep (de_var 6 (pv 6))) da_nil) rfl)) (da_cons (de_keep (de_call h_law_count hr (by rfl) T.f_law_count.g T.f_law_count.k T.f_law_count.b (da_cons (de_keep (de_var 8 (pv 8))) da_nil) rfl)) da_nil)) rfl))))))
  (dss_one (ds_ret de_bl))
  dss_nil)
  (dss_cons (ds_setLc (i := 10) [("k", 14)] rfl rfl (sw_true rfl rfl rfl (by decide +kernel)) rfl sc_law.nd (di_rng1 rfl T.n_range (de_op op_addA opd_add de_int (de_call h_law_draw hr (by rfl) T.f_law_draw.g T.f_law_draw.k T.f_law_draw.b (da_cons (de_keep (de_var 1 (pv 1))) (da_cons (de_keep de_int) da_nil)) rfl))) (blkOk_by (own := [("k", 14)]) (N := N_law) (sc := defScope s_law) (by decide +kernel)) (fun _ _ _ _ _ => (dg_name (i := 14) sc_law.nd rfl (Or.inl rfl))) (fun _ _ _ _ _ => dts_nil) (fun _ _ _ _ _ => (de_call h_law_draw hr (by rfl) T.f_law_draw.g T.f_law_draw.k T.f_law_draw.b (da_cons (de_keep (de_var 1 (pv 1))) (da_cons (de_keep de_int) da_nil)) rfl)) (tgin_name (by decide)) (gin_name (by decide)))
  (dss_cons (ds_set (i := 11) sc_law.nd rfl (Or.inl rfl) (de_tup (da_cons (de_keep (de_ix ix_seq opd_ix (de_var 10 (pv 10)) de_int (fun _ _ => rfl))) (da_cons (de_keep (de_tup da_nil)) da_nil))))
  (dss_cons (ds_for PassesOwn.never rfl (di_over (de_slice (de_var 10 (pv 10)) (do_some de_int) do_none)) (dg_name (i := 12) sc_law.nd rfl (Or.inl rfl))
  (dss_one (ds_set (i := 11) sc_law.nd rfl (Or.inl rfl) (de_tup (da_cons (de_keep (de_var 12 (pv 12))) (da_cons (de_keep (de_tup (da_cons (de_keep (de_var 11 (pv 11))) da_nil))) da_nil))))))
  (dss_cons (ds_set (i := 13) sc_law.nd rfl (Or.inl rfl) (de_ix ix_seq opd_ix (de_tup (da_cons (de_keep (de_var 10 (pv 10))) (da_cons (de_keep (de_callTy call_tuple_of cd_tuple (by rfl) T.n_tuple (by decide +kernel) (da_cons (de_var 10 (pv 10)) da_nil))) da_nil))) (de_call h_law_draw hr (by rfl) T.f_law_draw.g T.f_law_draw.k T.f_law_draw.b (da_cons (de_keep (de_var 1 (pv 1))) (da_cons (de_keep de_int) da_nil)) rfl) (fun _ _ => rfl)))
  (dss_one (ds_ret (de_and (de_call h_law_same hr (by rfl) T.f_law_same.g T.f_law_same.k T.f_law_same.b (da_cons (de_keep (de_call h_row_tree hr (by rfl) T.f_row_tree.g T.f_row_tree.k T.f_row_tree.b (da_cons (de_keep (de_var 13 (pv 13))) da_nil) rfl)) (da_cons (de_keep (de_var 11 (pv 11))) da_nil)) rfl) (de_one (de_cmp (op_eqD hr.units) opd_eq (de_callTy call_list_of cd_list (by rfl) T.n_list (by decide +kernel) (da_cons (de_var 13 (pv 13)) da_nil)) (de_var 10 (pv 10)) (nomark _)))))))))))))))))))))))))) sc_law.nd rfl (Or.inr rfl))⟩
theorem hb_law_same (T : Tx K mg a) {k : Nat} : L2H.FnH P w K mg base CX0 (k + 1) a.f_law_same a.d_law_same ["actual", "due"] (spF K 2 (bodyF 3 mh_law_same)) := by
  exact fn_dH T.f_law_same.fn sc_law_same fun cdv A outer s H E p hot hr => ⟨_, (dss_cons (ds_if (DW.dt (dw_or (dt_tru (de_isi rfl T.n_isinstance (by decide +kernel) rfl T.n_tuple (by decide +kernel) (de_var 1 (pv 1)))) (dw_or1 (dt_tru (de_isi rfl T.n_isinstance (by decide +kernel) rfl T.n_list (by decide +kernel) (de_var 1 (pv 1)))))))
  (dss_cons (ds_if (DW.dt (dw_or (dt_cmp (op_neD hr.units) opd_ne (de_isi rfl T.n_isinstance (by decide +kernel) rfl T.n_tuple (by decide +kernel) (de_var 1 (pv 1))) (de_isi rfl T.n_isinstance (by decide +kernel) rfl T.n_tuple (by decide +kernel) (de_var 0 (pv 0))) (nomark _)) (dw_or1 (dt_cmp (op_neD hr.units) opd_ne (de_isi rfl T.n_isinstance (by decide +kernel) rfl T.n_list (by decide +kernel) (de_var 1 (pv 1))) (de_isi rfl T.n_isinstance (by decide +kernel) rfl T.n_list (by decide +kernel) (de_var 0 (pv 0))) (nomark _)))))
  (dss_one (ds_ret de_bl))
  dss_nil)
  (dss_cons (ds_if (dt_cmp (op_neD hr.units) opd_ne (de_callB call_len cd_len (by rfl) T.n_len (by decide +kernel) (da_cons (de_var 0 (pv 0)) da_nil)) (de_callB call_len cd_len (by rfl) T.n_len (by decide +kernel) (da_cons (de_var 1 (pv 1)) da_nil)) (nomark _))
  (dss_one (ds_ret de_bl))
  dss_nil)
  (dss_cons ds_never
  (dss_one (ds_ret de_bl)))))
  dss_nil)
  (dss_cons (ds_if (DW.dt (dw_or (dt_cmp op_isN opd_is (de_var 1 (pv 1)) de_non (nomark _)) (dw_or1 (dt_tru (de_isi rfl T.n_isinstance (by decide +kernel) rfl T.n_bool (by decide +kernel) (de_var 1 (pv 1)))))))
  (dss_one (ds_ret (de_and (de_cmp (op_eqD hr.units) opd_eq (de_cmp op_isN opd_is (de_var 0 (pv 0)) de_non (nomark _)) (de_cmp op_isN opd_is (de_var 1 (pv 1)) de_non (nomark _)) (nomark _)) (de_and (de_or (de_cmp op_isN opd_is (de_var 1 (pv 1)) de_non (nomark _)) (de_one (de_isi rfl T.n_isinstance (by decide +kernel) rfl T.n_bool (by decide +kernel) (de_var 0 (pv 0))))) (de_one (de_cmp (op_eqD hr.units) opd_eq (de_var 0 (pv 0)) (de_var 1 (pv 1)) (nomark _)))))))
  dss_nil)
  (dss_cons (ds_if (dt_tru (de_isi rfl T.n_isinstance (by decide +kernel) rfl T.n_int (by decide +kernel) (de_var 1 (pv 1))))
  (dss_one (ds_ret (de_and (de_isi rfl T.n_isinstance (by decide +kernel) rfl T.n_int (by decide +kernel) (de_var 0 (pv 0))) (de_and (de_not (de_isi rfl T.n_isinstance (by decide +kernel) rfl T.n_bool (by decide +kernel) (de_var 0 (pv 0)))) (de_one (de_cmp (op_eqD hr.units) opd_eq (de_var 0 (pv 0)) (de_var 1 (pv 1)) (nomark _)))))))
  dss_nil)
  (dss_one (ds_ret (de_and (de_isi rfl T.n_isinstance (by decide +kernel) rfl T.n_str (by decide +kernel) (de_var 0 (pv 0))) (de_one (de_cmp (op_eqD hr.units) opd_eq (de_var 0 (pv 0)) (de_var 1 (pv 1)) (nomark _)))))))))⟩
end
end G
end

section
set_option Elab.async false
set_option linter.all false
set_option maxRecDepth 100000
set_option maxHeartbeats 4000000
namespace G
open PySem PySem.Spec PyProof.Rows L2 DL
abbrev s_dr : Stmt := top 24
theorem sc_dr : FnScope ["pool", "size", "cell", "value"] ["pool", "size"] (defScope s_dr) := ⟨rfl, rfl, rfl, by decide +kernel, rfl, by decide +kernel, by decide +kernel⟩
section
variable {P : Program} {w : World} {K : PySem.W.Frag} {mg : Str → Option Value} {base : Heap}
theorem dr_ok {f : Addr} {fd : FuncData} (F : Fun K "_law_draw" "_law_draw" s_dr f fd) (hlen : mg "len" = none) (hint : mg "int" = none) : FnOk P w K mg base CX0 1 f fd ["pool", "size"] (spF K 2 F_draw) := by
  refine draw_ok F sc_dr hlen hint fun cdv A outer s H0 E => ⟨_, Evl.pss_cut (ps_if (PW.pt (pw_and (pt_cmpR op_le (pe_ix ix_list (pv 0) pe_int (fun _ _ => rfl)) pe_int (nomark _))
      (pw_and (pt_cmpR op_le (pe_ix ix_list (pv 0) pe_int (fun _ _ => rfl)) pe_int (nomark _)) (pw_and1 (pt_cmpR op_lt (pe_ix ix_list (pv 0) pe_int (fun _ _ => rfl)) (pe_callB call_len_seq (by rfl) hlen PySem.boot_len (pa_cons (pe_ix ix_list (pv 0) pe_int (fun _ _ => rfl)) pa_nil)) (nomark _))))))
      (pss_cons (ps_set (i := 2) sc_dr.nd rfl (Or.inl rfl) (pe_ix ix_list (pe_ix ix_list (pv 0) pe_int (fun _ _ => rfl)) (pe_ix ix_list (pv 0) pe_int (fun _ _ => rfl)) (fun _ _ => rfl)))
      (pss_cons (ps_asg (pe_op op_add (pe_ix ix_list (pv 0) pe_int (fun _ _ => rfl)) pe_int) (pg_sub (pv 0) pe_int set_list))
      (pss_cons (ps_asg (pe_op op_mod (pe_callTy call_int1 (by rfl) hint (by decide +kernel) (pa_cons (pe_op op_add (pe_op op_mul (pe_ix ix_list (pv 0) pe_int (fun _ _ => rfl)) pe_int) (pv 2)) pa_nil)) pe_int) (pg_sub (pv 0) pe_int set_list))
      (pss_cons (ps_asg pe_int (pg_sub (pv 0) pe_int set_list))
      (pss_one (ps_if (pt_cmpR op_ge (pv 2) (pe_op op_pow pe_int pe_int) (nomark _)) (pss_one (ps_asg (pv 2) (pg_sub (pv 0) pe_int set_list))) pss_nil)))))) pss_nil)
    (pss_cons (ps_if (pt_cmpR op_gt (pe_ix ix_list (pv 0) pe_int (fun _ _ => rfl)) pe_int (nomark _))
      (pss_cons (ps_set (i := 3) sc_dr.nd rfl (Or.inl rfl) (pe_op op_mod (pe_callTy call_int1 (by rfl) hint (by decide +kernel) (pa_cons (pe_ix ix_list (pv 0) pe_int (fun _ _ => rfl)) pa_nil)) (pv 1)))
      (pss_cons (ps_asg (pe_op op_fdivW (pe_ix ix_list (pv 0) pe_int (fun _ _ => rfl)) (pv 1)) (pg_sub (pv 0) pe_int set_list))
      (pss_cons (ps_asg pe_int (pg_sub (pv 0) pe_int set_list)) (pss_one (ps_ret (pv 3)))))) pss_nil)
    (pss_cons (ps_asg (pe_op op_sub (pe_ix ix_list (pv 0) pe_int (fun _ _ => rfl)) pe_int) (pg_sub (pv 0) pe_int set_list))
    (pss_cons (ps_asg (pe_op op_mod (pe_callTy call_int1 (by rfl) hint (by decide +kernel) (pa_cons (pe_op op_add (pe_op op_mul (pe_ix ix_list (pv 0) pe_int (fun _ _ => rfl)) pe_int) pe_int) pa_nil)) pe_int) (pg_sub (pv 0) pe_int set_list))
    (pss_one (ps_ret (pe_op op_mod (pe_op op_mod (pe_callTy call_int1 (by rfl) hint (by decide +kernel) (pa_cons (pe_op op_add (pe_op op_mul (pe_ix ix_list (pv 0) pe_int (fun _ _ => rfl)) pe_int) pe_int) pa_nil)) pe_int) (pv 1))))))), ?_⟩
  intro H a l cells pos big seed cnt bud n D ha hl la hp hn hk
  have hn0 : 0 < n := hn.1
  refine ⟨fun σ' H' => ∃ (x : Option V) (pos big seed cnt : Int), σ' = [some (.ref a), some (.int n), x, none] ∧ 0 ≤ pos ∧ H' a = some (.lst (pl l pos big seed cnt bud)) ∧ ∀ o, upd H' a o = upd H a o, ?_, ?_⟩
  · have no : ∃ (x : Option V) (pos' big' seed' cnt' : Int), ([some (.ref a), some (.int n), none, none] : L2.St) = [some (.ref a), some (.int n), x, none] ∧ 0 ≤ pos' ∧ H a = some (.lst (pl l pos' big' seed' cnt' bud)) ∧ ∀ o, upd H a o = upd H a o := ⟨none, pos, big, seed, cnt, rfl, hp, ha, fun _ => rfl⟩
    refine rd_at rfl ha rfl ⟨_, _, rfl, rfl, _, rfl, ?_⟩
    refine ite2 (fun _ => ?_) fun _ => iteF no
    refine rd_at rfl ha rfl ⟨_, _, rfl, rfl, _, rfl, ?_⟩
    refine ite2 (fun _ => ?_) fun _ => iteF no
    refine rd_at rfl ha rfl ?_
    refine rd_at rfl ha rfl ⟨l, _, rfl, .inl (SqL.of hl), _, _, rfl, rfl, _, rfl, ?_⟩
    refine ite2 (fun h3 => ?_) fun _ => no
    have h3 : pos < (cells.length : Nat) := by
      have := of_decide_eq_true h3
      rwa [List.length_map] at this
    have hc : pos.toNat < cells.length := by omega
    refine rd_at rfl ha rfl ?_
    refine rd_at rfl ha rfl ⟨l, _, _, .int cells[pos.toNat], rfl, rfl, SqL.of hl, ?_, ?_⟩
    · unfold atI ixN
      rw [if_pos hp, if_pos (by rw [List.length_map]; exact h3)]
      show (cells.map V.int)[pos.toNat]? = _
      rw [List.getElem?_map, List.getElem?_eq_getElem hc]
      rfl
    generalize cells[pos.toNat] = c
    -- pool[1], pool[3], pool[4]
    refine rd_at rfl ha rfl ⟨_, _, rfl, rfl, ?_⟩
    refine ⟨_, rfl, a, _, _, 1, rfl, rfl, ha, rfl, ?_⟩
    refine rd_at rfl upd_same rfl ⟨_, _, rfl, rfl, .inr (by decide), ?_⟩
    refine ⟨_, rfl, _, _, rfl, rfl, .inl ⟨_, rfl, ?_⟩⟩
    refine ⟨_, _, rfl, rfl, (show (0 : Int) < 2147483647 by decide), ?_⟩
    refine ⟨_, rfl, a, _, _, 3, rfl, rfl, upd_same, rfl, ?_⟩
    refine ⟨_, rfl, a, _, _, 4, rfl, rfl, upd_same, rfl, ?_⟩
    refine ⟨_, rfl, _, _, rfl, rfl, (show CPow 10 18 from ⟨by decide, by decide, by decide⟩), _, _, rfl, rfl, _, rfl, ?_⟩
    rw [upd_upd, upd_upd]
    refine ite2 (fun _ => ?_) fun _ => ?_
    · refine ⟨_, rfl, _, rfl, a, _, _, 2, rfl, rfl, upd_same, rfl, ?_⟩
      rw [upd_upd]
      exact ⟨_, pos + 1, c, _, _, rfl, by omega, upd_same, fun o => upd_upd⟩
    · exact ⟨_, pos + 1, big, _, _, rfl, by omega, upd_same, fun o => upd_upd⟩
  · rintro σ' H' ⟨x, pos, big, seed, cnt, rfl, hp, ha', hu⟩
    refine rd_at rfl ha' rfl ⟨_, _, rfl, rfl, _, rfl, ?_⟩
    refine ite2 (fun _ => ?_) fun _ => ?_
    · refine rd_at rfl ha' rfl (.inl ⟨_, rfl, ?_⟩)
      refine ⟨_, rfl, _, _, rfl, rfl, hn0, ?_⟩
      refine rd_at rfl ha' rfl ⟨_, rfl, _, _, rfl, rfl, hn, ?_⟩
      refine ⟨_, rfl, a, _, _, 2, rfl, rfl, ha', rfl, ?_⟩
      refine ⟨_, rfl, a, _, _, 4, rfl, rfl, upd_same, rfl, ?_⟩
      refine ⟨_, rfl, ?_⟩
      rw [upd_upd, hu]
      exact hk _ _ _ _ _ (Int.emod_nonneg _ (by omega)) (Int.emod_lt_of_pos _ hn0) hp
    · refine rd_at rfl ha' rfl ⟨_, _, rfl, rfl, ?_⟩
      refine ⟨_, rfl, a, _, _, 4, rfl, rfl, ha', rfl, ?_⟩
      refine rd_at rfl upd_same rfl ⟨_, _, rfl, rfl, .inr (by decide), ?_⟩
      refine ⟨_, _, rfl, rfl, .inl ⟨_, rfl, ?_⟩⟩
      refine ⟨_, _, rfl, rfl, (show (0 : Int) < 2147483647 by decide), ?_⟩
      refine ⟨_, rfl, a, _, _, 3, rfl, rfl, upd_same, rfl, ?_⟩
      rw [upd_upd, hu]
      refine rd_at rfl upd_same rfl ⟨_, _, rfl, rfl, .inr (by decide), ?_⟩
      refine ⟨_, _, rfl, rfl, .inl ⟨_, rfl, ?_⟩⟩
      refine ⟨_, _, rfl, rfl, (show (0 : Int) < 2147483647 by decide), ?_⟩
      refine ⟨_, rfl, _, _, rfl, rfl, hn0, ?_⟩
      exact hk _ _ _ _ _ (Int.emod_nonneg _ (by omega)) (Int.emod_lt_of_pos _ hn0) hp
end
end G
end

section
set_option Elab.async false
set_option linter.all false
set_option maxRecDepth 100000
set_option maxHeartbeats 4000000
namespace G
open PySem PySem.Spec PyProof.Rows L2 DL
local macro_rules | `(tactic| walk_at "ok1") => `(tactic| first | exact okD_int _ | exact okD_bl _ | exact okD_non | exact okD_str (by assumption) | assumption)
local macro_rules | `(tactic| walk_at "go1") => `(tactic| ((conv => whnf); first
  | refine s_iteT ?_ | refine s_iteF ?_
  | refine ⟨⟨by walk_at "ok1", by walk_at "ok1"⟩, ?_⟩
  | refine ⟨_, rfl, ?_⟩
  | refine ⟨rfl, ?_⟩
  | refine ⟨Nat.le_of_ble_eq_true rfl, ?_⟩
  | refine ⟨_, isB_tuple (by assumption), ?_⟩
  | refine ⟨_, isB_list (by assumption), ?_⟩
  | refine ⟨_, isB_bool (by assumption), ?_⟩
  | refine ⟨_, isB_int (by assumption), ?_⟩
  | refine ⟨_, isB_str (by assumption), ?_⟩
  | refine ⟨_, by assumption, ?_⟩
  | refine s_ite1 (by assumption) ?_ | refine s_ite0 (by assumption) ?_))
local macro_rules | `(tactic| walk_at "go") => `(tactic| repeat walk_at "go1")

theorem nodes_loop {E : DEn} {x : Nv} : ∀ (n : Nat) (st : List Tr) (no : List (Option Int × Nat)) (a b : Option Nv), Tr.sizes st ≤ n → no.length + Tr.sizes st ≤ 100000 →
    (∀ a b, E.nx [some x, some (.own ((no ++ Tr.pres st).map ndD)), some (.own []), a, b]) →
    dWh (dTru (dVar 2)) (dSeq (dAsgP (dTg 2 (dTCons (dName 3) (dTCons (dName 4) dTNil))) (dPopL 2))
      (dSeq (dApp 1 (dTup (dCons (dKeep (dVar 3)) (dCons (dKeep (dCB mLen (dCons (dVar 4) dNil))) dNil)))) (dExtA 2 (dRevA (dVar 4))))) E (n + 1) [some x, some (.own (no.map ndD)), some (.own (Tr.ds st).reverse), a, b] := by
  intro n
  induction n with
  | zero =>
    intro st no a b h h2 k
    cases st with
    | nil =>
      walk_at "go"
      have q := k a b
      rw [Tr.pres, List.append_nil] at q
      rw [Tr.ds]
      exact q
    | cons t r =>
      obtain ⟨c, cs⟩ := t
      rw [Tr.sizes, Tr.size] at h
      omega
  | succ n ih =>
    intro st no a b h h2 k
    cases st with
    | nil =>
      walk_at "go"
      have q := k a b
      rw [Tr.pres, List.append_nil] at q
      rw [Tr.ds]
      exact q
    | cons t r =>
      obtain ⟨c, cs⟩ := t
      have e : (Tr.ds (.nd c cs :: r)).reverse = (Tr.ds r).reverse ++ [.tup [optD c, .tup (Tr.ds cs)]] := by
        rw [Tr.ds, Tr.d, List.reverse_cons]
      rw [e]
      have e2 := last_add (Tr.ds r).reverse (.tup [optD c, .tup (Tr.ds cs)])
      have e3 : truD (.lst ((Tr.ds r).reverse ++ [.tup [optD c, .tup (Tr.ds cs)]])) = some true := by
        cases (Tr.ds r).reverse <;> rfl
      refine ⟨_, e3, ?_⟩
      walk_at "go"
      have z1 : Tr.sizes (.nd c cs :: r) = (Tr.sizes cs + 1) + Tr.sizes r := by rw [Tr.sizes, Tr.size]
      have z2 := Tr.len_sizes cs
      have z3 := Tr.len_sizes r
      refine ⟨by rw [List.length_map]; unfold sizeLine; omega, ?_⟩
      refine ⟨⟨_, rfl⟩, ?_⟩
      rw [List.dropLast_concat, Tr.ds_length]
      conv => whnf
      refine ⟨by rw [List.length_reverse, List.length_reverse, Tr.ds_length, Tr.ds_length]; unfold sizeLine; omega, ?_⟩
      have f1 : no.map ndD ++ [ndD (c, cs.length)] = (no ++ [(c, cs.length)]).map ndD := by rw [List.map_append]; rfl
      have f2 : (Tr.ds r).reverse ++ (Tr.ds cs).reverse = (Tr.ds (cs ++ r)).reverse := by rw [Tr.ds_append, List.reverse_append]
      have key := ih (cs ++ r) (no ++ [(c, cs.length)]) (some (.val (optD c))) (some (.val (.tup (Tr.ds cs)))) (by rw [Tr.sizes_append]; omega) (by rw [Tr.sizes_append, List.length_append, List.length_singleton]; omega) fun a b => by
        have q := k a b
        rw [Tr.pres, Tr.pre] at q
        rw [Tr.pres_append, List.append_assoc]
        exact q
      rw [← f1, ← f2] at key
      exact key
theorem nodes_body : ∀ rs Qd, F_nodes rs Qd → bodyF 5 m_nodes_of rs Qd := by
  rintro rs Qd ⟨t, rfl, h, q⟩
  unfold m_nodes_of
  show dSeq _ _ _ [some (.val t.d), none, none, none, none]
  walk_at "go"
  refine ⟨t.size + 1, ?_⟩
  have e : (Tr.ds [t]).reverse = [t.d] := by rw [Tr.ds, Tr.ds]; rfl
  have key := fun E hk => nodes_loop (E := E) (x := .val t.d) t.size [t] [] none none (by rw [Tr.sizes, Tr.sizes]; exact Nat.le_refl _) (by rw [Tr.sizes, Tr.sizes]; exact (by simpa using h)) hk
  rw [e] at key
  refine key _ fun a b => ?_
  walk_at "go"
  rw [Tr.pres, Tr.pres, List.append_nil]
  exact q
theorem tree_pops {E : DEn} {x : Nv} {a : Option Nv} {e2 e3 : Option Nv} {b : List D} : ∀ (c : List D) (ch : List D) (k : Nat) (z : Option Nv), ch.length + c.length ≤ 100000 →
    (∀ z, E.nx [some x, some (.own b), e2, e3, some (.own (ch ++ c)), z]) →
    dLoop (dName 5) (dAppP 4 (dPopL 1)) E ((List.range' k c.length).map fun k : Nat => D.int (k : Int)) [some x, some (.own (b ++ c.reverse)), e2, e3, some (.own ch), z]
  | [], ch, k, z, h, q => by
    have q := q z
    rw [List.append_nil] at q
    rw [List.reverse_nil, List.append_nil]
    exact q
  | d :: c, ch, k, z, h, q => by
    rw [List.reverse_cons, ← List.append_assoc]
    have e := last_add (b ++ c.reverse) d
    rw [List.length_cons] at h
    refine ⟨⟨_, rfl⟩, ⟨d, e, ?_⟩⟩
    rw [List.dropLast_concat]
    refine ⟨by unfold sizeLine; omega, ?_⟩
    have key := tree_pops (E := E) (x := x) (e2 := e2) (e3 := e3) (b := b) (a := a) c (ch ++ [d]) (k + 1) (some (.val (.int k))) (by rw [List.length_append, List.length_singleton]; omega) fun z => by
      have q := q z
      rw [List.append_assoc]
      exact q
    exact key
abbrev tree_bd : DSM := dSeq (dSet 4 (dLst dNil))
  (dSeq (dFor (dRng1 (dVar 3)) (dName 5) (dAppP 4 (dPopL 1)))
  (dApp 1 (dTup (dCons (dKeep (dVar 2)) (dCons (dKeep (dCB mTuple (dCons (dVar 4) dNil))) dNil)))))
abbrev tree_tg : DGM := dTg 2 (dTCons (dName 2) (dTCons (dName 3) dTNil))
theorem tree_node {E : DEn} {x : Nv} {rest : List D} {b : List D} {a : Option Int} {cs : List Tr} {y2 y3 y4 y5 : Option Nv} (h : b.length + cs.length + 1 ≤ 100000)
    (q : ∀ y2 y3 y4 y5, dLoop tree_tg tree_bd E rest [some x, some (.own (b ++ [Tr.d (.nd a cs)])), y2, y3, y4, y5]) :
    dLoop tree_tg tree_bd E (ndD (a, cs.length) :: rest) [some x, some (.own (b ++ (Tr.ds cs).reverse)), y2, y3, y4, y5] := by
  walk_at "go"
  refine ⟨by omega, (by omega : (cs.length : Int) < 2 ^ 62), ?_⟩
  show dLoop _ _ _ (rangeD 0 (cs.length : Int)) _
  rw [rangeD_nat', ← Tr.ds_length cs]
  refine tree_pops (a := none) (Tr.ds cs) [] 0 _ (by rw [Tr.ds_length, List.length_nil]; omega) fun z => ?_
  walk_at "go"
  refine ⟨by unfold sizeLine; omega, ?_⟩
  have q := q (some (.val (optD a))) (some (.val (.int ((Tr.ds cs).length : Nat)))) (some (.own (Tr.ds cs))) z
  rw [Tr.d] at q
  exact q
mutual
theorem tree_one {E : DEn} {x : Nv} : ∀ (t : Tr) (rest b : List D) (y2 y3 y4 y5 : Option Nv), b.length + t.size ≤ 100000 →
    (∀ y2 y3 y4 y5, dLoop tree_tg tree_bd E rest [some x, some (.own (b ++ [t.d])), y2, y3, y4, y5]) →
    dLoop tree_tg tree_bd E ((t.pre.map ndD).reverse ++ rest) [some x, some (.own b), y2, y3, y4, y5]
  | .nd a cs, rest, b, y2, y3, y4, y5, h, q => by
    rw [Tr.size] at h
    have z := Tr.len_sizes cs
    rw [Tr.pre, List.map_cons, List.reverse_cons, List.append_assoc, List.singleton_append]
    exact tree_all cs _ b y2 y3 y4 y5 (by omega) fun y2 y3 y4 y5 => tree_node (by omega) q
theorem tree_all {E : DEn} {x : Nv} : ∀ (ts : List Tr) (rest b : List D) (y2 y3 y4 y5 : Option Nv), b.length + Tr.sizes ts ≤ 100000 →
    (∀ y2 y3 y4 y5, dLoop tree_tg tree_bd E rest [some x, some (.own (b ++ (Tr.ds ts).reverse)), y2, y3, y4, y5]) →
    dLoop tree_tg tree_bd E (((Tr.pres ts).map ndD).reverse ++ rest) [some x, some (.own b), y2, y3, y4, y5]
  | [], rest, b, y2, y3, y4, y5, h, q => by
    have q := q y2 y3 y4 y5
    rw [Tr.ds, List.reverse_nil, List.append_nil] at q
    rw [Tr.pres]
    exact q
  | t :: ts, rest, b, y2, y3, y4, y5, h, q => by
    have z := Tr.len_sizes ts
    rw [Tr.sizes] at h
    rw [Tr.pres, List.map_append, List.reverse_append, List.append_assoc]
    refine tree_all ts _ b y2 y3 y4 y5 (by omega) fun y2 y3 y4 y5 => ?_
    refine tree_one t rest _ y2 y3 y4 y5 (by rw [List.length_append, List.length_reverse, Tr.ds_length]; omega) fun y2 y3 y4 y5 => ?_
    have q := q y2 y3 y4 y5
    rw [Tr.ds, List.reverse_cons, ← List.append_assoc] at q
    exact q
end
theorem tree_body : ∀ rs Qd, F_tree rs Qd → bodyF 6 m_tree_of rs Qd := by
  rintro rs Qd ⟨t, rfl, h, q⟩
  unfold m_tree_of
  show dSeq _ _ _ [some (.val _), none, none, none, none, none]
  walk_at "go"
  show dLoop _ _ _ (t.pre.map ndD).reverse _
  rw [← List.append_nil (t.pre.map ndD).reverse]
  refine tree_one t [] [] _ _ _ _ (by rw [List.length_nil]; omega) fun y2 y3 y4 y5 => ?_
  walk_at "go"
  exact q
end G
end

section
set_option Elab.async false
set_option linter.all false
set_option maxRecDepth 100000
set_option maxHeartbeats 4000000
namespace G
open PySem PySem.Spec PyProof.Rows L2 DL
local macro_rules | `(tactic| walk_at "ok1") => `(tactic| first | exact okD_int _ | exact okD_bl _ | exact okD_non | exact okD_str (by assumption) | assumption)
local macro_rules | `(tactic| walk_at "go1") => `(tactic| ((conv => whnf); first
  | refine s_iteT ?_ | refine s_iteF ?_
  | refine ⟨⟨by walk_at "ok1", by walk_at "ok1"⟩, ?_⟩
  | refine ⟨_, rfl, ?_⟩
  | refine ⟨rfl, ?_⟩
  | refine ⟨Nat.le_of_ble_eq_true rfl, ?_⟩
  | refine ⟨_, isB_tuple (by assumption), ?_⟩
  | refine ⟨_, isB_list (by assumption), ?_⟩
  | refine ⟨_, isB_bool (by assumption), ?_⟩
  | refine ⟨_, isB_int (by assumption), ?_⟩
  | refine ⟨_, isB_str (by assumption), ?_⟩
  | refine ⟨_, by assumption, ?_⟩
  | refine s_ite1 (by assumption) ?_ | refine s_ite0 (by assumption) ?_))
local macro_rules | `(tactic| walk_at "go") => `(tactic| repeat walk_at "go1")
/-! ### the number of people -/
def F_people : FM := fun rs Qd => ∃ t : Tr, rs = [.val t.d] ∧ t.size ≤ 100000 ∧ Qd (.val (.int t.size))
theorem people_body {F : FM} (hF : ∀ rs Qd, F_nodes rs Qd → F rs Qd) : ∀ rs Qd, F_people rs Qd → bodyF 1 (m_people F) rs Qd := by
  rintro rs Qd ⟨t, rfl, h, q⟩
  unfold m_people
  show dRet _ _ [some (.val t.d)]
  refine ⟨rfl, hF _ _ ⟨t, rfl, h, ?_⟩⟩
  conv => whnf
  rw [List.length_map, Tr.pre_length]
  exact q
/-! ### a row -/
def rowT (ls : List Int) : List Tr := ls.foldl (fun acc l => [Tr.nd (some l) acc]) []
def F_row : FM := fun rs Qd => ∃ (ls : List Int) (x : D) (t : Tr), rs = [.val x] ∧ (x = .lst (ls.map D.int) ∨ x = .tup (ls.map D.int)) ∧ rowT ls = [t] ∧ Qd (.val t.d)
theorem row_loop {E : DEn} {x : Nv} : ∀ (ls : List Int) (acc : List Tr) (y : Option Nv), 
    (∀ y, E.nx [some x, some (.val (.tup (Tr.ds (ls.foldl (fun acc l => [Tr.nd (some l) acc]) acc)))), y]) →
    dLoop (dName 2) (dSet 1 (dTup (dCons (dKeep (dTup (dCons (dKeep (dVar 2)) (dCons (dKeep (dVar 1)) dNil)))) dNil))) E (ls.map D.int) [some x, some (.val (.tup (Tr.ds acc))), y]
  | [], acc, y, q => q y
  | l :: ls, acc, y, q => by
    walk_at "go"
    have key := row_loop (E := E) (x := x) ls [Tr.nd (some l) acc] (some (.val (.int l))) q
    rw [Tr.ds, Tr.d, Tr.ds] at key
    exact key
theorem row_body : ∀ rs Qd, F_row rs Qd → bodyF 3 m_row_tree rs Qd := by
  rintro rs Qd ⟨ls, x, t, rfl, hx, e, q⟩
  unfold m_row_tree
  show dSeq _ _ _ [some (.val x), none, none]
  have fin : ∀ {E : DEn} (z y), E.rt = (fun _ r => Qd r) → dRet (dOp mIx (dVar 1) (dC (.int 0))) E [z, some (.val (.tup (Tr.ds (rowT ls)))), y] := by
    intro E z y hE
    rw [e, Tr.ds, Tr.ds]
    walk_at "go"
    rw [hE]
    exact q
  rcases hx with rfl | rfl
  · walk_at "go"
    exact row_loop ls [] none fun y => fin _ _ rfl
  · walk_at "go"
    exact row_loop ls [] none fun y => fin _ _ rfl
/-! ### nodes that texts speak of -/
def okN (n : Option Int × Nat) : Prop := n = (none, 0) ∨ ∃ a : Nat, a ≤ 9 ∧ n.1 = some (a : Int) ∧ n.2 ≤ 2
theorem hole_eq (n : Option Int × Nat) (h : okN n) : eqD (ndD n) (.tup [.non, .int 0]) = decide (n = (none, 0)) := by
  rcases h with rfl | ⟨a, h1, h2, h3⟩
  · rw [decide_eq_true rfl]
    simp [eqD, toPy, toPys, ndD, optD, PyData.eqv, PyData.eqvAll]
  · obtain ⟨x, k⟩ := n
    cases h2
    rw [decide_eq_false (by intro e; cases e)]
    simp [eqD, toPy, toPys, ndD, optD, PyData.eqv, PyData.eqvAll]
theorem hole_ok (n : Option Int × Nat) : okD (ndD n) := by
  obtain ⟨x, k⟩ := n
  cases x with
  | none => 
    refine ⟨rfl, ?_⟩
    simp [toPy, toPys, ndD, optD, SeqAt.shaped, PyData.canLay0, PyData.depth, PyData.canLayAll0, PyData.depthAll]
  | some a =>
    refine ⟨rfl, ?_⟩
    simp [toPy, toPys, ndD, optD, SeqAt.shaped, PyData.canLay0, PyData.depth, PyData.canLayAll0, PyData.depthAll]
def digW (a : Nat) : Str := toString (a : Int)
theorem dig_tab : ∀ a : Nat, a < 10 → PySem.intText? (digW a) = some (a : Int) ∧ (digW a).length = 1 ∧ digW a ≠ "hole" ∧ PyData.canLay0 (.str (digW a)) = true := by decide +kernel
theorem hole_okc : okD (.tup [.non, .int 0]) := hole_ok (none, 0)
def ndW (n : Option Int × Nat) : List Str := match n.1 with
  | none => ["hole"]
  | some a => [toString a, toString (n.2 : Int)]
def F_text : FM := fun rs Qd => ∃ t : Tr, rs = [.val t.d] ∧ t.size ≤ 1000 ∧ (∀ n ∈ t.pre, okN n) ∧ Qd (.val (.str (Txt.join " " (t.pre.flatMap ndW))))
theorem dig_log {a : Nat} (h : a ≤ 9) : ((a : Int)).natAbs.log2 < 1920 := by
  have : ∀ a : Nat, a < 10 → ((a : Int)).natAbs.log2 < 1920 := by decide +kernel
  exact this a (by omega)
theorem text_loop {E : DEn} {x : Nv} : ∀ (ns : List (Option Int × Nat)) (ws : List Str) (y : Option Nv), (∀ n ∈ ns, okN n) → ws.length + 2 * ns.length ≤ 100000 →
    (∀ y, E.nx [some x, some (.own ((ws ++ ns.flatMap ndW).map D.str)), y]) →
    dLoop (dName 2) (dIfS (dB (dOp mEq (dVar 2) (dC (.tup [.non, (.int 0)]))))
  (dApp 1 (dC (.str "hole")))
  (dExtA 1 (dLst (dCons (dKeep (dCB mStr (dCons (dOp mIx (dVar 2) (dC (.int 0))) dNil))) (dCons (dKeep (dCB mStr (dCons (dOp mIx (dVar 2) (dC (.int 1))) dNil))) dNil))))) E (ns.map ndD) [some x, some (.own (ws.map D.str)), y]
  | [], ws, y, _, _, q => by
    have q := q y
    rw [List.flatMap_nil, List.append_nil] at q
    exact q
  | n :: ns, ws, y, hn, hl, q => by
    have h1 := hn n (List.mem_cons_self ..)
    rw [List.length_cons] at hl
    have key := fun ws' y h => text_loop (E := E) (x := x) ns (ws ++ ws') y (fun m hm => hn m (List.mem_cons_of_mem _ hm)) h
    refine ⟨⟨hole_ok n, hole_okc⟩, ?_⟩
    rw [show eqD (R.val (ndD n)).data (R.val (.tup [.non, .int 0])).data = decide (n = (none, 0)) from hole_eq n h1]
    rcases h1 with rfl | ⟨a, h1, h2, h3⟩
    · rw [decide_eq_true rfl]
      walk_at "go"
      refine ⟨by rw [List.length_map]; unfold sizeLine; omega, ?_⟩
      have k := key ["hole"] (some (.val (.tup [.non, .int 0]))) (by rw [List.length_append, List.length_singleton]; omega) fun y => by
        have q := q y
        rw [List.append_assoc]
        exact q
      rw [List.map_append] at k
      exact k
    · obtain ⟨x', k⟩ := n
      cases h2
      rw [decide_eq_false (by intro e; cases e)]
      walk_at "go"
      refine ⟨⟨_, rfl⟩, ?_⟩
      walk_at "go"
      refine ⟨dig_log h1, ?_⟩
      walk_at "go"
      refine ⟨dig_log (Nat.le_trans h3 (by decide)), ?_⟩
      walk_at "go"
      refine ⟨by rw [List.length_map]; show ws.length + 2 ≤ _; unfold sizeLine; omega, ?_⟩
      have k2 := key [toString (a : Int), toString (k : Int)] (some (.val (ndD (some (a : Int), k)))) (by rw [List.length_append]; show ws.length + 2 + _ ≤ _; omega) fun y => by
        have q := q y
        rw [List.append_assoc]
        exact q
      rw [List.map_append] at k2
      exact k2
theorem word_sizes : ∀ ns : List (Option Int × Nat), (∀ n ∈ ns, okN n) → ((ns.flatMap ndW).map (·.length)).sum ≤ 4 * ns.length ∧ (ns.flatMap ndW).length ≤ 2 * ns.length
  | [], _ => ⟨Nat.le_refl _, Nat.le_refl _⟩
  | n :: ns, h => by
    have ih := word_sizes ns fun m hm => h m (List.mem_cons_of_mem _ hm)
    rw [List.flatMap_cons, List.map_append, List.sum_append, List.length_append, List.length_cons]
    rcases h n (List.mem_cons_self ..) with rfl | ⟨a, h1, h2, h3⟩
    · have e : (ndW (none, 0)) = (["hole"] : List Str) := rfl
      rw [e]
      have e2 : ((["hole"] : List Str).map fun x : Str => x.length).sum = 4 := by decide +kernel
      rw [e2, List.length_singleton]
      omega
    · obtain ⟨x, k⟩ := n
      cases h2
      have e : ndW (some (a : Int), k) = [digW a, digW k] := rfl
      have e1 := (dig_tab a (by omega)).2.1
      have e2 := (dig_tab k (by have : k ≤ 2 := h3; omega)).2.1
      rw [e]
      show [(digW a).length, (digW k).length].sum + _ ≤ _ ∧ 2 + _ ≤ _
      rw [e1, e2]
      show 2 + _ ≤ _ ∧ _
      omega
theorem text_body {F : FM} (hF : ∀ rs Qd, F_nodes rs Qd → F rs Qd) : ∀ rs Qd, F_text rs Qd → bodyF 3 (m_tree_text F) rs Qd := by
  rintro rs Qd ⟨t, rfl, h, hn, q⟩
  have hl : t.pre.length ≤ 1000 := by rw [Tr.pre_length]; exact h
  obtain ⟨z1, z2⟩ := word_sizes t.pre hn
  unfold m_tree_text
  show dSeq _ _ _ [some (.val t.d), none, none]
  walk_at "go"
  refine hF _ _ ⟨t, rfl, by omega, ?_⟩
  refine text_loop t.pre [] none hn (by rw [List.length_nil]; omega) fun y => ?_
  refine ⟨⟨_, rfl⟩, ?_⟩
  refine ⟨_, strsOf_map _, ?_, ?_⟩
  · rw [List.nil_append, show ((" " : Str)).length = 1 by decide +kernel]
    omega
  · exact q
/-! ### the tree put in -/
mutual
def Tr.fill (t : Tr) : Tr → Tr
  | .nd none [] => t
  | .nd a cs => .nd a (Tr.fills t cs)
def Tr.fills (t : Tr) : List Tr → List Tr
  | [] => []
  | c :: r => Tr.fill t c :: Tr.fills t r
end
def putN (p : List (Option Int × Nat)) (n : Option Int × Nat) : List (Option Int × Nat) := if n = (none, 0) then p else [n]
theorem Tr.fills_length (t : Tr) : ∀ ts : List Tr, (Tr.fills t ts).length = ts.length
  | [] => by rw [Tr.fills]
  | c :: r => by rw [Tr.fills, List.length_cons, List.length_cons, Tr.fills_length t r]
mutual
theorem Tr.pre_fill (t : Tr) : ∀ c : Tr, (Tr.fill t c).pre = c.pre.flatMap (putN t.pre)
  | .nd none [] => by
    rw [Tr.fill, Tr.pre, Tr.pres]
    simp [putN]
  | .nd none (c :: cs) => by
    rw [Tr.fill, Tr.pre, Tr.pre, Tr.pres_fill t (c :: cs), Tr.fills_length, List.flatMap_cons]
    · simp [putN]
    all_goals (intro h h2; cases h2)
  | .nd (some a) cs => by
    rw [Tr.fill, Tr.pre, Tr.pre, Tr.pres_fill t cs, Tr.fills_length, List.flatMap_cons]
    · simp [putN]
    all_goals (intro h h2; cases h)
theorem Tr.pres_fill (t : Tr) : ∀ cs : List Tr, Tr.pres (Tr.fills t cs) = (Tr.pres cs).flatMap (putN t.pre)
  | [] => by rw [Tr.fills, Tr.pres]; rfl
  | c :: r => by rw [Tr.fills, Tr.pres, Tr.pres, Tr.pre_fill t c, Tr.pres_fill t r, List.flatMap_append]
end
def F_filled : FM := fun rs Qd => ∃ c t : Tr, rs = [.val c.d, .val t.d] ∧ c.size ≤ 300 ∧ t.size ≤ 300 ∧ (∀ n ∈ c.pre, okN n) ∧ Qd (.val (Tr.fill t c).d)
theorem put_size (p : List (Option Int × Nat)) (hp : 1 ≤ p.length) : ∀ ns : List (Option Int × Nat), (ns.flatMap (putN p)).length ≤ ns.length * p.length
  | [] => Nat.zero_le _
  | n :: ns => by
    have ih := put_size p hp ns
    rw [List.flatMap_cons, List.length_append, List.length_cons, Nat.succ_mul]
    have : (putN p n).length ≤ p.length := by
      unfold putN
      by_cases c : n = (none, 0)
      · rw [if_pos c]; exact Nat.le_refl _
      · rw [if_neg c]; exact hp
    omega
theorem filled_loop {F : FM} (hF : ∀ rs Qd, F_nodes rs Qd → F rs Qd) {E : DEn} {x : Nv} {t : Tr} (ht : t.size ≤ 300) : ∀ (ns acc : List (Option Int × Nat)) (y : Option Nv), (∀ n ∈ ns, okN n) → acc.length + ns.length * 300 ≤ 100000 →
    (∀ y, E.nx [some x, some (.val t.d), some (.own ((acc ++ ns.flatMap (putN t.pre)).map ndD)), y]) →
    dLoop (dName 3) (dIfS (dB (dOp mEq (dVar 3) (dC (.tup [.non, (.int 0)]))))
  (dExtA 2 (dCall F (dCons (dKeep (dVar 1)) dNil)))
  (dApp 2 (dVar 3))) E (ns.map ndD) [some x, some (.val t.d), some (.own (acc.map ndD)), y]
  | [], acc, y, _, _, q => by
    have q := q y
    rw [List.flatMap_nil, List.append_nil] at q
    exact q
  | n :: ns, acc, y, hn, hl, q => by
    have h1 := hn n (List.mem_cons_self ..)
    rw [List.length_cons, Nat.succ_mul] at hl
    have hp : t.pre.length ≤ 300 := by rw [Tr.pre_length]; exact ht
    have hp2 : (putN t.pre n).length ≤ 300 := by
      unfold putN
      by_cases c : n = (none, 0)
      · rw [if_pos c]; exact hp
      · rw [if_neg c]; exact (by decide : 1 ≤ 300)
    have key := filled_loop hF (E := E) (x := x) ht ns (acc ++ putN t.pre n) (some (.val (ndD n))) (fun m hm => hn m (List.mem_cons_of_mem _ hm)) (by rw [List.length_append]; omega) fun y => by
      have q := q y
      rw [List.append_assoc]
      exact q
    refine ⟨⟨hole_ok n, hole_okc⟩, ?_⟩
    rw [show eqD (R.val (ndD n)).data (R.val (.tup [.non, .int 0])).data = decide (n = (none, 0)) from hole_eq n h1]
    by_cases c : n = (none, 0)
    · rw [decide_eq_true c]
      have e : putN t.pre n = t.pre := by unfold putN; rw [if_pos c]
      rw [e, List.map_append] at key
      walk_at "go"
      refine ⟨⟨_, rfl⟩, ?_⟩
      walk_at "go"
      refine hF _ _ ⟨t, rfl, by omega, ?_⟩
      refine ⟨by rw [List.length_map, List.length_map]; unfold sizeLine; omega, ?_⟩
      exact key
    · rw [decide_eq_false c]
      have e : putN t.pre n = [n] := by unfold putN; rw [if_neg c]
      rw [e, List.map_append] at key
      walk_at "go"
      refine ⟨by rw [List.length_map]; unfold sizeLine; omega, ?_⟩
      exact key
theorem filled_body {F G : FM} (hF : ∀ rs Qd, F_nodes rs Qd → F rs Qd) (hG : ∀ rs Qd, F_tree rs Qd → G rs Qd) : ∀ rs Qd, F_filled rs Qd → bodyF 4 (m_filled F G) rs Qd := by
  rintro rs Qd ⟨c, t, rfl, hc, ht, hn, q⟩
  have hl : c.pre.length ≤ 300 := by rw [Tr.pre_length]; exact hc
  unfold m_filled
  show dSeq _ _ _ [some (.val c.d), some (.val t.d), none, none]
  walk_at "go"
  refine hF _ _ ⟨c, rfl, by omega, ?_⟩
  refine filled_loop hF ht c.pre [] none hn (by rw [List.length_nil]; omega) fun y => ?_
  have e : [] ++ c.pre.flatMap (putN t.pre) = (Tr.fill t c).pre := by rw [Tr.pre_fill]; rfl
  rw [e]
  walk_at "go"
  refine hG _ _ ⟨Tr.fill t c, rfl, ?_, ?_⟩
  · rw [← Tr.pre_length, Tr.pre_fill]
    have z := put_size t.pre (by rw [Tr.pre_length]; cases t; rw [Tr.size]; omega) c.pre
    have z2 : c.pre.length * t.pre.length ≤ 300 * 300 := Nat.mul_le_mul hl (by rw [Tr.pre_length]; exact ht)
    omega
  · exact q
end G
end

section
set_option Elab.async false
set_option linter.all false
set_option maxRecDepth 100000
set_option maxHeartbeats 4000000
namespace G
open PySem PySem.Spec PyProof.Rows L2 DL
local macro_rules | `(tactic| walk_at "ok1") => `(tactic| first | exact okD_int _ | exact okD_bl _ | exact okD_non | exact okD_str (by assumption) | assumption)
local macro_rules | `(tactic| walk_at "go1") => `(tactic| ((conv => whnf); first
  | refine s_iteT ?_ | refine s_iteF ?_
  | refine ⟨⟨by walk_at "ok1", by walk_at "ok1"⟩, ?_⟩
  | refine ⟨_, rfl, ?_⟩
  | refine ⟨rfl, ?_⟩
  | refine ⟨Nat.le_of_ble_eq_true rfl, ?_⟩
  | refine ⟨_, isB_tuple (by assumption), ?_⟩
  | refine ⟨_, isB_list (by assumption), ?_⟩
  | refine ⟨_, isB_bool (by assumption), ?_⟩
  | refine ⟨_, isB_int (by assumption), ?_⟩
  | refine ⟨_, isB_str (by assumption), ?_⟩
  | refine ⟨_, by assumption, ?_⟩
  | refine s_ite1 (by assumption) ?_ | refine s_ite0 (by assumption) ?_))
local macro_rules | `(tactic| walk_at "go") => `(tactic| repeat walk_at "go1")
/-! ### the law's own count, filling, building -/
def F_count (k : Nat) : FM := fun rs Qd => ∃ t : Tr, rs = [.val t.d] ∧ t.size ≤ k ∧ t.size ≤ 1000 ∧ Qd (.val (.int t.size))
theorem count_loop {k : Nat} {F : FM} (hF : ∀ rs Qd, F_count k rs Qd → F rs Qd) {Ql : En → List D → Prop} {x : Nv} : ∀ (ts : List Tr) (acc : List D) (y : Option Nv), Tr.sizes ts ≤ k → acc.length + Tr.sizes ts ≤ 1000 →
    (∀ y, Ql [some x, y] (acc ++ (ts.map fun t => D.int (t.size : Int)))) →
    dLcL [1] (dName 1) dYes (dCall F (dCons (dKeep (dVar 1)) dNil)) (Tr.ds ts) [some x, y] acc Ql
  | [], acc, y, h, _, q => by
    have q := q y
    rw [List.map_nil, List.append_nil] at q
    exact q
  | t :: ts, acc, y, h, h2, q => by
    rw [Tr.sizes] at h h2
    have hz : 1 ≤ t.size := by cases t; rw [Tr.size]; omega
    rw [Tr.ds]
    refine ⟨fun _ => ⟨rfl, hF _ _ ⟨t, rfl, by omega, by omega, ?_⟩⟩, fun e => nomatch e⟩
    refine ⟨by unfold sizeLine; omega, ?_⟩
    have key := count_loop hF (Ql := Ql) (x := x) ts (acc ++ [.int (t.size : Int)]) none (by omega) (by rw [List.length_append, List.length_singleton]; omega) fun y => by
      have q := q y
      rw [List.append_assoc]
      exact q
    exact key
theorem sum_sizes : ∀ ts : List Tr, ((ts.map fun t => (t.size : Int))).sum = (Tr.sizes ts : Int)
  | [] => by rw [Tr.sizes]; rfl
  | t :: ts => by
    rw [List.map_cons, List.sum_cons, sum_sizes ts, Tr.sizes]
    omega
theorem count_body {k : Nat} {F : FM} (hF : ∀ rs Qd, F_count k rs Qd → F rs Qd) : ∀ rs Qd, F_count (k + 1) rs Qd → bodyF 2 (m_law_count F) rs Qd := by
  rintro rs Qd ⟨t, rfl, h, h2, q⟩
  obtain ⟨a, cs⟩ := t
  rw [Tr.size] at h h2 q
  unfold m_law_count
  rw [Tr.d]
  show dRet _ _ [some (.val _), none]
  walk_at "go"
  refine count_loop hF cs [] none (by omega) (by rw [List.length_nil]; omega) fun y => ?_
  have e : intsOf ([] ++ cs.map fun t => D.int (t.size : Int)) = some (cs.map fun t => (t.size : Int)) := by
    rw [List.nil_append, ← intsOf_map (cs.map fun t => (t.size : Int)), List.map_map]
    rfl
  refine ⟨_, e, ?_⟩
  rw [sum_sizes]
  conv => whnf
  have e2 : (1 : Int) + (Tr.sizes cs : Int) = ((Tr.sizes cs + 1 : Nat) : Int) := by omega
  rw [e2]
  exact q
/-! filling -/
def F_lfill (k : Nat) : FM := fun rs Qd => ∃ c t : Tr, rs = [.val c.d, .val t.d] ∧ c.size ≤ k ∧ c.size ≤ 1000 ∧ (∀ n ∈ c.pre, okN n) ∧ Qd (.val (Tr.fill t c).d)
theorem lfill_loop {k : Nat} {F : FM} {t : Tr} (hF : ∀ rs Qd, F_lfill k rs Qd → F rs Qd) {Ql : En → List D → Prop} {x : Nv} : ∀ (ts : List Tr) (acc : List D) (y : Option Nv), Tr.sizes ts ≤ k → acc.length + Tr.sizes ts ≤ 1000 → (∀ n ∈ Tr.pres ts, okN n) →
    (∀ y, Ql [some x, some (.val t.d), y] (acc ++ Tr.ds (Tr.fills t ts))) →
    dLcL [2] (dName 2) dYes (dCall F (dCons (dKeep (dVar 2)) (dCons (dKeep (dVar 1)) dNil))) (Tr.ds ts) [some x, some (.val t.d), y] acc Ql
  | [], acc, y, h, _, _, q => by
    have q := q y
    rw [Tr.fills, Tr.ds, List.append_nil] at q
    rw [Tr.ds]
    exact q
  | c :: ts, acc, y, h, h2, hn, q => by
    rw [Tr.sizes] at h h2
    rw [Tr.pres] at hn
    have hz : 1 ≤ c.size := by cases c; rw [Tr.size]; omega
    rw [Tr.ds]
    refine ⟨fun _ => ⟨rfl, hF _ _ ⟨c, t, rfl, by omega, by omega, fun n hm => hn n (List.mem_append_left _ hm), ?_⟩⟩, fun e => nomatch e⟩
    refine ⟨by unfold sizeLine; omega, ?_⟩
    have key := lfill_loop hF (Ql := Ql) (x := x) ts (acc ++ [(Tr.fill t c).d]) none (by omega) (by rw [List.length_append, List.length_singleton]; omega) (fun n hm => hn n (List.mem_append_right _ hm)) fun y => by
      have q := q y
      rw [Tr.fills, Tr.ds] at q
      rw [List.append_assoc]
      exact q
    exact key
theorem lfill_body {k : Nat} {F : FM} (hF : ∀ rs Qd, F_lfill k rs Qd → F rs Qd) : ∀ rs Qd, F_lfill (k + 1) rs Qd → bodyF 3 (m_law_filled F) rs Qd := by
  rintro rs Qd ⟨c, t, rfl, h, h2, hn, q⟩
  obtain ⟨a, cs⟩ := c
  rw [Tr.size] at h h2
  unfold m_law_filled
  rw [Tr.d]
  show dSeq _ _ _ [some (.val _), some (.val t.d), none]
  cases a with
  | none =>
    have e : cs = [] := by
      rcases hn (none, cs.length) (by rw [Tr.pre]; exact List.mem_cons_self ..) with e | ⟨a, _, e, _⟩
      · exact List.length_eq_zero_iff.mp (congrArg (·.2) e)
      · cases e
    subst e
    rw [Tr.fill] at q
    walk_at "go"
    exact q
  | some a =>
    rw [Tr.fill, Tr.d] at q
    · walk_at "go"
      refine lfill_loop hF cs [] none (by omega) (by rw [List.length_nil]; omega) (fun n hm => hn n (by rw [Tr.pre]; exact List.mem_cons_of_mem _ hm)) fun y => ?_
      walk_at "go"
      exact q
    · intro z
      cases z
/-! building -/
def wordsT (ns : List (Option Int × Nat)) (rest : List Str) : List D := (ns.flatMap ndW ++ rest).map D.str
def F_built (k : Nat) : FM := fun rs Qd => ∃ (t : Tr) (rest : List Str), rs = [.val (.lst (wordsT t.pre rest))] ∧ t.size ≤ k ∧ t.size ≤ 1000 ∧ (∀ n ∈ t.pre, okN n) ∧ Qd (.val (.tup [t.d, .lst (rest.map D.str)]))
theorem built_loop {k : Nat} {F : FM} (hF : ∀ rs Qd, F_built k rs Qd → F rs Qd) {E : DEn} {x w c : Option Nv} {rest : List Str} : ∀ (ts : List Tr) (i : Nat) (ch : List D) (r1 : Nv) (y z : Option Nv), (r1 = .own (wordsT (Tr.pres ts) rest) ∨ r1 = .val (.lst (wordsT (Tr.pres ts) rest))) → Tr.sizes ts ≤ k → ch.length + Tr.sizes ts ≤ 1000 → (∀ n ∈ Tr.pres ts, okN n) →
    (∀ r1 y z, (r1 = .own (rest.map D.str) ∨ r1 = .val (.lst (rest.map D.str))) → E.nx [x, some r1, w, c, some (.own (ch ++ Tr.ds ts)), y, z]) →
    dLoop (dName 5) (dSeq (dAsg (dTg 2 (dTCons (dName 6) (dTCons (dName 1) dTNil))) (dCall F (dCons (dKeep (dVar 1)) dNil))) (dApp 4 (dVar 6))) E ((List.range' i ts.length).map fun k : Nat => D.int (k : Int)) [x, some r1, w, c, some (.own ch), y, z]
  | [], i, ch, r1, y, z, hr, h, h2, hn, q => by
    have q := q r1 y z (by rw [Tr.pres] at hr; exact hr)
    rw [Tr.ds, List.append_nil] at q
    exact q
  | t :: ts, i, ch, r1, y, z, hr, h, h2, hn, q => by
    rw [Tr.sizes] at h h2
    rw [Tr.pres] at hn hr
    have hz : 1 ≤ t.size := by cases t; rw [Tr.size]; omega
    have e : wordsT (t.pre ++ Tr.pres ts) rest = wordsT t.pre ((Tr.pres ts).flatMap ndW ++ rest) := by
      unfold wordsT
      rw [List.flatMap_append, List.append_assoc]
    rw [e] at hr
    have key := built_loop hF (E := E) (x := x) (w := w) (c := c) (rest := rest) ts (i + 1) (ch ++ [t.d]) (.val (.lst (wordsT (Tr.pres ts) rest))) (some (.val (.int i))) (some (.val t.d)) (.inr rfl) (by omega) (by rw [List.length_append, List.length_singleton]; omega) (fun n hm => hn n (List.mem_append_right _ hm)) fun r1 y z hr => by
      have q := q r1 y z hr
      rw [Tr.ds] at q
      rw [List.append_assoc]
      exact q
    rcases hr with rfl | rfl
    · refine ⟨rfl, hF _ _ ⟨t, _, rfl, by omega, by omega, fun n hm => hn n (List.mem_append_left _ hm), ?_⟩⟩
      walk_at "go"
      refine ⟨by unfold sizeLine; omega, ?_⟩
      exact key
    · refine ⟨rfl, hF _ _ ⟨t, _, rfl, by omega, by omega, fun n hm => hn n (List.mem_append_left _ hm), ?_⟩⟩
      walk_at "go"
      refine ⟨by unfold sizeLine; omega, ?_⟩
      exact key
theorem str_ne {x y : Str} (h : x ≠ y) : eqD (.str x) (.str y) = false := by
  rw [eqD_str]
  exact beq_false_of_ne h
theorem built_body {k : Nat} {F : FM} (hF : ∀ rs Qd, F_built k rs Qd → F rs Qd) : ∀ rs Qd, F_built (k + 1) rs Qd → bodyF 7 (m_law_built F) rs Qd := by
  rintro rs Qd ⟨t, rest, rfl, h, h2, hn, q⟩
  obtain ⟨a, cs⟩ := t
  rw [Tr.size] at h h2
  have ho := hn (a, cs.length) (by rw [Tr.pre]; exact List.mem_cons_self ..)
  unfold m_law_built
  have hL : PyData.canLay0 (.str ("hole" : Str)) = true := by decide +kernel
  rcases ho with e | ⟨d, h3, h4, h5⟩
  · have e1 : a = none := congrArg (·.1) e
    have e2 : cs = [] := List.length_eq_zero_iff.mp (congrArg (·.2) e)
    subst e1 e2
    have e : wordsT (Tr.pre (.nd none [])) rest = .str "hole" :: rest.map D.str := by
      rw [Tr.pre, Tr.pres]
      rfl
    rw [e]
    rw [Tr.d, Tr.ds] at q
    show dSeq _ _ _ [some (.val _), none, none, none, none, none, none]
    walk_at "go"
    exact q
  · cases h4
    have e : wordsT (Tr.pre (.nd (some (d : Int)) cs)) rest = .str (digW d) :: .str (digW cs.length) :: wordsT (Tr.pres cs) rest := by
      rw [Tr.pre]
      rfl
    rw [e]
    rw [Tr.d] at q
    obtain ⟨i1, i2, i3, i4⟩ := dig_tab d (by omega)
    obtain ⟨j1, j2, j3, j4⟩ := dig_tab cs.length (by have : cs.length ≤ 2 := h5; omega)
    revert i1 i2 i3 i4 j1 j2 j3 j4
    generalize digW d = w
    generalize digW cs.length = v
    intro i1 i2 i3 i4 j1 j2 j3 j4
    show dSeq _ _ _ [some (.val _), none, none, none, none, none, none]
    walk_at "go"
    rw [show eqD (R.val (.str w)).data (R.val (.str "hole")).data = false from str_ne i3]
    walk_at "go"
    refine ⟨_, ⟨j1, by rw [j2]; decide⟩, ?_⟩
    walk_at "go"
    refine ⟨by omega, (by have : cs.length ≤ 2 := h5; omega : (cs.length : Int) < 2 ^ 62), ?_⟩
    show dLoop _ _ _ (rangeD 0 (cs.length : Int)) _
    rw [rangeD_nat']
    refine built_loop hF cs 0 [] _ none none (.inl rfl) (by omega) (by rw [List.length_nil]; omega) (fun n hm => hn n (by rw [Tr.pre]; exact List.mem_cons_of_mem _ hm)) fun r1 y z hr => ?_
    rcases hr with rfl | rfl
    · refine ⟨_, ⟨i1, by rw [i2]; decide⟩, ?_⟩
      walk_at "go"
      exact q
    · refine ⟨_, ⟨i1, by rw [i2]; decide⟩, ?_⟩
      walk_at "go"
      exact q
end G
end

section
set_option Elab.async false
set_option linter.all false
set_option maxRecDepth 100000
set_option maxHeartbeats 4000000
namespace G
open PySem PySem.Spec PyProof.Rows L2 DL
local macro_rules | `(tactic| walk_at "ok1") => `(tactic| first | exact okD_int _ | exact okD_bl _ | exact okD_non | exact okD_str (by assumption) | assumption)
local macro_rules | `(tactic| walk_at "go1") => `(tactic| ((conv => whnf); first
  | refine s_iteT ?_ | refine s_iteF ?_
  | refine ⟨⟨by walk_at "ok1", by walk_at "ok1"⟩, ?_⟩
  | refine ⟨_, rfl, ?_⟩
  | refine ⟨rfl, ?_⟩
  | refine ⟨_, isB_tuple (by assumption), ?_⟩
  | refine ⟨_, isB_list (by assumption), ?_⟩
  | refine ⟨_, isB_bool (by assumption), ?_⟩
  | refine ⟨_, isB_int (by assumption), ?_⟩
  | refine ⟨_, isB_str (by assumption), ?_⟩
  | refine ⟨_, by assumption, ?_⟩
  | refine s_ite1 (by assumption) ?_ | refine s_ite0 (by assumption) ?_))
local macro_rules | `(tactic| walk_at "go") => `(tactic| repeat walk_at "go1")

theorem same_loop {n : Nat} {F : FM} (hF : ∀ rs Qd, F_same n rs Qd → F rs Qd) {E : DEn} {x y : D} {la ld : List D} (hx : SqD x la) (hy : SqD y ld) (dx : isDat x = true) (tx : txtOk x) (dy : isDat y = true) (ty : txtOk y) (hl : la.length = ld.length) (hd : depDs ld < n)
    (hrt : ∀ env, sameDs la ld = false → E.rt env (.val (.bl false))) :
    ∀ (r k : Nat) (z : Option Nv), k + r = ld.length → (∀ (i : Nat) (u v : D), i < k → la[i]? = some u → ld[i]? = some v → sameD u v = true) →
      ((∀ (i : Nat) (u v : D), la[i]? = some u → ld[i]? = some v → sameD u v = true) → ∀ z, E.nx [some (.val x), some (.val y), z]) →
      dLoop (dName 2) (dIfS (dNot (dTru (dCall F (dCons (dKeep (dOp mIx (dVar 0) (dVar 2))) (dCons (dKeep (dOp mIx (dVar 1) (dVar 2))) dNil))))) (dRet (dC (.bl false))) dNext) E ((List.range' k r).map fun k : Nat => D.int (k : Int)) [some (.val x), some (.val y), z]
  | 0, k, z, hk, hs, hn => hn (fun i u v e1 e2 => hs i u v (by
      rcases Nat.lt_or_ge i ld.length with q | q
      · omega
      · rw [List.getElem?_eq_none q] at e2
        cases e2) e1 e2) z
  | r + 1, k, z, hk, hs, hn => by
    have h1 : k < la.length := by omega
    have h2 : k < ld.length := by omega
    have ea := List.getElem?_eq_getElem h1
    have ed := List.getElem?_eq_getElem h2
    revert ea ed
    generalize la[k] = u
    generalize ld[k] = v
    intro ea ed
    obtain ⟨da, ta⟩ := mIx_same hx dx tx
    obtain ⟨dd, td⟩ := mIx_same hy dy ty
    have hdv : depD v < n := Nat.lt_of_le_of_lt (depDs_get ed) hd
    refine hx.ix ea (hy.ix ed ⟨rfl, hF _ _ ⟨u, v, rfl, hdv, isDats_get da ea, txtOks_get ta ea, isDats_get dd ed, txtOks_get td ed, ?_⟩⟩)
    cases q : sameD u v with
    | false =>
      walk_at "go"
      refine hrt _ ?_
      cases q2 : sameDs la ld with
      | false => rfl
      | true => exact absurd ((sameDs_iff hl).1 q2 k u v ea ed) (by rw [q]; exact Bool.false_ne_true)
    | true =>
      walk_at "go"
      refine same_loop hF hx hy dx tx dy ty hl hd hrt r (k + 1) _ (by omega) (fun i u' v' hi e1 e2 => ?_) hn
      rcases Nat.lt_or_ge i k with q' | q'
      · exact hs i u' v' q' e1 e2
      · have : i = k := by omega
        subst this
        rw [ea] at e1
        rw [ed] at e2
        cases e1
        cases e2
        exact q
theorem same_body {n : Nat} {F : FM} (hF : ∀ rs Qd, F_same n rs Qd → F rs Qd) : ∀ rs Qd, F_same (n + 1) rs Qd → bodyF 3 (m_law_same F) rs Qd := by
  rintro rs Qd ⟨a, d, rfl, hd, da, ta, dd, td, q⟩
  unfold m_law_same
  show dSeq _ _ _ [some (.val a), some (.val d), none]
  cases d with
  | int i => cases a <;> first | exact absurd da Bool.false_ne_true | (walk_at "go"; exact q)
  | bl i => cases a <;> first | exact absurd da Bool.false_ne_true | (walk_at "go"; exact q)
  | str i => cases a <;> first | exact absurd da Bool.false_ne_true | (walk_at "go"; exact q) | (have ta2 : PyData.canLay0 _ = true := ta; have td2 : PyData.canLay0 _ = true := td; walk_at "go"; rw [eqD_str]; exact q)
  | non => cases a <;> first | exact absurd da Bool.false_ne_true | (walk_at "go"; exact q)
  | ins => exact absurd dd Bool.false_ne_true
  | any => exact absurd dd Bool.false_ne_true
  | err => exact absurd dd Bool.false_ne_true
  | scr => exact absurd dd Bool.false_ne_true
  | lst l =>
    have hd' : depDs l < n := by rw [depD] at hd; omega
    have h62 : (l.length : Int) < 2 ^ 62 := by have := td.1; unfold sizeLine at this; omega
    cases a <;> first
      | exact absurd da Bool.false_ne_true
      | (walk_at "go"; exact q)
      | (rename_i la
         have q' : Qd (R.val (D.bl (sameDs la l))) := q
         walk_at "go"
         refine dIte_of (fun e => ?_) (fun e => ?_)
         · walk_at "go"
           rw [sameDs_false (neLen.1 e)] at q'
           exact q'
         · have e := neLen'.1 e
           conv => whnf
           refine ⟨by omega, h62, ?_⟩
           show dLoop _ _ _ _ _
           rw [rangeD_nat']
           refine same_loop hF (.inl rfl) (.inl rfl) da ta dd td e hd' (fun env h => ?_) _ 0 none (by omega) (fun i u v hi => absurd hi (by omega)) (fun h z => ?_)
           · rw [h] at q'
             exact q'
           · walk_at "go"
             rw [(sameDs_iff e).2 h] at q'
             exact q')
  | tup l =>
    have hd' : depDs l < n := by rw [depD] at hd; omega
    have h62 : (l.length : Int) < 2 ^ 62 := by have := td.1; unfold sizeLine at this; omega
    cases a <;> first
      | exact absurd da Bool.false_ne_true
      | (walk_at "go"; exact q)
      | (rename_i la
         have q' : Qd (R.val (D.bl (sameDs la l))) := q
         walk_at "go"
         refine dIte_of (fun e => ?_) (fun e => ?_)
         · walk_at "go"
           rw [sameDs_false (neLen.1 e)] at q'
           exact q'
         · have e := neLen'.1 e
           conv => whnf
           refine ⟨by omega, h62, ?_⟩
           show dLoop _ _ _ _ _
           rw [rangeD_nat']
           refine same_loop hF (.inr rfl) (.inr rfl) da ta dd td e hd' (fun env h => ?_) _ 0 none (by omega) (fun i u v hi => absurd hi (by omega)) (fun h z => ?_)
           · rw [h] at q'
             exact q'
           · walk_at "go"
             rw [(sameDs_iff e).2 h] at q'
             exact q')
end G
end

section
set_option Elab.async false
set_option linter.all false
set_option maxRecDepth 100000
set_option maxHeartbeats 4000000
namespace L2
theorem FnOk.none {P : PySem.Program} {w : PySem.World} {K : PySem.W.Frag} {mg : PySem.Str → Option PySem.Value} {base : PySem.Heap} {CX : CXT} {k : Nat} {f : PySem.Addr} {fd : PySem.FuncData} {ps : List PySem.Str} {sp : Sp} (h : ∀ vs H Q E, ¬ sp vs H Q E) : FnOk P w K mg base CX k f fd ps sp :=
  ⟨fun vs H Q E z => (h _ _ _ _ z).elim, fun A outer s H args us vs Q E hr he hb hv hs => (h _ _ _ _ hs).elim⟩
end L2
namespace G
open PySem PySem.Spec PyProof.Rows L2 DL
section
variable {P : Program} {w : World} {K : PySem.W.Frag} {mg : Str → Option Value} {base : Heap} {a : Ad}
theorem noF {n : Nat} {F : FM} (h : ∀ rs Qd, ¬ F rs Qd) : ∀ vs H Q E, ¬ spF K n F vs H Q E := fun vs H Q E ⟨S, pa, rs, Qd, h1, h2, h3, h4, h5, h6⟩ => h _ _ h5
theorem nodes_ok (T : Tx K mg a) : FnOk P w K mg base CX0 1 a.f_nodes_of a.d_nodes_of ["tree"] (spF K 1 F_nodes) := (b_nodes_of T (k := 0)).imp (spF.imp nodes_body)
theorem tree_ok (T : Tx K mg a) : FnOk P w K mg base CX0 1 a.f_tree_of a.d_tree_of ["nodes"] (spF K 1 F_tree) := (b_tree_of T (k := 0)).imp (spF.imp tree_body)
theorem people_ok (T : Tx K mg a) : FnOk P w K mg base CX0 2 a.f_people a.d_people ["tree"] (spF K 1 F_people) := (b_people T (nodes_ok T)).imp (spF.imp (people_body fun _ _ h => h))
theorem row_ok (T : Tx K mg a) : FnOk P w K mg base CX0 1 a.f_row_tree a.d_row_tree ["row"] (spF K 1 F_row) := (b_row_tree T (k := 0)).imp (spF.imp row_body)
theorem text_ok (T : Tx K mg a) : FnOk P w K mg base CX0 2 a.f_tree_text a.d_tree_text ["tree"] (spF K 1 F_text) := (b_tree_text T (nodes_ok T)).imp (spF.imp (text_body fun _ _ h => h))
theorem filled_ok (T : Tx K mg a) : FnOk P w K mg base CX0 2 a.f_filled a.d_filled ["context", "tree"] (spF K 2 F_filled) := (b_filled T (nodes_ok T) (tree_ok T)).imp (spF.imp (filled_body (fun _ _ h => h) fun _ _ h => h))
theorem count_ok (T : Tx K mg a) : ∀ k, FnOk P w K mg base CX0 k a.f_law_count a.d_law_count ["tree"] (spF K 1 (F_count k))
  | 0 => .none (noF fun rs Qd ⟨t, _, h, _⟩ => by cases t; rw [Tr.size] at h; omega)
  | k + 1 => (b_law_count T (count_ok T k)).imp (spF.imp (count_body fun _ _ h => h))
theorem lfill_ok (T : Tx K mg a) : ∀ k, FnOk P w K mg base CX0 k a.f_law_filled a.d_law_filled ["context", "tree"] (spF K 2 (F_lfill k))
  | 0 => .none (noF fun rs Qd ⟨c, t, _, h, _⟩ => by cases c; rw [Tr.size] at h; omega)
  | k + 1 => (b_law_filled T (lfill_ok T k)).imp (spF.imp (lfill_body fun _ _ h => h))
theorem built_ok (T : Tx K mg a) : ∀ k, FnOk P w K mg base CX0 k a.f_law_built a.d_law_built ["words"] (spF K 1 (F_built k))
  | 0 => .none (noF fun rs Qd ⟨t, rest, _, h, _⟩ => by cases t; rw [Tr.size] at h; omega)
  | k + 1 => (b_law_built T (built_ok T k)).imp (spF.imp (built_body fun _ _ h => h))
theorem same_ok (T : Tx K mg a) : ∀ k, FnOk P w K mg base CX0 k a.f_law_same a.d_law_same ["actual", "due"] (spF K 2 (F_same k))
  | 0 => .none (noF fun rs Qd ⟨a, d, _, h, _⟩ => by omega)
  | k + 1 => (b_law_same T (same_ok T k)).imp (spF.imp (same_body fun _ _ h => h))
end
end G
end

section
set_option Elab.async false
set_option linter.all false
set_option maxRecDepth 100000
set_option maxHeartbeats 4000000
namespace G
open PySem PySem.Spec PyProof.Rows L2 DL
local macro_rules | `(tactic| walk_at "ok1") => `(tactic| first | exact okD_int _ | exact okD_bl _ | exact okD_non | exact okD_str (by assumption) | assumption)
local macro_rules | `(tactic| walk_at "go1") => `(tactic| ((conv => whnf); first
  | refine s_iteT ?_ | refine s_iteF ?_
  | refine ⟨⟨by walk_at "ok1", by walk_at "ok1"⟩, ?_⟩
  | refine ⟨_, rfl, ?_⟩
  | refine ⟨rfl, ?_⟩
  | refine ⟨Nat.le_of_ble_eq_true rfl, ?_⟩
  | refine ⟨_, isB_tuple (by assumption), ?_⟩
  | refine ⟨_, isB_list (by assumption), ?_⟩
  | refine ⟨_, isB_bool (by assumption), ?_⟩
  | refine ⟨_, isB_int (by assumption), ?_⟩
  | refine ⟨_, isB_str (by assumption), ?_⟩
  | refine ⟨_, by assumption, ?_⟩
  | refine s_ite1 (by assumption) ?_ | refine s_ite0 (by assumption) ?_))
local macro_rules | `(tactic| walk_at "go") => `(tactic| repeat walk_at "go1")
/-! ### digits -/
def digitOf (w : Str) : Option Nat := match w.cps.toList with
  | [c] => if 48 ≤ c ∧ c ≤ 57 then some (c - 48) else none
  | _ => none
theorem dig_cps : ∀ a : Nat, a < 10 → digW a = ⟨#[48 + a]⟩ := by decide +kernel
theorem digitOf_spec {w : Str} {d : Nat} (h : digitOf w = some d) : d ≤ 9 ∧ w = digW d := by
  obtain ⟨⟨l⟩⟩ := w
  unfold digitOf at h
  split at h
  · rename_i c e
    have e' : l = [c] := e
    subst e'
    split at h
    · cases h
      refine ⟨by omega, ?_⟩
      have e2 : 48 + (c - 48) = c := by omega
      rw [dig_cps _ (by omega), e2]
    · cases h
  · cases h
def digitLe (w : Str) (m : Int) : Bool := match digitOf w with
  | some d => decide ((d : Int) ≤ m)
  | none => false
def F_digit : FM := fun rs Qd => ∃ (w : Str) (m : Int), rs = [.val (.str w), .val (.int m)] ∧ w.length ≤ sizeLine ∧ Qd (.val (.bl (digitLe w m)))
theorem str_len (w : Str) : w.length = w.cps.toList.length := by
  obtain ⟨⟨l⟩⟩ := w
  rfl
theorem le0 (c : Nat) : decide ([c] < [48]) = decide (c < 48) := by
  by_cases h : c < 48
  · rw [decide_eq_true h]
    exact decide_eq_true (List.Lex.rel h)
  · rw [decide_eq_false h]
    refine decide_eq_false fun z => ?_
    cases z with
    | rel z => exact h z
    | cons z => cases z
theorem le9 (c : Nat) : decide ([57] < [c]) = decide (57 < c) := by
  by_cases h : 57 < c
  · rw [decide_eq_true h]
    exact decide_eq_true (List.Lex.rel h)
  · rw [decide_eq_false h]
    refine decide_eq_false fun z => ?_
    cases z with
    | rel z => exact h z
    | cons z => cases z
theorem digit_body : ∀ rs Qd, F_digit rs Qd → bodyF 2 m_law_digit rs Qd := by
  rintro rs Qd ⟨w, m, rfl, hw, q⟩
  unfold m_law_digit
  show dRet _ _ [some (.val (.str w)), some (.val (.int m))]
  unfold digitLe at q
  refine ⟨hw, ?_⟩
  walk_at "go"
  show dIte (eqD (.int (w.length : Int)) (.int 1)) _ _
  rw [eqD_int]
  refine dIte_of (fun e => ?_) fun e => ?_
  · have e1 : w.length = 1 := by have := eq_of_beq e; omega
    rw [str_len] at e1
    obtain ⟨⟨l⟩⟩ := w
    obtain ⟨c, rfl⟩ : ∃ c, l = [c] := List.length_eq_one_iff.mp e1
    have e2 : digitOf ⟨#[c]⟩ = if 48 ≤ c ∧ c ≤ 57 then some (c - 48) else none := rfl
    rw [e2] at q
    have e3 : (("0" : Str)).cps.toList = [48] := by decide +kernel
    have e4 : (("9" : Str)).cps.toList = [57] := by decide +kernel
    have e5 : (⟨#[c]⟩ : Str).cps.toList = [c] := rfl
    have f1 : (!decide ((⟨#[c]⟩ : Str).cps.toList < (("0" : Str)).cps.toList)) = decide (48 ≤ c) := by
      rw [e3, e5, le0, ← decide_not]
      congr 1
      exact propext Nat.not_lt
    have f2 : (!decide ((("9" : Str)).cps.toList < (⟨#[c]⟩ : Str).cps.toList)) = decide (c ≤ 57) := by
      rw [e4, e5, le9, ← decide_not]
      congr 1
      exact propext Nat.not_lt
    show dIte (!decide ((⟨#[c]⟩ : Str).cps.toList < (("0" : Str)).cps.toList)) _ _
    rw [f1]
    refine dIte_of (fun h1 => ?_) fun h1 => ?_
    · have h1 := of_decide_eq_true h1
      show dIte (!decide ((("9" : Str)).cps.toList < (⟨#[c]⟩ : Str).cps.toList)) _ _
      rw [f2]
      refine dIte_of (fun h2 => ?_) fun h2 => ?_
      · have h2 := of_decide_eq_true h2
        rw [if_pos ⟨h1, h2⟩] at q
        have e6 : (⟨#[c]⟩ : Str) = digW (c - 48) := by
          have e7 : 48 + (c - 48) = c := by omega
          rw [dig_cps _ (by omega), e7]
        have k := (dig_tab (c - 48) (by omega)).1
        rw [← e6] at k
        refine ⟨_, ⟨k, by show 1 ≤ 640; decide⟩, ?_⟩
        exact q
      · have h2 := of_decide_eq_false h2
        rw [if_neg (fun z => h2 z.2)] at q
        exact q
    · have h1 := of_decide_eq_false h1
      rw [if_neg (fun z => h1 z.1)] at q
      exact s_iteF q
  · have e1 : w.length ≠ 1 := fun z => by
      rw [z] at e
      exact absurd e (by decide)
    have e2 : digitOf w = none := by
      unfold digitOf
      split
      · rename_i c h
        rw [str_len, h] at e1
        exact absurd rfl e1
      · rfl
    rw [e2] at q
    exact q
/-! ### where the words are no longer the beginning of a text -/
def wrongF : Nat → List Str → Int → Int → Bool → Bool → Option Nat
  | at_, [], due, _, _, counting => if due > 0 ∨ counting = true then some at_ else none
  | at_, w :: ws, due, nodes, holes, counting =>
    if due = 0 ∧ counting = false then some at_
    else if counting = true then
      match digitOf w with
      | some d => if (d : Int) ≤ (if 200 - nodes - due < 2 then 200 - nodes - due else 2) then wrongF (at_ + 1) ws (due + d) nodes holes false else some at_
      | none => some at_
    else if w = "hole" ∧ holes = false then wrongF (at_ + 1) ws (due - 1) (nodes + 1) true false
    else match digitOf w with
      | some _ => wrongF (at_ + 1) ws (due - 1) (nodes + 1) holes true
      | none => some at_
def optN : Option Nat → D
  | none => .non
  | some i => .int i
def F_wrong : FM := fun rs Qd => ∃ ws : List Str, rs = [.val (.lst (ws.map D.str))] ∧ ws.length ≤ 100000 ∧ (∀ w ∈ ws, w.length ≤ sizeLine ∧ PyData.canLay0 (.str w) = true) ∧ Qd (.val (optN (wrongF 0 ws 1 0 false false)))
abbrev wrong_bd (F : FM) : DSM := (dSeq (dIfS (dAnd (dB (dOp mEq (dVar 1) (dC (.int 0)))) (dNot (dTru (dVar 4))))
  (dRet (dVar 5))
  dNext)
  (dIfS (dTru (dVar 4))
  (dSeq (dIfS (dNot (dTru (dCall F (dCons (dKeep (dOp mIx (dVar 0) (dVar 5))) (dCons (dKeep (dCB mMin2 (dCons (dC (.int 2)) (dCons (dOp mSub (dOp mSub (dC (.int 200)) (dVar 2)) (dVar 1)) dNil)))) dNil)))))
  (dRet (dVar 5))
  dNext)
  (dSeq (dSet 1 (dOp mAdd (dVar 1) (dCB mInt (dCons (dOp mIx (dVar 0) (dVar 5)) dNil))))
  (dSet 4 (dC (.bl false)))))
  (dIfS (dAnd (dB (dOp mEq (dOp mIx (dVar 0) (dVar 5)) (dC (.str "hole")))) (dB (dOp mEq (dVar 3) (dC (.int 0)))))
  (dSeq (dSet 3 (dC (.int 1)))
  (dSeq (dSet 2 (dOp mAdd (dVar 2) (dC (.int 1))))
  (dSet 1 (dOp mSub (dVar 1) (dC (.int 1))))))
  (dIfS (dTru (dCall F (dCons (dKeep (dOp mIx (dVar 0) (dVar 5))) (dCons (dKeep (dC (.int 9))) dNil))))
  (dSeq (dSet 4 (dC (.bl true)))
  (dSeq (dSet 2 (dOp mAdd (dVar 2) (dC (.int 1))))
  (dSet 1 (dOp mSub (dVar 1) (dC (.int 1))))))
  (dRet (dVar 5))))))
theorem wrong_loop {F : FM} (hF : ∀ rs Qd, F_digit rs Qd → F rs Qd) {E : DEn} {all : List Str} (hw : ∀ w ∈ all, w.length ≤ sizeLine ∧ PyData.canLay0 (.str w) = true) :
    ∀ (ws : List Str) (i : Nat) (due nodes : Int) (holes counting : Bool) (y : Option Nv), ws = all.drop i → i + ws.length = all.length →
    (∀ n env, wrongF i ws due nodes holes counting = some n → E.rt env (.val (.int n))) →
    (∀ due' nodes' holes' counting' y, wrongF i ws due nodes holes counting = wrongF all.length [] due' nodes' holes' counting' → E.nx [some (.val (.lst (all.map D.str))), some (.val (.int due')), some (.val (.int nodes')), some (.val (.int (if holes' = true then 1 else 0))), some (.val (.bl counting')), y]) →
    dLoop (dName 5) (wrong_bd F) E ((List.range' i ws.length).map fun k : Nat => D.int (k : Int)) [some (.val (.lst (all.map D.str))), some (.val (.int due)), some (.val (.int nodes)), some (.val (.int (if holes = true then 1 else 0))), some (.val (.bl counting)), y]
  | [], i, due, nodes, holes, counting, y, e, hl, hr, q => q due nodes holes counting y (by rw [← hl]; rfl)
  | w :: ws, i, due, nodes, holes, counting, y, e, hl, hr, q => by
    have hi : all[i]? = some w := by
      have := congrArg (·[0]?) e
      simpa using this.symm
    have hi2 : (all.map D.str)[i]? = some (.str w) := by rw [List.getElem?_map, hi]; rfl
    have hat := DL.atI_nat hi2
    obtain ⟨w1, w2⟩ := hw w (List.mem_of_getElem? hi)
    have hL : PyData.canLay0 (.str ("hole" : Str)) = true := by decide +kernel
    have e2 : ws = all.drop (i + 1) := by
      have := congrArg List.tail e
      rw [List.tail_drop] at this
      exact this
    rw [List.length_cons] at hl
    have key := fun due nodes holes counting y h1 h2 => wrong_loop hF (E := E) hw ws (i + 1) due nodes holes counting y e2 (by omega) h1 h2
    rw [wrongF] at hr q
    cases counting with
    | true =>
      rw [if_neg (fun z => nomatch z.2), if_pos rfl] at hr q
      rcases Bool.eq_false_or_eq_true (eqD (.int due) (.int 0)) with hd | hd
      all_goals
        walk_at "go"
        refine hF _ _ ⟨w, _, rfl, w1, ?_⟩
        cases hw3 : digitOf w with
        | none =>
          rw [hw3] at hr q
          have hn : (!digitLe w (if 200 - nodes - due < 2 then 200 - nodes - due else 2)) = true := by unfold digitLe; rw [hw3]; rfl
          walk_at "go"
          exact hr i _ rfl
        | some d =>
          rw [hw3] at hr q
          obtain ⟨d1, d2⟩ := digitOf_spec hw3
          by_cases hle : (d : Int) ≤ (if 200 - nodes - due < 2 then 200 - nodes - due else 2)
          · have hn : (!digitLe w (if 200 - nodes - due < 2 then 200 - nodes - due else 2)) = false := by unfold digitLe; rw [hw3]; simp [hle]
            have hr := hr
            simp only [if_pos hle] at hr q
            walk_at "go"
            have hdt := dig_tab d (by omega)
            rw [← d2] at hdt
            refine ⟨_, ⟨hdt.1, by rw [hdt.2.1]; decide⟩, ?_⟩
            walk_at "go"
            exact key (due + d) nodes holes false _ hr q
          · have hn : (!digitLe w (if 200 - nodes - due < 2 then 200 - nodes - due else 2)) = true := by unfold digitLe; rw [hw3]; simp [hle]
            simp only [if_neg hle] at hr q
            walk_at "go"
            exact hr i _ rfl
    | false =>
      by_cases h0 : due = 0
      · have hd : eqD (.int due) (.int 0) = true := by rw [eqD_int, h0]; rfl
        rw [if_pos ⟨h0, rfl⟩] at hr
        walk_at "go"
        exact hr i _ rfl
      · have hd : eqD (.int due) (.int 0) = false := by rw [eqD_int]; exact beq_false_of_ne h0
        rw [if_neg (fun z => h0 z.1), if_neg (fun z => nomatch z)] at hr q
        by_cases hh : w = "hole" ∧ holes = false
        · rw [if_pos hh] at hr q
          obtain ⟨hh1, hh2⟩ := hh
          have he : eqD (.str w) (.str "hole") = true := by rw [eqD_str, hh1]; exact beq_self_eq_true _
          subst hh2
          walk_at "go"
          exact key (due - 1) (nodes + 1) true false _ hr q
        · rw [if_neg hh] at hr q
          have hc : eqD (.str w) (.str "hole") = false ∨ (eqD (.str w) (.str "hole") = true ∧ holes = true) := by
            cases he : eqD (.str w) (.str "hole") with
            | false => exact .inl rfl
            | true =>
              rw [eqD_str] at he
              refine .inr ⟨rfl, ?_⟩
              cases holes with
              | true => rfl
              | false => exact absurd ⟨eq_of_beq he, rfl⟩ hh
          rcases hc with he | ⟨he, rfl⟩
          all_goals
            walk_at "go"
            refine hF _ _ ⟨w, _, rfl, w1, ?_⟩
            cases hw3 : digitOf w with
            | none =>
              rw [hw3] at hr q
              have hn : digitLe w 9 = false := by unfold digitLe; rw [hw3]
              walk_at "go"
              exact hr i _ rfl
            | some d =>
              rw [hw3] at hr q
              obtain ⟨d1, d2⟩ := digitOf_spec hw3
              have hn : digitLe w 9 = true := by unfold digitLe; rw [hw3]; exact decide_eq_true (by omega)
              walk_at "go"
              exact key (due - 1) (nodes + 1) _ true _ hr q
theorem wrong_body {F : FM} (hF : ∀ rs Qd, F_digit rs Qd → F rs Qd) : ∀ rs Qd, F_wrong rs Qd → bodyF 6 (m_law_wrong F) rs Qd := by
  rintro rs Qd ⟨ws, rfl, hl, hw, q⟩
  unfold m_law_wrong
  show dSeq _ _ _ [some (.val (.lst (ws.map D.str))), none, none, none, none, none]
  walk_at "go"
  refine ⟨by omega, (by rw [List.length_map]; omega : ((ws.map D.str).length : Int) < 2 ^ 62), ?_⟩
  show dLoop _ _ _ (rangeD 0 ((ws.map D.str).length : Int)) _
  rw [rangeD_nat', List.length_map]
  refine wrong_loop hF hw ws 0 1 0 false false none rfl (Nat.zero_add _) (fun n env e => ?_) fun due nodes holes counting y e => ?_
  · rw [e] at q
    exact q
  · rw [e, wrongF] at q
    have hlen : ((ws.map D.str).length : Int) = (ws.length : Int) := by rw [List.length_map]
    by_cases h : due > 0
    · rw [if_pos (.inl h)] at q
      have hd : decide (0 < due) = true := decide_eq_true h
      walk_at "go"
      conv => whnf
      rw [List.length_map]
      exact q
    · have hd : decide (0 < due) = false := decide_eq_false h
      cases counting with
      | true =>
        rw [if_pos (.inr rfl)] at q
        walk_at "go"
        conv => whnf
        rw [List.length_map]
        exact q
      | false =>
        rw [if_neg (fun z => z.elim h fun z => nomatch z)] at q
        walk_at "go"
        exact q
end G
end

section
set_option Elab.async false
set_option linter.all false
set_option maxRecDepth 100000
set_option maxHeartbeats 4000000
namespace G
open PySem PySem.Spec PyProof.Rows L2 DL
local macro_rules | `(tactic| walk_at "ok1") => `(tactic| first | exact okD_int _ | exact okD_bl _ | exact okD_non | exact okD_str (by assumption) | assumption)
local macro_rules | `(tactic| walk_at "go1") => `(tactic| ((conv => whnf); first
  | refine s_iteT ?_ | refine s_iteF ?_
  | refine ⟨⟨by walk_at "ok1", by walk_at "ok1"⟩, ?_⟩
  | refine ⟨_, rfl, ?_⟩
  | refine ⟨rfl, ?_⟩
  | refine ⟨Nat.le_of_ble_eq_true rfl, ?_⟩
  | refine ⟨_, isB_tuple (by assumption), ?_⟩
  | refine ⟨_, isB_list (by assumption), ?_⟩
  | refine ⟨_, isB_bool (by assumption), ?_⟩
  | refine ⟨_, isB_int (by assumption), ?_⟩
  | refine ⟨_, isB_str (by assumption), ?_⟩
  | refine ⟨_, by assumption, ?_⟩
  | refine s_ite1 (by assumption) ?_ | refine s_ite0 (by assumption) ?_))
local macro_rules | `(tactic| walk_at "go") => `(tactic| repeat walk_at "go1")
/-! ### drawn words -/
def okW (L : Nat) (w : Str) : Prop := w.length ≤ L ∧ ∀ c ∈ w.cps.toList, c < 128
def okWs (n L : Nat) (ws : List Str) : Prop := ws.length ≤ n ∧ ∀ w ∈ ws, okW L w
theorem okWs.app {n m L : Nat} {ws vs : List Str} (h : okWs n L ws) (k : okWs m L vs) : okWs (n + m) L (ws ++ vs) := ⟨by rw [List.length_append]; exact Nat.add_le_add h.1 k.1, fun w hw => (List.mem_append.mp hw).elim (h.2 w) (k.2 w)⟩
theorem okWs.mono {n m L L' : Nat} {ws : List Str} (h : okWs n L ws) (h1 : n ≤ m) (h2 : L ≤ L') : okWs m L' ws := ⟨Nat.le_trans h.1 h1, fun w hw => ⟨Nat.le_trans (h.2 w hw).1 h2, (h.2 w hw).2⟩⟩
theorem okWs.take {n L : Nat} {ws : List Str} (h : okWs n L ws) (k : Nat) : okWs n L (ws.take k) := ⟨Nat.le_trans (by rw [List.length_take]; exact Nat.min_le_right ..) h.1, fun w hw => h.2 w (List.mem_of_mem_take hw)⟩
theorem okWs.drop {n L : Nat} {ws : List Str} (h : okWs n L ws) (k : Nat) : okWs n L (ws.drop k) := ⟨Nat.le_trans (by rw [List.length_drop]; exact Nat.sub_le ..) h.1, fun w hw => h.2 w (List.mem_of_mem_drop hw)⟩
theorem okW_dig : ∀ a : Nat, a < 10 → (digW a).length ≤ 1 ∧ ∀ c ∈ (digW a).cps.toList, c < 128 := by decide +kernel
theorem okW_lits : (∀ w ∈ (["1", "3", "2", "0", "4", "5"] : List Str), w.length ≤ 1 ∧ ∀ c ∈ w.cps.toList, c < 128) := by decide +kernel
theorem cut_strs (ws : List Str) (lo hi : Option Int) : ∃ vs : List Str, cutD (ws.map D.str) lo hi = vs.map D.str ∧ ∀ n L, okWs n L ws → okWs n L vs := by
  refine ⟨(ws.drop (HT.sIx (ws.map D.str).length 0 lo)).take (HT.sIx (ws.map D.str).length (ws.map D.str).length hi - HT.sIx (ws.map D.str).length 0 lo), ?_, fun n L h => (h.drop _).take _⟩
  unfold DL.cutD
  rw [List.map_take, List.map_drop]
def F_long : FM := fun rs Qd => rs = [.pool] ∧ ∀ ws, okWs 1000 1 ws → Qd (.own (ws.map D.str))
theorem long_loop {F : FM} (hF : ∀ rs Qd, F_draw rs Qd → F rs Qd) {E : DEn} {x c : Option Nv} (hx : x = some .pool) {N : Nat} (hN : N ≤ 1000) : ∀ (rg : List D) (ws : List Str) (n : Nat) (y : Option Nv), okWs n 1 ws → n + 2 * rg.length ≤ N →
    (∀ ws y, okWs N 1 ws → E.nx [x, c, some (.own (ws.map D.str)), y]) →
    dLoop (dName 3) (dSet 2 (dOp mAdd (dVar 2) (dLst (dCons (dKeep (dCB mStr (dCons (dCall F (dCons (dKeep (dVar 0)) (dCons (dKeep (dC (.int 10))) dNil))) dNil))) (dCons (dKeep (dC (.str "1"))) dNil))))) E rg [x, c, some (.own (ws.map D.str)), y]
  | [], ws, n, y, h, h2, q => q ws y (h.mono (by rw [List.length_nil] at h2; omega) (Nat.le_refl _))
  | d :: rg, ws, n, y, h, h2, q => by
    subst hx
    rw [List.length_cons] at h2
    walk_at "go"
    refine hF _ _ ⟨10, rfl, ⟨by decide, by decide +kernel⟩, fun r h3 h4 => ?_⟩
    obtain ⟨k, rfl⟩ : ∃ k : Nat, r = (k : Int) := ⟨r.toNat, by omega⟩
    walk_at "go"
    refine ⟨dig_log (by omega), ?_⟩
    walk_at "go"
    have hl := h.1
    refine ⟨by rw [List.length_map]; show ws.length + 2 ≤ _; unfold sizeLine; omega, ?_⟩
    have key := long_loop hF (E := E) (x := some .pool) (c := c) rfl hN rg (ws ++ [digW k, "1"]) (n + 2) (some (.val d)) (h.app ⟨Nat.le_refl _, fun w hw => by
      rcases List.mem_cons.mp hw with rfl | hw
      · exact okW_dig k (by omega)
      · rcases List.mem_cons.mp hw with rfl | hw
        · exact okW_lits "1" (by decide +kernel)
        · cases hw⟩) (by omega) q
    rw [List.map_append] at key
    exact key
theorem long_body {F : FM} (hF : ∀ rs Qd, F_draw rs Qd → F rs Qd) : ∀ rs Qd, F_long rs Qd → bodyF 4 (m_law_long_words F) rs Qd := by
  rintro rs Qd ⟨rfl, q⟩
  unfold m_law_long_words
  show dSeq _ _ _ [some .pool, none, none, none]
  walk_at "go"
  refine hF _ _ ⟨4, rfl, ⟨by decide, by decide +kernel⟩, fun r h3 h4 => ?_⟩
  walk_at "go"
  refine ⟨by omega, by omega, ?_⟩
  have hlen : (rangeD 0 (199 + r - 1)).length ≤ 201 := by
    unfold rangeD
    rw [List.length_map, List.length_range]
    omega
  refine long_loop hF rfl (N := 402) (by decide) (rangeD 0 (199 + r - 1)) [] 0 none ⟨Nat.le_refl _, fun w hw => by cases hw⟩ (by omega) fun ws y hw => ?_
  walk_at "go"
  refine hF _ _ ⟨2, rfl, ⟨by decide, by decide +kernel⟩, fun r2 h5 h6 => ?_⟩
  have hw1 := hw.1
  have fin : ∀ vs : List Str, okWs 998 1 vs → (vs.map D.str).length + 2 ≤ sizeLine ∧ Qd (.own (vs.map D.str ++ [.str "5", .str "0"])) := by
    intro vs hv
    have hv1 := hv.1
    refine ⟨by rw [List.length_map]; unfold sizeLine; omega, ?_⟩
    have q := q (vs ++ (["5", "0"] : List Str)) ((hv.app (m := 2) (vs := (["5", "0"] : List Str)) ⟨Nat.le_refl _, fun w hw => by
      rcases List.mem_cons.mp hw with rfl | hw
      · exact okW_lits "5" (by decide +kernel)
      · rcases List.mem_cons.mp hw with rfl | hw
        · exact okW_lits "0" (by decide +kernel)
        · cases hw⟩).mono (by decide) (Nat.le_refl _))
    rw [List.map_append] at q
    exact q
  rcases Bool.eq_false_or_eq_true (eqD (.int r2) (.int 0)) with hd | hd
  · have hg : decide ((3 : Int) < 199 + r) = true := decide_eq_true (by omega)
    walk_at "go"
    refine hF _ _ ⟨_, rfl, ⟨by omega, by
      have : ∀ a : Nat, a < 4 → (((199 + a : Nat) : Int) - 2).natAbs.log2 < 9000 := by decide +kernel
      have h := this r.toNat (by omega)
      have e : (199 + r - 2 : Int) = ((199 + r.toNat : Nat) : Int) - 2 := by omega
      show (199 + r - 2 : Int).natAbs.log2 < 9000
      rw [e]
      exact h⟩, fun r3 h7 h8 => ?_⟩
    have h8' : r3 < 199 + r - 2 := h8
    refine ⟨.inl ⟨by decide, by decide⟩, ?_⟩
    walk_at "go"
    obtain ⟨vs, e, hv⟩ := cut_strs ws none (some (2 * r3))
    have hv := hv _ _ hw
    have hv1 := hv.1
    show (DL.cutD (ws.map D.str) none (some (2 * r3))).length + 4 ≤ sizeLine ∧ _
    rw [e]
    refine ⟨by rw [List.length_map]; unfold sizeLine; omega, ?_⟩
    have hv4 : okWs 406 1 (vs ++ (["3", "2", "1", "0"] : List Str)) := hv.app (m := 4) ⟨Nat.le_refl _, fun w hw => okW_lits w (by
      revert w
      decide +kernel)⟩
    have e4 : vs.map D.str ++ [.str "3", .str "2", .str "1", .str "0"] = (vs ++ (["3", "2", "1", "0"] : List Str)).map D.str := by rw [List.map_append]; rfl
    have hv5 := hv4.1
    simp only [e4]
    revert hv4 hv5
    generalize vs ++ (["3", "2", "1", "0"] : List Str) = us
    intro hv4 hv5
    walk_at "go"
    refine ⟨⟨by decide, by decide +kernel⟩, ?_⟩
    have ez : (((us.map D.str).length : Nat) : Int) = (us.length : Int) := by rw [List.length_map]
    refine ⟨⟨by rw [ez]; omega, by rw [ez]; omega, by rw [ez]; show 2 * _ ≤ _; unfold sizeLine; omega⟩, ?_⟩
    have hk : ((199 + r - (((us.map D.str).length : Nat) : Int) / 2 - 1)).toNat ≤ 202 := by rw [ez]; omega
    have er : ∀ k : Nat, ∃ vs : List Str, (List.replicate k ([.str "4", .str "1"] : List D)).flatten = vs.map D.str ∧ okWs (2 * k) 1 vs := by
      intro k
      induction k with
      | zero => exact ⟨[], rfl, Nat.le_refl _, fun w hw => by cases hw⟩
      | succ k ih =>
        obtain ⟨vs, e1, e2⟩ := ih
        refine ⟨(["4", "1"] : List Str) ++ vs, ?_, ?_⟩
        · rw [List.replicate_succ, List.flatten_cons, e1, List.map_append]
          rfl
        · have := (okWs.app (n := 2) (m := 2 * k) (L := 1) (ws := (["4", "1"] : List Str)) (vs := vs) ⟨Nat.le_refl _, fun w hw => okW_lits w (by
            revert w
            decide +kernel)⟩ e2)
          exact this.mono (by omega) (Nat.le_refl _)
    obtain ⟨zs, z1, z2⟩ := er (199 + r - (((us.map D.str).length : Nat) : Int) / 2 - 1).toNat
    have z3 := z2.1
    show (us.map D.str).length + (List.replicate _ ([.str "4", .str "1"] : List D)).flatten.length ≤ sizeLine ∧ _
    simp only [z1]
    refine ⟨by rw [List.length_map, List.length_map]; unfold sizeLine; omega, ?_⟩
    rw [← List.map_append]
    walk_at "go"
    exact fin (us ++ zs) ((hv4.app z2).mono (by omega) (Nat.le_refl _))
  · walk_at "go"
    exact fin ws (hw.mono (by decide) (Nat.le_refl _))
end G
end

section
set_option Elab.async false
set_option linter.all false
set_option maxRecDepth 100000
set_option maxHeartbeats 4000000
namespace G
open PySem PySem.Spec PyProof.Rows L2 DL
local macro_rules | `(tactic| walk_at "ok1") => `(tactic| first | exact okD_int _ | exact okD_bl _ | exact okD_non | exact okD_str (by assumption) | assumption)
local macro_rules | `(tactic| walk_at "go1") => `(tactic| ((conv => whnf); first
  | refine s_iteT ?_ | refine s_iteF ?_
  | refine ⟨⟨by walk_at "ok1", by walk_at "ok1"⟩, ?_⟩
  | refine ⟨_, rfl, ?_⟩
  | refine ⟨rfl, ?_⟩
  | refine ⟨Nat.le_of_ble_eq_true rfl, ?_⟩
  | refine ⟨_, isB_tuple (by assumption), ?_⟩
  | refine ⟨_, isB_list (by assumption), ?_⟩
  | refine ⟨_, isB_bool (by assumption), ?_⟩
  | refine ⟨_, isB_int (by assumption), ?_⟩
  | refine ⟨_, isB_str (by assumption), ?_⟩
  | refine ⟨_, by assumption, ?_⟩
  | refine s_ite1 (by assumption) ?_ | refine s_ite0 (by assumption) ?_))
local macro_rules | `(tactic| walk_at "go") => `(tactic| repeat walk_at "go1")
theorem lg {m : Nat} (h : m ≤ 5000) : CDivW 0 ((m : Int) + 1) := ⟨by omega, by
  have : (((m : Int) + 1)).natAbs = m + 1 := by omega
  rw [this]
  have := Nat.log2_le_self (m + 1)
  omega⟩
theorem lg' {m : Nat} (h : m ≤ 5000) (h2 : 0 < m) : CDivW 0 (m : Int) := ⟨by omega, by
  have : ((m : Int)).natAbs = m := by omega
  rw [this]
  have := Nat.log2_le_self m
  omega⟩
theorem okW_add {L M : Nat} {a b : Str} (h : okW L a) (k : okW M b) : okW (L + M) (a ++ b) := by
  obtain ⟨⟨x⟩⟩ := a
  obtain ⟨⟨y⟩⟩ := b
  have e : ((⟨⟨x⟩⟩ : Str) ++ (⟨⟨y⟩⟩ : Str)).cps.toList = x ++ y := by
    show (Array.append ⟨x⟩ ⟨y⟩).toList = _
    simp
  refine ⟨?_, fun c hc => ?_⟩
  · rw [str_len, e, List.length_append]
    exact Nat.add_le_add h.1 k.1
  · rw [e] at hc
    exact (List.mem_append.mp hc).elim (h.2 c) (k.2 c)
theorem okW_cut {L : Nat} {a : Str} (h : okW L a) (lo hi : Option Int) : okW L (cutS a lo hi) := by
  obtain ⟨⟨x⟩⟩ := a
  have h1 : x.length ≤ L := h.1
  have h2 : ∀ c ∈ x, c < 128 := h.2
  have : ∃ i j, (cutS ⟨⟨x⟩⟩ lo hi).cps.toList = (x.drop i).take j := ⟨_, _, rfl⟩
  obtain ⟨i, j, e⟩ := this
  refine ⟨?_, fun c hc => ?_⟩
  · rw [str_len, e, List.length_take, List.length_drop]
    omega
  · rw [e] at hc
    exact h2 c (List.mem_of_mem_drop (List.mem_of_mem_take hc))
theorem okW_lay {L : Nat} {a : Str} (h : okW L a) : PyData.canLay0 (.str a) = true := by
  show a.cps.all (fun c => decide (c < 0x110000)) = true
  rw [Array.all_eq_true_iff_forall_mem]
  intro c hc
  exact decide_eq_true (by have := h.2 c (by simpa using hc); omega)
theorem cut_to (xs : List D) (k : Nat) : DL.cutD xs none (some (k : Int)) = xs.take k := by
  unfold DL.cutD
  rw [HT.sIx_none, HT.sIx_nat, List.drop_zero, Nat.sub_zero]
  rcases Nat.le_total k xs.length with h | h
  · rw [Nat.min_eq_left h]
  · rw [Nat.min_eq_right h, List.take_of_length_le (Nat.le_refl _), List.take_of_length_le h]
theorem cut_from (xs : List D) (k : Nat) : DL.cutD xs (some (k : Int)) none = xs.drop k := by
  unfold DL.cutD
  rw [HT.sIx_none, HT.sIx_nat]
  rcases Nat.le_total k xs.length with h | h
  · rw [Nat.min_eq_left h, List.take_of_length_le (by rw [List.length_drop]; exact Nat.le_refl _)]
  · rw [Nat.min_eq_right h, List.drop_of_length_le (Nat.le_refl _), List.drop_of_length_le h, List.take_nil]
theorem cut_one (xs : List D) (k : Nat) : DL.cutD xs (some (k : Int)) (some ((k : Int) + 1)) = (xs.drop k).take 1 := by
  unfold DL.cutD
  rw [HT.sIx_nat, show ((k : Int) + 1) = ((k + 1 : Nat) : Int) from rfl, HT.sIx_nat]
  rcases Nat.lt_or_ge k xs.length with h | h
  · rw [Nat.min_eq_left (by omega), Nat.min_eq_left (by omega)]
    congr 1
    omega
  · rw [Nat.min_eq_right h, List.drop_of_length_le (Nat.le_refl _), List.drop_of_length_le h, List.take_nil, List.take_nil]
theorem join_one {L : Nat} {ws : List Str} (h : ∀ w ∈ ws, okW L w) (k : Nat) : okW L (Txt.join "" ((ws.drop k).take 1)) ∧ ((((ws.drop k).take 1).map (·.length)).sum + ((ws.drop k).take 1).length * ("" : Str).length ≤ L) := by
  have h2 : ∀ w ∈ ws.drop k, okW L w := fun w hw => h w (List.mem_of_mem_drop hw)
  cases e : ws.drop k with
  | nil => exact ⟨⟨Nat.zero_le _, fun c hc => by cases hc⟩, Nat.zero_le _⟩
  | cons w r =>
    rw [e] at h2
    have hw := h2 w (List.mem_cons_self ..)
    exact ⟨hw, by
      show w.length + 0 + 1 * ("" : Str).length ≤ L
      have : ("" : Str).length = 0 := by decide +kernel
      rw [this]
      have := hw.1
      omega⟩
theorem cut_from1 (xs : List D) (k : Nat) : DL.cutD xs (some ((k : Int) + 1)) none = xs.drop (k + 1) := cut_from xs (k + 1)
theorem okWs.put {n L : Nat} {ws : List Str} {w : Str} (h : okWs n L ws) (k : okW L w) (p q : Nat) (hq : p ≤ q) : okWs (n + 1) L (ws.take p ++ [w] ++ ws.drop q) := by
  refine ⟨?_, fun v hv => ?_⟩
  · rw [List.length_append, List.length_append, List.length_take, List.length_drop, List.length_singleton]
    have := h.1
    omega
  · rcases List.mem_append.mp hv with hv | hv
    · rcases List.mem_append.mp hv with hv | hv
      · exact h.2 v (List.mem_of_mem_take hv)
      · rcases List.mem_cons.mp hv with rfl | hv
        · exact k
        · cases hv
    · exact h.2 v (List.mem_of_mem_drop hv)
theorem okWs.out {n L : Nat} {ws : List Str} (h : okWs n L ws) (p q : Nat) (hq : p ≤ q) : okWs n L (ws.take p ++ ws.drop q) := by
  refine ⟨?_, fun v hv => ?_⟩
  · rw [List.length_append, List.length_take, List.length_drop]
    have := h.1
    omega
  · rcases List.mem_append.mp hv with hv | hv
    · exact h.2 v (List.mem_of_mem_take hv)
    · exact h.2 v (List.mem_of_mem_drop hv)
/-- how many parts the words give when they are joined by a blank and cut again -/
def wt (ws : List Str) : Nat := (ws.map fun w => 1 + w.cps.toList.count 32).sum
theorem wt_app (a b : List Str) : wt (a ++ b) = wt a + wt b := by unfold wt; rw [List.map_append, List.sum_append]
theorem wt_one (w : Str) : wt [w] ≤ 1 + w.length := by
  show 1 + w.cps.toList.count 32 + 0 ≤ _
  have := List.count_le_length (a := 32) (l := w.cps.toList)
  rw [str_len]
  omega
theorem wt_out (ws : List Str) {p q : Nat} (h : p ≤ q) : wt (ws.take p ++ ws.drop q) ≤ wt ws := by
  have e := congrArg wt (List.take_append_drop p ws)
  rw [wt_app] at e
  have e2 := congrArg wt (List.take_append_drop (q - p) (ws.drop p))
  rw [wt_app, List.drop_drop, show p + (q - p) = q by omega] at e2
  rw [wt_app]
  omega
theorem wt_put (ws : List Str) (w : Str) {p q : Nat} (h : p ≤ q) : wt (ws.take p ++ [w] ++ ws.drop q) ≤ wt ws + 1 + w.length := by
  have e := wt_out ws h
  have := wt_one w
  rw [wt_app] at e
  rw [wt_app, wt_app]
  omega
def wEnt (ws : List Str) (r : Nv) : Prop := r = .val (.lst (ws.map D.str)) ∨ r = .own (ws.map D.str)
abbrev menuL : List Str := ["0", "1", "2", "3", "9", "10", "", "hole", "holes", "Hole", "-1", "x", "1\n", "\t1"]
theorem menu_ok : (∀ w ∈ menuL, w.length ≤ 5 ∧ ∀ c ∈ w.cps.toList, c < 128) := by decide +kernel
abbrev signsS : Str := "0123 hole-+_.A~`"
theorem signs_ok : signsS.length = 16 ∧ ∀ c ∈ signsS.cps.toList, c < 128 := by decide +kernel
abbrev chg_bd (F : FM) : DSM := (dSeq (dSet 4 (dCall F (dCons (dKeep (dVar 0)) (dCons (dKeep (dOp mAdd (dCB mLen (dCons (dVar 1) dNil)) (dC (.int 1)))) dNil))))
  (dSeq (dSet 5 (dCall F (dCons (dKeep (dVar 0)) (dCons (dKeep (dC (.int 4))) dNil))))
  (dSeq (dSet 6 (dOp mIx (dVar 2) (dCall F (dCons (dKeep (dVar 0)) (dCons (dKeep (dCB mLen (dCons (dVar 2) dNil))) dNil)))))
  (dIfS (dB (dOp mEq (dVar 5) (dC (.int 0))))
  (dSet 1 (dOp mAdd (dSl (dVar 1) dNoPart (dPart (dVar 4))) (dSl (dVar 1) (dPart (dOp mAdd (dVar 4) (dC (.int 1)))) dNoPart)))
  (dIfS (dB (dOp mEq (dVar 5) (dC (.int 1))))
  (dSet 1 (dOp mAdd (dOp mAdd (dSl (dVar 1) dNoPart (dPart (dVar 4))) (dLst (dCons (dKeep (dVar 6)) dNil))) (dSl (dVar 1) (dPart (dVar 4)) dNoPart)))
  (dIfS (dB (dOp mEq (dVar 5) (dC (.int 2))))
  (dSet 1 (dOp mAdd (dOp mAdd (dSl (dVar 1) dNoPart (dPart (dVar 4))) (dLst (dCons (dKeep (dVar 6)) dNil))) (dSl (dVar 1) (dPart (dOp mAdd (dVar 4) (dC (.int 1)))) dNoPart)))
  (dSeq (dSet 7 (dM1 mJoin (dC (.str "")) (dSl (dVar 1) (dPart (dVar 4)) (dPart (dOp mAdd (dVar 4) (dC (.int 1)))))))
  (dSeq (dSet 8 (dCall F (dCons (dKeep (dVar 0)) (dCons (dKeep (dOp mAdd (dCB mLen (dCons (dVar 7) dNil)) (dC (.int 1)))) dNil))))
  (dSeq (dSet 9 (dC (.str "0123 hole-+_.A~`")))
  (dSeq (dSet 7 (dOp mAdd (dOp mAdd (dSl (dVar 7) dNoPart (dPart (dVar 8))) (dOp mIx (dVar 9) (dCall F (dCons (dKeep (dVar 0)) (dCons (dKeep (dCB mLen (dCons (dVar 9) dNil))) dNil))))) (dSl (dVar 7) (dPart (dOp mAdd (dVar 8) (dCall F (dCons (dKeep (dVar 0)) (dCons (dKeep (dC (.int 2))) dNil))))) dNoPart)))
  (dSet 1 (dOp mAdd (dOp mAdd (dSl (dVar 1) dNoPart (dPart (dVar 4))) (dLst (dCons (dKeep (dVar 7)) dNil))) (dSl (dVar 1) (dPart (dOp mAdd (dVar 4) (dC (.int 1)))) dNoPart)))))))))))))
theorem chg_step {F : FM} (hF : ∀ rs Qd, F_draw rs Qd → F rs Qd) {E : DEn} {ws : List Str} {n L : Nat} (hw : okWs n L ws) (hn : n ≤ 2000) (hL : L ≤ 2000) (hL5 : 5 ≤ L) {r1 : Nv} (hr : wEnt ws r1) {y3 y4 y5 y6 y7 y8 y9 : Option Nv}
    (q : ∀ (vs : List Str) y3 y4 y5 y6 y7 y8 y9, okWs (n + 1) (2 * L + 1) vs → wt vs ≤ wt ws + (2 * L + 2) → E.nx [some .pool, some (.own (vs.map D.str)), some (.own (menuL.map D.str)), y3, y4, y5, y6, y7, y8, y9]) :
    chg_bd F E [some .pool, some r1, some (.own (menuL.map D.str)), y3, y4, y5, y6, y7, y8, y9] := by
  have hw1 := hw.1
  have ez : (((ws.map D.str).length : Nat) : Int) = (ws.length : Int) := by rw [List.length_map]
  have el : eqD (.int 0) (.int 0) = true := by rw [eqD_int]; rfl
  rcases hr with rfl | rfl
  all_goals
    walk_at "go"
    refine hF _ _ ⟨_, rfl, by rw [ez]; exact lg (by omega), fun place h1 h2 => ?_⟩
    walk_at "go"
    refine hF _ _ ⟨_, rfl, ⟨by decide, by decide +kernel⟩, fun way h3 h4 => ?_⟩
    walk_at "go"
    refine hF _ _ ⟨_, rfl, ⟨by decide, by decide +kernel⟩, fun k h5 h6 => ?_⟩
    have h6 : k < 14 := h6
    obtain ⟨kn, rfl⟩ : ∃ kn : Nat, k = (kn : Int) := ⟨k.toNat, by omega⟩
    obtain ⟨w, hk⟩ : ∃ w, menuL[kn]? = some w := ⟨menuL[kn]'(by show kn < 14; omega), List.getElem?_eq_getElem _⟩
    have hw6 := menu_ok w (List.mem_of_getElem? hk)
    have hk2 : (menuL.map D.str)[kn]? = some (.str w) := by rw [List.getElem?_map, hk]; rfl
    have hk3 := DL.atI_nat hk2
    obtain ⟨p, rfl⟩ : ∃ p : Nat, place = (p : Int) := ⟨place.toNat, by omega⟩
    have hp : p ≤ ws.length := by rw [ez] at h2; omega
    have hway : way = 0 ∨ way = 1 ∨ way = 2 ∨ way = 3 := by omega
    have hlt : (ws.map D.str).length ≤ 2000 := by rw [List.length_map]; omega
    rcases hway with rfl | rfl | rfl | rfl
    · walk_at "go"
      show (DL.cutD (ws.map D.str) none (some (p : Int))).length + (DL.cutD (ws.map D.str) (some ((p : Int) + 1)) none).length ≤ sizeLine ∧ _
      simp only [cut_to, cut_from1]
      refine ⟨by rw [List.length_take, List.length_drop]; unfold sizeLine; omega, ?_⟩
      have k := q (ws.take p ++ ws.drop (p + 1)) y3 (some (.val (.int p))) (some (.val (.int 0))) (some (.val (.str w))) y7 y8 y9 ((hw.out p (p + 1) (Nat.le_succ p)).mono (Nat.le_succ n) (by omega)) (Nat.le_trans (wt_out ws (Nat.le_succ p)) (by omega))
      rw [List.map_append, List.map_take, List.map_drop] at k
      exact k
    · walk_at "go"
      show (DL.cutD (ws.map D.str) none (some (p : Int))).length + 1 ≤ sizeLine ∧ _
      rw [cut_to]
      refine ⟨by rw [List.length_take]; unfold sizeLine; omega, ?_⟩
      show ((ws.map D.str).take p ++ [D.str w]).length + (DL.cutD (ws.map D.str) (some (p : Int)) none).length ≤ sizeLine ∧ E.nx [_, some (.own (((ws.map D.str).take p ++ [D.str w]) ++ DL.cutD (ws.map D.str) (some (p : Int)) none)), _, _, _, _, _, _, _, _]
      rw [cut_from]
      refine ⟨by rw [List.length_append, List.length_take, List.length_drop, List.length_singleton]; unfold sizeLine; omega, ?_⟩
      have k := q (ws.take p ++ [w] ++ ws.drop p) y3 (some (.val (.int p))) (some (.val (.int 1))) (some (.val (.str w))) y7 y8 y9 ((hw.put (w := w) ⟨Nat.le_trans hw6.1 hL5, hw6.2⟩ p p (Nat.le_refl p)).mono (Nat.le_refl _) (by omega)) (Nat.le_trans (wt_put ws w (Nat.le_refl p)) (by have := hw6.1; omega))
      rw [List.map_append, List.map_append, List.map_take, List.map_drop] at k
      exact k
    · walk_at "go"
      show (DL.cutD (ws.map D.str) none (some (p : Int))).length + 1 ≤ sizeLine ∧ _
      rw [cut_to]
      refine ⟨by rw [List.length_take]; unfold sizeLine; omega, ?_⟩
      show ((ws.map D.str).take p ++ [D.str w]).length + (DL.cutD (ws.map D.str) (some ((p : Int) + 1)) none).length ≤ sizeLine ∧ E.nx [_, some (.own (((ws.map D.str).take p ++ [D.str w]) ++ DL.cutD (ws.map D.str) (some ((p : Int) + 1)) none)), _, _, _, _, _, _, _, _]
      rw [cut_from1]
      refine ⟨by rw [List.length_append, List.length_take, List.length_drop, List.length_singleton]; unfold sizeLine; omega, ?_⟩
      have k := q (ws.take p ++ [w] ++ ws.drop (p + 1)) y3 (some (.val (.int p))) (some (.val (.int 2))) (some (.val (.str w))) y7 y8 y9 ((hw.put (w := w) ⟨Nat.le_trans hw6.1 hL5, hw6.2⟩ p (p + 1) (Nat.le_succ p)).mono (Nat.le_refl _) (by omega)) (Nat.le_trans (wt_put ws w (Nat.le_succ p)) (by have := hw6.1; omega))
      rw [List.map_append, List.map_append, List.map_take, List.map_drop] at k
      exact k
    · walk_at "go"
      refine ⟨⟨_, rfl⟩, ?_⟩
      walk_at "go"
      show ∃ ys, strsOf (DL.cutD (ws.map D.str) (some (p : Int)) (some ((p : Int) + 1))) = some ys ∧ _
      rw [cut_one, ← List.map_drop, ← List.map_take]
      obtain ⟨j1, j2⟩ := join_one hw.2 p
      refine ⟨_, strsOf_map _, Nat.le_trans j2 (by omega), ?_⟩
      revert j1
      generalize Txt.join "" ((ws.drop p).take 1) = own
      intro j1
      have jl := j1.1
      refine ⟨by unfold sizeLine; omega, ?_⟩
      walk_at "go"
      refine hF _ _ ⟨_, rfl, lg (by omega), fun at_ ha1 ha2 => ?_⟩
      walk_at "go"
      refine ⟨by unfold sizeLine; omega, ?_⟩
      have c1 := okW_cut j1 none (some at_)
      revert c1
      generalize cutS own none (some at_) = a1
      intro c1
      have c1l := c1.1
      walk_at "go"
      refine hF _ _ ⟨_, rfl, lg' (m := (("0123 hole-+_.A~`" : Str)).length) (by rw [signs_ok.1]; decide) (by rw [signs_ok.1]; decide), fun k2 hk4 hk5 => ?_⟩
      have hk5 : k2 < 16 := by
        have : ((("0123 hole-+_.A~`" : Str)).length : Int) = 16 := by rw [signs_ok.1]; rfl
        rw [this] at hk5
        exact hk5
      obtain ⟨sn, rfl⟩ : ∃ sn : Nat, k2 = (sn : Int) := ⟨k2.toNat, by omega⟩
      have hsl : (("0123 hole-+_.A~`" : Str)).cps.toList.length = 16 := by rw [← str_len]; exact signs_ok.1
      obtain ⟨sg, hsg⟩ : ∃ sg, (("0123 hole-+_.A~`" : Str)).cps.toList[sn]? = some sg := ⟨_, List.getElem?_eq_getElem (by rw [hsl]; omega)⟩
      have hsg2 := signs_ok.2 sg (List.mem_of_getElem? hsg)
      have hsg3 := DL.atI_nat hsg
      refine ⟨sg, ⟨by rw [signs_ok.1]; decide, hsg3⟩, ?_⟩
      have c2 : okW 1 ⟨#[sg]⟩ := ⟨Nat.le_refl _, fun c hc => by
        rcases List.mem_cons.mp hc with rfl | hc
        · exact hsg2
        · cases hc⟩
      have c2l := c2.1
      have c3 := okW_add c1 c2
      have c3l := c3.1
      refine ⟨by unfold sizeLine; omega, ?_⟩
      revert c3
      generalize a1 ++ (⟨#[sg]⟩ : Str) = a3
      intro c3
      walk_at "go"
      refine hF _ _ ⟨_, rfl, ⟨by decide, by decide +kernel⟩, fun k6 hk6 hk7 => ?_⟩
      walk_at "go"
      refine ⟨by unfold sizeLine; omega, ?_⟩
      have c3m := c3.1
      have c4 := okW_cut j1 (some (at_ + k6)) none
      have c4l := c4.1
      refine ⟨by unfold sizeLine; omega, ?_⟩
      have c5 := okW_add c3 c4
      revert c5
      generalize a3 ++ cutS own (some (at_ + k6)) none = a5
      intro c5
      walk_at "go"
      show (DL.cutD (ws.map D.str) none (some (p : Int))).length + 1 ≤ sizeLine ∧ _
      rw [cut_to]
      refine ⟨by rw [List.length_take]; unfold sizeLine; omega, ?_⟩
      show ((ws.map D.str).take p ++ [D.str a5]).length + (DL.cutD (ws.map D.str) (some ((p : Int) + 1)) none).length ≤ sizeLine ∧ E.nx [_, some (.own (((ws.map D.str).take p ++ [D.str a5]) ++ DL.cutD (ws.map D.str) (some ((p : Int) + 1)) none)), _, _, _, _, _, _, _, _]
      rw [cut_from1]
      refine ⟨by rw [List.length_append, List.length_take, List.length_drop, List.length_singleton]; unfold sizeLine; omega, ?_⟩
      have k := q (ws.take p ++ [a5] ++ ws.drop (p + 1)) y3 (some (.val (.int p))) (some (.val (.int 3))) (some (.val (.str w))) (some (.val (.str a5))) (some (.val (.int at_))) (some (.val (.str "0123 hole-+_.A~`"))) ((hw.mono (Nat.le_refl n) (by omega : L ≤ 2 * L + 1)).put (w := a5) ⟨Nat.le_trans c5.1 (by omega), c5.2⟩ p (p + 1) (Nat.le_succ p)) (Nat.le_trans (wt_put ws a5 (Nat.le_succ p)) (by have := c5.1; omega))
      rw [List.map_append, List.map_append, List.map_take, List.map_drop] at k
      exact k
def F_changed : FM := fun rs Qd => ∃ (ws : List Str), rs = [.pool, .val (.lst (ws.map D.str))] ∧ okWs 1000 5 ws ∧ ∀ vs, okWs 1003 47 vs → wt vs ≤ wt ws + 84 → Qd (.val (.lst (vs.map D.str))) ∧ Qd (.own (vs.map D.str))
def grow : Nat → Nat → Nat
  | 0, L => L
  | n + 1, L => grow n (2 * L + 1)
def growW : Nat → Nat → Nat
  | 0, _ => 0
  | n + 1, L => 2 * L + 2 + growW n (2 * L + 1)
theorem chg_loop {F : FM} (hF : ∀ rs Qd, F_draw rs Qd → F rs Qd) {E : DEn} {N M W : Nat} (hN : N ≤ 2000) (hM : M ≤ 2000) (q : ∀ (vs : List Str) r1 y3 y4 y5 y6 y7 y8 y9, wEnt vs r1 → okWs N M vs → wt vs ≤ W → E.nx [some .pool, some r1, some (.own (menuL.map D.str)), y3, y4, y5, y6, y7, y8, y9]) :
    ∀ (rg : List D) (ws : List Str) (n L : Nat) (r1 : Nv) (y3 y4 y5 y6 y7 y8 y9 : Option Nv), okWs n L ws → 5 ≤ L → n + rg.length ≤ N → grow rg.length L ≤ M → wt ws + growW rg.length L ≤ W → wEnt ws r1 →
    dLoop (dName 3) (chg_bd F) E rg [some .pool, some r1, some (.own (menuL.map D.str)), y3, y4, y5, y6, y7, y8, y9]
  | [], ws, n, L, r1, y3, y4, y5, y6, y7, y8, y9, h, h5, hn, hg, hW, hr => q ws r1 y3 y4 y5 y6 y7 y8 y9 hr (h.mono hn hg) (by rw [List.length_nil] at hW; exact hW)
  | d :: rg, ws, n, L, r1, y3, y4, y5, y6, y7, y8, y9, h, h5, hn, hg, hW, hr => by
    have hW2 : wt ws + (2 * L + 2 + growW rg.length (2 * L + 1)) ≤ W := hW
    have hg2 : grow rg.length (2 * L + 1) ≤ M := hg
    have gl : ∀ n L, L ≤ grow n L := by
      intro n
      induction n with
      | zero => exact fun L => Nat.le_refl L
      | succ n ih => exact fun L => Nat.le_trans (by omega) (ih (2 * L + 1))
    have := gl rg.length (2 * L + 1)
    rw [List.length_cons] at hn
    exact chg_step hF (E := { E with nx := dLoop (dName 3) (chg_bd F) E rg, ct := dLoop (dName 3) (chg_bd F) E rg, bk := E.nx }) h (by omega) (by omega) h5 hr (y3 := some (.val d)) (y4 := y4) (y5 := y5) (y6 := y6) (y7 := y7) (y8 := y8) (y9 := y9) fun vs z3 z4 z5 z6 z7 z8 z9 hv hw' =>
      chg_loop hF hN hM q rg vs (n + 1) (2 * L + 1) _ z3 z4 z5 z6 z7 z8 z9 hv (by omega) (by omega) hg2 (by omega) (.inr rfl)
theorem chg_body {F : FM} (hF : ∀ rs Qd, F_draw rs Qd → F rs Qd) : ∀ rs Qd, F_changed rs Qd → bodyF 10 (m_law_changed F) rs Qd := by
  rintro rs Qd ⟨ws, rfl, hw, q⟩
  unfold m_law_changed
  show dSeq _ _ _ [some .pool, some (.val _), none, none, none, none, none, none, none, none]
  walk_at "go"
  refine hF _ _ ⟨_, rfl, ⟨by decide, by decide +kernel⟩, fun r h1 h2 => ?_⟩
  walk_at "go"
  refine ⟨by omega, by omega, ?_⟩
  have hlen : (rangeD 0 r).length ≤ 3 := by
    unfold rangeD
    rw [List.length_map, List.length_range]
    omega
  have hg : grow (rangeD 0 r).length 5 ≤ 47 := by
    have : ∀ n, n < 4 → grow n 5 ≤ 47 := by decide +kernel
    exact this _ (by omega)
  have hgw : growW (rangeD 0 r).length 5 ≤ 84 := by
    have : ∀ n, n < 4 → growW n 5 ≤ 84 := by decide +kernel
    exact this _ (by omega)
  refine chg_loop hF (N := 1003) (M := 47) (W := wt ws + 84) (by decide) (by decide) (fun vs r1 y3 y4 y5 y6 y7 y8 y9 hr hv hvw => ?_) (rangeD 0 r) ws 1000 5 _ none none none none none none none hw (Nat.le_refl _) (by omega) hg (by omega) (.inl rfl)
  obtain ⟨q1, q2⟩ := q vs hv hvw
  rcases hr with rfl | rfl
  · walk_at "go"
    exact q1
  · walk_at "go"
    exact q2
end G
end

section
set_option Elab.async false
set_option linter.all false
set_option maxRecDepth 100000
set_option maxHeartbeats 4000000
namespace G
open PySem PySem.Spec PyProof.Rows L2 DL
section
variable {P : Program} {w : World} {K : PySem.W.Frag} {mg : Str → Option Value} {base : Heap} {a : Ad}
theorem draw_okT (T : Tx K mg a) : FnOk P w K mg base CX0 1 a.f_law_draw a.d_law_draw ["pool", "size"] (spF K 2 F_draw) := dr_ok T.f_law_draw.fn T.n_len T.n_int
theorem digit_ok (T : Tx K mg a) : FnOk P w K mg base CX0 1 a.f_law_digit a.d_law_digit ["word", "most"] (spF K 2 F_digit) := (b_law_digit T (k := 0)).imp (spF.imp digit_body)
theorem wrong_ok (T : Tx K mg a) : FnOk P w K mg base CX0 2 a.f_law_wrong a.d_law_wrong ["words"] (spF K 1 F_wrong) := (b_law_wrong T (digit_ok T)).imp (spF.imp (wrong_body fun _ _ h => h))
theorem long_ok (T : Tx K mg a) : FnOk P w K mg base CX0 2 a.f_law_long_words a.d_law_long_words ["pool"] (spF K 1 F_long) := (b_law_long_words T (draw_okT T)).imp (spF.imp (long_body fun _ _ h => h))
theorem chg_ok (T : Tx K mg a) : FnOk P w K mg base CX0 2 a.f_law_changed a.d_law_changed ["pool", "words"] (spF K 2 F_changed) := (b_law_changed T (draw_okT T)).imp (spF.imp (chg_body fun _ _ h => h))
end
end G
end

section
set_option Elab.async false
set_option linter.all false
set_option maxRecDepth 100000
set_option maxHeartbeats 4000000
namespace DL
open PySem PySem.Spec PyProof.Rows L2
/-! ### data that == may look at -/
def okK (k : Nat) (d : D) : Prop := isDat d = true ∧ (toPy d).canLay0 = true ∧ (toPy d).depth ≤ k
theorem okK.ok {k : Nat} {d : D} (h : okK k d) (hk : k ≤ 64) : okD d := ⟨h.1, by
  unfold SeqAt.shaped
  rw [h.2.1, Bool.true_and]
  exact decide_eq_true (Nat.le_trans h.2.2 hk)⟩
theorem okK.mono {k j : Nat} {d : D} (h : okK k d) (hk : k ≤ j) : okK j d := ⟨h.1, h.2.1, Nat.le_trans h.2.2 hk⟩
theorem okK_all {k : Nat} : ∀ {l : List D}, (∀ d ∈ l, okK k d) → isDats l = true ∧ PyData.canLayAll0 (toPys l) = true ∧ PyData.depthAll (toPys l) ≤ k
  | [], _ => ⟨rfl, by rw [toPys]; rfl, by rw [toPys]; exact Nat.zero_le _⟩
  | d :: l, h => by
    obtain ⟨a1, a2, a3⟩ := h d (List.mem_cons_self ..)
    obtain ⟨b1, b2, b3⟩ := okK_all (fun x hx => h x (List.mem_cons_of_mem _ hx))
    refine ⟨by rw [isDats, a1, b1]; rfl, ?_, ?_⟩
    · rw [toPys, PyData.canLayAll0, a2, b2]
      rfl
    · rw [toPys, PyData.depthAll]
      exact Nat.max_le.mpr ⟨a3, b3⟩
theorem okK_lst {k : Nat} {l : List D} (h : ∀ d ∈ l, okK k d) : okK (k + 1) (.lst l) := by
  obtain ⟨b1, b2, b3⟩ := okK_all h
  refine ⟨by rw [isDat]; exact b1, ?_, ?_⟩
  · rw [toPy, PyData.canLay0]
    exact b2
  · rw [toPy, PyData.depth]
    exact Nat.succ_le_succ b3
theorem okK_tup {k : Nat} {l : List D} (h : ∀ d ∈ l, okK k d) : okK (k + 1) (.tup l) := by
  obtain ⟨b1, b2, b3⟩ := okK_all h
  refine ⟨by rw [isDat]; exact b1, ?_, ?_⟩
  · rw [toPy, PyData.canLay0]
    exact b2
  · rw [toPy, PyData.depth]
    exact Nat.succ_le_succ b3
theorem okK_int (i : Int) : okK 0 (.int i) := ⟨by rw [isDat], by rw [toPy]; rfl, by rw [toPy]; exact Nat.le_refl _⟩
theorem okK_non : okK 0 .non := ⟨by rw [isDat], by rw [toPy]; rfl, by rw [toPy]; exact Nat.le_refl _⟩
theorem okK_bl (b : Bool) : okK 0 (.bl b) := ⟨by rw [isDat], by rw [toPy]; rfl, by rw [toPy]; exact Nat.le_refl _⟩
theorem okK_str {x : Str} (h : PyData.canLay0 (.str x) = true) : okK 0 (.str x) := ⟨by rw [isDat], by rw [toPy]; exact h, by rw [toPy]; exact Nat.le_refl _⟩
theorem okD_strs {ws : List Str} (h : ∀ w ∈ ws, PyData.canLay0 (.str w) = true) : okD (.lst (ws.map D.str)) := (okK_lst (k := 0) fun d hd => by
  obtain ⟨w, hw, rfl⟩ := List.mem_map.mp hd
  exact okK_str (h w hw)).ok (by decide)
theorem inD_strs (w : Str) : ∀ ws : List Str, inD (.str w) (ws.map D.str) = decide (w ∈ ws)
  | [] => rfl
  | v :: ws => by
    have ih := inD_strs w ws
    unfold inD at ih ⊢
    rw [List.map_cons, List.any_cons, ih, eqD_str]
    by_cases c : v = w
    · subst c
      simp
    · have c1 : (v == w) = false := by simpa using c
      have c2 : w ≠ v := fun z => c z.symm
      simp [c1, c2]
theorem inD_nons : ∀ ws : List Str, inD .non (ws.map D.str) = false
  | [] => rfl
  | v :: ws => by
    have ih := inD_nons ws
    unfold inD at ih ⊢
    rw [List.map_cons, List.any_cons, ih, Bool.or_false]
    simp [eqD, toPy, PyData.eqv]
theorem eqD_sn (w : Str) : eqD .non (.str w) = false := by simp [eqD, toPy, PyData.eqv]
theorem eqD_ns (w : Str) : eqD (.str w) .non = false := by simp [eqD, toPy, PyData.eqv]
end DL
namespace G
open PySem PySem.Spec PyProof.Rows L2 DL
/-! ### the words, and which is next -/
abbrev wns : List Str := ["words", "at"]
def wfx (C dx : Addr) (ws : List Str) (n : Nat) : FxL := .ins C dx wns [.lst (ws.map D.str), .int n]
theorem wl_w (a b : DL.D) : lookF "words" wns [a, b] = some a := by
  show (if ("words" : Str) == "words" then some a else _) = _
  rw [if_pos (by decide +kernel)]
theorem wl_a (a b : DL.D) : lookF "at" wns [a, b] = some b := by
  show (if ("at" : Str) == "words" then some a else if ("at" : Str) == "at" then some b else _) = _
  rw [if_neg (by decide +kernel), if_pos (by decide +kernel)]
theorem wn_ahead : DL.noF "ahead" wns = true := by decide +kernel
theorem wn_take : DL.noF "take" wns = true := by decide +kernel
theorem wn_number : DL.noF "number" wns = true := by decide +kernel
theorem wn_finish : DL.noF "finish" wns = true := by decide +kernel
theorem wp_ns : putNs "at" wns = wns := by decide +kernel
theorem wp_ds (a b d : DL.D) : putDs "at" d wns [a, b] = [a, d] := by
  show (if ("words" : Str) == "at" then _ else a :: if ("at" : Str) == "at" then [d] else _) = _
  rw [if_neg (by decide +kernel), if_pos (by decide +kernel)]
theorem wp1_ns : putNs "at" ["words"] = wns := by decide +kernel
theorem wp1_ds (a d : DL.D) : putDs "at" d ["words"] [a] = [a, d] := by
  show (if ("words" : Str) == "at" then _ else a :: [d]) = _
  rw [if_neg (by decide +kernel)]
end G
end

section
set_option Elab.async false
set_option linter.all false
set_option maxRecDepth 100000
set_option maxHeartbeats 4000000
namespace G
open PySem PySem.Spec PyProof.Rows L2 DL
local macro_rules | `(tactic| walk_at "ok1") => `(tactic| first | exact okD_int _ | exact okD_bl _ | exact okD_non | exact okD_str (by assumption) | assumption)
local macro_rules | `(tactic| walk_at "go1") => `(tactic| ((conv => whnf); first
  | refine s_iteT ?_ | refine s_iteF ?_
  | refine ⟨⟨by walk_at "ok1", by walk_at "ok1"⟩, ?_⟩
  | refine ⟨_, rfl, ?_⟩
  | refine ⟨rfl, ?_⟩
  | refine ⟨Nat.le_of_ble_eq_true rfl, ?_⟩
  | refine ⟨_, isB_tuple (by assumption), ?_⟩
  | refine ⟨_, isB_list (by assumption), ?_⟩
  | refine ⟨_, isB_bool (by assumption), ?_⟩
  | refine ⟨_, isB_int (by assumption), ?_⟩
  | refine ⟨_, isB_str (by assumption), ?_⟩
  | refine ⟨_, by assumption, ?_⟩
  | refine s_ite1 (by assumption) ?_ | refine s_ite0 (by assumption) ?_))
local macro_rules | `(tactic| walk_at "go") => `(tactic| repeat walk_at "go1")
/-- a text's words are short and plain -/
def wOk (ws : List Str) : Prop := ws.length ≤ 100000 ∧ ∀ w ∈ ws, w.length ≤ sizeLine ∧ PyData.canLay0 (.str w) = true
def optS : Option Str → DL.D
  | none => .non
  | some w => .str w
def F_ahead (a : Ad) : FMM := fun rs l Qd Qx => ∃ (dx : Addr) (ws : List Str) (n : Nat), rs = [] ∧ l = wfx a.Words dx ws n ∧ n ≤ ws.length ∧ Qd (.val (optS ws[n]?)) l
theorem ahead_body (a : Ad) : ∀ rs l Qd Qx, F_ahead a rs l Qd Qx → bodyM 1 (m_Words_ahead a) rs l Qd Qx := by
  rintro rs l Qd Qx ⟨dx, ws, n, rfl, rfl, hn, q⟩ p
  unfold m_Words_ahead
  show dSeq _ _ _ [some (.fix p (wfx a.Words dx ws n))]
  have hl : ((ws.map D.str).length : Int) = (ws.length : Nat) := by rw [List.length_map]
  refine ⟨rfl, _, wl_a _ _, ?_⟩
  refine ⟨rfl, _, wl_w _ _, ?_⟩
  walk_at "go"
  show dIte (eqD (.int (n : Int)) (.int ((ws.map D.str).length : Nat))) _ _
  rw [eqD_int, hl]
  by_cases c : n = ws.length
  · have e1 : ((n : Int) == ((ws.length : Nat) : Int)) = true := by simp [c]
    rw [e1]
    refine s_iteT ?_
    have e2 : ws[n]? = none := by rw [c]; simp
    rw [e2] at q
    exact ⟨_, rfl, q⟩
  · have e1 : ((n : Int) == ((ws.length : Nat) : Int)) = false := by simp; omega
    rw [e1]
    refine s_iteF ?_
    have hi : n < ws.length := by omega
    have e2 : ws[n]? = some ws[n] := List.getElem?_eq_getElem hi
    rw [e2] at q
    refine ⟨rfl, _, wl_w _ _, ?_⟩
    refine ⟨rfl, _, wl_a _ _, ?_⟩
    have e3 : (ws.map D.str)[n]? = some (.str ws[n]) := by rw [List.getElem?_map, e2]; rfl
    refine ⟨_, DL.atI_nat e3, ?_⟩
    exact ⟨_, rfl, q⟩
/-- the next word, which has to be one of fs -/
def F_take (a : Ad) : FMM := fun rs l Qd Qx => ∃ (dx : Addr) (ws fs : List Str) (n : Nat), rs = [.val (.lst (fs.map D.str))] ∧ l = wfx a.Words dx ws n ∧ n ≤ ws.length ∧ wOk ws ∧ (∀ w ∈ fs, PyData.canLay0 (.str w) = true) ∧
  (∀ w, ws[n]? = some w → w ∈ fs → Qd (.val (.str w)) (wfx a.Words dx ws (n + 1))) ∧ ((∀ w, ws[n]? = some w → w ∉ fs) → Qx ⟨a.x_BadText, "at", .int n⟩)
theorem small_nat {n : Nat} (h : n ≤ 100000) : SmallD (.int (n : Int)) := .int _ (by
  show n.log2 < 1000
  exact Nat.lt_of_le_of_lt (Nat.log2_le_self n |> fun h2 => Nat.le_trans (Nat.le_of_lt_succ (Nat.lt_succ_of_le (by
    by_cases c : n = 0
    · rw [c]
      exact (by decide : Nat.log2 0 ≤ 17)
    · exact Nat.le_of_lt_succ ((Nat.log2_lt c).mpr (by omega : n < 2 ^ 18))))) (Nat.le_refl 17)) (by decide))
theorem take_body (a : Ad) {F : FMM} (hF : ∀ rs l Q Qx, F_ahead a rs l Q Qx → F rs l Q Qx) : ∀ rs l Qd Qx, F_take a rs l Qd Qx → bodyM 3 (m_Words_take a F) rs l Qd Qx := by
  rintro rs l Qd Qx ⟨dx, ws, fs, n, rfl, rfl, hn, hw, hf, q1, q2⟩ p
  unfold m_Words_take
  show dSeq _ _ _ [some (.fix p (wfx a.Words dx ws n)), some (.val (.lst (fs.map D.str))), none]
  refine ⟨rfl, wn_ahead, hF _ _ _ _ ⟨dx, ws, n, rfl, rfl, hn, rfl, ?_⟩⟩
  have hfo := okD_strs hf
  cases hx : ws[n]? with
  | none =>
    have e : (!inD .non (fs.map D.str)) = true := by rw [inD_nons]; rfl
    walk_at "go"
    exact ⟨small_nat (Nat.le_trans hn hw.1), q2 fun w hw => by rw [hx] at hw; cases hw⟩
  | some w =>
    have hwl := (hw.2 w (List.mem_of_getElem? hx)).2
    have hwo := okD_str hwl
    by_cases c : w ∈ fs
    · have e : (!inD (.str w) (fs.map D.str)) = false := by rw [inD_strs, decide_eq_true c]; rfl
      walk_at "go"
      exact q1 w hx c
    · have e : (!inD (.str w) (fs.map D.str)) = true := by rw [inD_strs, decide_eq_false c]; rfl
      walk_at "go"
      exact ⟨small_nat (Nat.le_trans hn hw.1), q2 fun v hv => by rw [hx] at hv; cases hv; exact c⟩
/-- no word is left -/
def F_finish (a : Ad) : FMM := fun rs l Qd Qx => ∃ (dx : Addr) (ws : List Str) (n : Nat), rs = [] ∧ l = wfx a.Words dx ws n ∧ n ≤ ws.length ∧ wOk ws ∧
  (n = ws.length → Qd (.val .non) l) ∧ (n < ws.length → Qx ⟨a.x_BadText, "at", .int n⟩)
theorem finish_body (a : Ad) : ∀ rs l Qd Qx, F_finish a rs l Qd Qx → bodyM 1 (m_Words_finish a) rs l Qd Qx := by
  rintro rs l Qd Qx ⟨dx, ws, n, rfl, rfl, hn, hw, q1, q2⟩ p
  unfold m_Words_finish
  show dIfS _ _ _ _ [some (.fix p (wfx a.Words dx ws n))]
  have hl : ((ws.map D.str).length : Int) = (ws.length : Nat) := by rw [List.length_map]
  refine ⟨rfl, _, wl_a _ _, ?_⟩
  refine ⟨rfl, _, wl_w _ _, ?_⟩
  by_cases c : n < ws.length
  · have e1 : decide ((n : Int) < ((ws.map D.str).length : Nat)) = true := by rw [hl]; exact decide_eq_true (by omega)
    walk_at "go"
    exact ⟨small_nat (Nat.le_trans hn hw.1), q2 c⟩
  · have e1 : decide ((n : Int) < ((ws.map D.str).length : Nat)) = false := by rw [hl]; exact decide_eq_false (by omega)
    walk_at "go"
    exact q1 (by omega)
/-- a text's words -/
def wordsOf (t : Str) : List Str := if t.length = 0 then [] else Txt.split t " "
def F_winit (a : Ad) : FMM := fun rs l Qd Qx => ∃ (dx : Addr) (t : Str), rs = [.val (.str t)] ∧ l = .ins a.Words dx [] [] ∧ t.length + 2 ≤ sizeLine ∧ Qd (.val .non) (wfx a.Words dx (wordsOf t) 0)
theorem winit_body (a : Ad) : ∀ rs l Qd Qx, F_winit a rs l Qd Qx → bodyM 2 (m_Words_initdd a) rs l Qd Qx := by
  rintro rs l Qd Qx ⟨dx, t, rfl, rfl, ht, q⟩ p
  unfold m_Words_initdd
  show dSeq _ _ _ [some (.fix p (.ins a.Words dx [] [])), some (.val (.str t))]
  have h1 : truD (.str t) = some ((t.length : Int) != 0) := by
    show (if t.length ≤ sizeLine then _ else _) = _
    rw [if_pos (by omega)]
  refine ⟨_, h1, ?_⟩
  unfold wordsOf at q
  by_cases c : t.length = 0
  · have e1 : ((t.length : Int) != 0) = false := by simp [c]
    rw [e1]
    rw [if_pos c] at q
    refine s_iteF ?_
    refine ⟨[], rfl, by decide, ?_⟩
    walk_at "go"
    exact q
  · have e1 : ((t.length : Int) != 0) = true := by simp; omega
    rw [e1]
    rw [if_neg c] at q
    refine s_iteT ?_
    refine ⟨⟨t, rfl⟩, ⟨by decide +kernel, ht⟩, ?_⟩
    walk_at "go"
    exact q
end G
end

section
set_option Elab.async false
set_option linter.all false
set_option maxRecDepth 100000
set_option maxHeartbeats 4000000
namespace G
open PySem PySem.Spec PyProof.Rows L2 DL
local macro_rules | `(tactic| walk_at "ok1") => `(tactic| first | exact okD_int _ | exact okD_bl _ | exact okD_non | exact okD_str (by assumption) | assumption)
local macro_rules | `(tactic| walk_at "go1") => `(tactic| ((conv => whnf); first
  | refine s_iteT ?_ | refine s_iteF ?_
  | refine ⟨⟨by walk_at "ok1", by walk_at "ok1"⟩, ?_⟩
  | refine ⟨_, rfl, ?_⟩
  | refine ⟨rfl, ?_⟩
  | refine ⟨Nat.le_of_ble_eq_true rfl, ?_⟩
  | refine ⟨_, isB_tuple (by assumption), ?_⟩
  | refine ⟨_, isB_list (by assumption), ?_⟩
  | refine ⟨_, isB_bool (by assumption), ?_⟩
  | refine ⟨_, isB_int (by assumption), ?_⟩
  | refine ⟨_, isB_str (by assumption), ?_⟩
  | refine ⟨_, by assumption, ?_⟩
  | refine s_ite1 (by assumption) ?_ | refine s_ite0 (by assumption) ?_))
local macro_rules | `(tactic| walk_at "go") => `(tactic| repeat walk_at "go1")
/-- the digits from lo to hi, as words -/
def digsL (lo hi : Nat) : List Str := (List.range' lo (hi + 1 - lo)).map digW
theorem digsL_mem {lo hi : Nat} (h : hi ≤ 9) (w : Str) : w ∈ digsL lo hi ↔ ∃ d, digitOf w = some d ∧ lo ≤ d ∧ d ≤ hi := by
  unfold digsL
  rw [List.mem_map]
  constructor
  · rintro ⟨d, hd, rfl⟩
    rw [List.mem_range'_1] at hd
    refine ⟨d, ?_, by omega, by omega⟩
    have h9 : ∀ d : Nat, d < 10 → digitOf (digW d) = some d := by decide +kernel
    exact h9 d (by omega)
  · rintro ⟨d, h1, h2, h3⟩
    obtain ⟨k1, k2⟩ := digitOf_spec h1
    exact ⟨d, by rw [List.mem_range'_1]; omega, k2.symm⟩
theorem digsL_lay {lo hi : Nat} (h : hi ≤ 9) : ∀ w ∈ digsL lo hi, PyData.canLay0 (.str w) = true := by
  intro w hw
  obtain ⟨d, h1, h2, h3⟩ := (digsL_mem h w).mp hw
  obtain ⟨k1, k2⟩ := digitOf_spec h1
  rw [k2]
  exact (dig_tab d (by omega)).2.2.2
/-- the next word, which has to be a digit from lo to hi -/
def F_number (a : Ad) : FMM := fun rs l Qd Qx => ∃ (dx : Addr) (ws : List Str) (n lo hi : Nat), rs = [.val (.int lo), .val (.int hi)] ∧ l = wfx a.Words dx ws n ∧ n ≤ ws.length ∧ wOk ws ∧ hi ≤ 9 ∧ lo ≤ hi + 1 ∧
  (∀ w d, ws[n]? = some w → digitOf w = some d → lo ≤ d → d ≤ hi → Qd (.val (.int d)) (wfx a.Words dx ws (n + 1))) ∧ ((∀ w d, ws[n]? = some w → digitOf w = some d → ¬ (lo ≤ d ∧ d ≤ hi)) → Qx ⟨a.x_BadText, "at", .int n⟩)
theorem digs_loop {p : Nv} {b c : DL.D} {Q : En → List DL.D → Prop} : ∀ (k lo : Nat) (acc : List DL.D), lo + k ≤ 10 → acc.length ≤ 10 - k → Q [some p, some (.val b), some (.val c), none] (acc ++ ((List.range' lo k).map digW).map D.str) →
    dLcL [3] (dName 3) dYes (dCB mStr (dCons (dVar 3) dNil)) ((List.range' lo k).map fun i : Nat => D.int (i : Int)) [some p, some (.val b), some (.val c), none] acc Q
  | 0, lo, acc, _, _, q => by
    rw [List.range'_zero, List.map_nil, List.map_nil, List.append_nil] at q
    exact q
  | k + 1, lo, acc, h, h2, q => by
    have hs : ((lo : Int)).natAbs.log2 < 1920 := by
      show lo.log2 < 1920
      by_cases c : lo = 0
      · rw [c]
        decide
      · have := (Nat.log2_lt (n := lo) (k := 4) c).mpr (by omega)
        omega
    have key := digs_loop (p := p) (b := b) (c := c) (Q := Q) k (lo + 1) (acc ++ [.str (digW lo)]) (by omega) (by rw [List.length_append, List.length_singleton]; omega) (by
      rw [List.range'_succ, List.map_cons, List.map_cons] at q
      rw [List.append_assoc]
      exact q)
    rw [List.range'_succ, List.map_cons]
    refine s_iteT ?_
    refine ⟨hs, ?_⟩
    refine ⟨by unfold sizeLine; omega, ?_⟩
    exact key
theorem rangeD_nat (lo n : Nat) (h : lo ≤ n) : rangeD lo n = (List.range' lo (n - lo)).map fun i : Nat => D.int (i : Int) := by
  unfold rangeD
  have e : ((n : Int) - (lo : Int)).toNat = n - lo := by omega
  rw [e, List.range'_eq_map_range, List.map_map]
  refine List.map_congr_left fun i _ => ?_
  show DL.D.int ((lo : Int) + (i : Nat)) = DL.D.int ((lo + i : Nat) : Int)
  rw [Int.natCast_add]
theorem number_body (a : Ad) {F : FMM} (hF : ∀ rs l Q Qx, F_take a rs l Q Qx → F rs l Q Qx) : ∀ rs l Qd Qx, F_number a rs l Qd Qx → bodyM 4 (m_Words_number a F) rs l Qd Qx := by
  rintro rs l Qd Qx ⟨dx, ws, n, lo, hi, rfl, rfl, hn, hw, h9, hlo, q1, q2⟩ p
  unfold m_Words_number
  refine ⟨rfl, wn_take, ?_⟩
  refine ⟨⟨by omega, by omega, by omega, by omega⟩, ?_⟩
  refine ⟨rfl, ?_⟩
  have e : ((hi : Int) + 1) = ((hi + 1 : Nat) : Int) := by omega
  show dLcL [3] (dName 3) dYes (dCB mStr (dCons (dVar 3) dNil)) (rangeD (lo : Int) ((hi : Int) + 1)) [some (.fix p (wfx a.Words dx ws n)), some (.val (.int lo)), some (.val (.int hi)), none] [] _
  rw [e, rangeD_nat lo (hi + 1) hlo]
  refine digs_loop (hi + 1 - lo) lo [] (by omega) (Nat.zero_le _) ?_
  refine ⟨rfl, hF _ _ _ _ ⟨dx, ws, digsL lo hi, n, rfl, rfl, hn, hw, digsL_lay h9, fun w h1 h2 => ?_, fun h => q2 fun w d h1 h2 ⟨h3, h4⟩ => h w h1 ((digsL_mem h9 w).mpr ⟨d, h2, h3, h4⟩)⟩⟩
  obtain ⟨d, d1, d2, d3⟩ := (digsL_mem h9 w).mp h2
  obtain ⟨k1, rfl⟩ := digitOf_spec d1
  have k := (dig_tab d (by omega)).1
  refine ⟨_, ⟨k, by rw [(dig_tab d (by omega)).2.1]; decide⟩, ?_⟩
  exact ⟨_, rfl, q1 _ d h1 d1 d2 d3⟩
end G
end

section
set_option Elab.async false
set_option linter.all false
set_option maxRecDepth 100000
set_option maxHeartbeats 4000000
namespace G
open PySem PySem.Spec PyProof.Rows L2 DL
local macro_rules | `(tactic| walk_at "ok1") => `(tactic| first | exact okD_int _ | exact okD_bl _ | exact okD_non | exact okD_str (by assumption) | assumption)
local macro_rules | `(tactic| walk_at "go1") => `(tactic| ((conv => whnf); first
  | refine s_iteT ?_ | refine s_iteF ?_
  | refine ⟨⟨by walk_at "ok1", by walk_at "ok1"⟩, ?_⟩
  | refine ⟨_, rfl, ?_⟩
  | refine ⟨rfl, ?_⟩
  | refine ⟨Nat.le_of_ble_eq_true rfl, ?_⟩
  | refine ⟨_, isB_tuple (by assumption), ?_⟩
  | refine ⟨_, isB_list (by assumption), ?_⟩
  | refine ⟨_, isB_bool (by assumption), ?_⟩
  | refine ⟨_, isB_int (by assumption), ?_⟩
  | refine ⟨_, isB_str (by assumption), ?_⟩
  | refine ⟨_, by assumption, ?_⟩
  | refine s_ite1 (by assumption) ?_ | refine s_ite0 (by assumption) ?_))
local macro_rules | `(tactic| walk_at "go") => `(tactic| repeat walk_at "go1")
/-- the node that the next words write, and how many words it takes; or where they go wrong -/
def rnode (mh : Bool) (room : Nat) (w1 w2 : Option Str) : Except Nat ((Option Int × Nat) × Nat) :=
  match w1 with
  | none => .error 0
  | some w => if mh = true ∧ w = "hole" then .ok ((none, 0), 1) else match digitOf w with
    | none => .error 0
    | some d => match w2.bind digitOf with
      | none => .error 1
      | some c => if c ≤ min 2 room then .ok ((some (d : Int), c), 2) else .error 1
def F_rnode (a : Ad) : FMM := fun rs l Qd Qx => ∃ (dx : Addr) (ws : List Str) (n room : Nat) (mh : Bool), rs = [.val (.bl mh), .val (.int room)] ∧ l = wfx a.Words dx ws n ∧ n ≤ ws.length ∧ wOk ws ∧
  (∀ nd k, rnode mh room ws[n]? ws[n + 1]? = .ok (nd, k) → n + k ≤ ws.length → Qd (.val (ndD nd)) (wfx a.Words dx ws (n + k))) ∧ (∀ k, rnode mh room ws[n]? ws[n + 1]? = .error k → Qx ⟨a.x_BadText, "at", .int (n + k : Nat)⟩)
theorem hole_lay : PyData.canLay0 (.str ("hole" : Str)) = true := by decide +kernel
theorem hole_nodig : digitOf "hole" = none := by decide +kernel
theorem rnode_body (a : Ad) {FA FT FN : FMM} (hA : ∀ rs l Q Qx, F_ahead a rs l Q Qx → FA rs l Q Qx) (hT : ∀ rs l Q Qx, F_take a rs l Q Qx → FT rs l Q Qx) (hN : ∀ rs l Q Qx, F_number a rs l Q Qx → FN rs l Q Qx) : ∀ rs l Qd Qx, F_rnode a rs l Qd Qx → bodyM 4 (m_read_node a FA FT FN) rs l Qd Qx := by
  rintro rs l Qd Qx ⟨dx, ws, n, room, mh, rfl, rfl, hn, hw, q1, q2⟩ p
  unfold m_read_node
  have hin : ∀ {w : Str}, ws[n]? = some w → n + 1 ≤ ws.length := fun h => (List.getElem?_eq_some_iff.mp h).1
  -- behind the test: no hole
  have rest : (∀ w, ws[n]? = some w → ¬ (mh = true ∧ w = "hole")) → (dSeq (dSetP 3 (dMethM a.Words 0 "number" FN (dCons (dKeep (dC (.int 0))) (dCons (dKeep (dC (.int 9))) dNil))))
      (dRetP (dTupP (dConsP (dVar 3) (dEndP (dMethM a.Words 0 "number" FN (dCons (dKeep (dC (.int 0))) (dCons (dKeep (dCB mMin2 (dCons (dC (.int 2)) (dCons (dVar 2) dNil)))) dNil))))))))
      { nx := fun env => ∃ l', Has env 0 (.fix p l') ∧ Qd (.val .non) l', rt := fun env r => ∃ l', Has env 0 (.fix p l') ∧ Qd r l', xc := Qx }
      [some (.fix p (wfx a.Words dx ws n)), some (.val (.bl mh)), some (.val (.int room)), none] := fun hno => by
    refine ⟨rfl, wn_number, ?_⟩
    refine ⟨rfl, hN _ _ _ _ ⟨dx, ws, n, 0, 9, rfl, rfl, hn, hw, by decide, by decide, fun w d h1 h2 h3 h4 => ?_, fun h => ?_⟩⟩
    · have r1 : ∀ w2, rnode mh room ws[n]? w2 = match w2.bind digitOf with
          | none => .error 1
          | some c => if c ≤ min 2 room then .ok ((some (d : Int), c), 2) else .error 1 := fun w2 => by
        unfold rnode
        rw [h1]
        show (if mh = true ∧ w = "hole" then _ else _) = _
        rw [if_neg (hno w h1), h2]
      rw [r1] at q1 q2
      refine ⟨rfl, wn_number, ?_⟩
      have hm : (if (room : Int) < 2 then (room : Int) else 2) = ((min 2 room : Nat) : Int) := by
        by_cases c : room < 2
        · rw [if_pos (by omega)]
          omega
        · rw [if_neg (by omega)]
          omega
      refine ⟨rfl, hN _ _ _ _ ⟨dx, ws, n + 1, 0, min 2 room, ?_, rfl, hin h1, hw, by omega, by omega, fun w' c g1 g2 g3 g4 => ?_, fun h => ?_⟩⟩
      · show [R.val (.int 0), R.val (.int (if (room : Int) < 2 then (room : Int) else 2))] = _
        rw [hm]
        rfl
      · rw [g1] at q1
        refine ⟨by show 2 ≤ sizeLine; decide, wfx a.Words dx ws (n + 1 + 1), rfl, ?_⟩
        have := q1 (some (d : Int), c) 2 (by
          show (match digitOf w' with
            | none => Except.error 1
            | some c => if c ≤ min 2 room then .ok ((some (d : Int), c), 2) else .error 1) = _
          rw [g2]
          exact if_pos g4) (by have := (List.getElem?_eq_some_iff.mp g1).1; omega)
        exact this
      · refine q2 1 ?_
        cases g1 : ws[n + 1]? with
        | none => rfl
        | some w' =>
          show (match digitOf w' with
            | none => Except.error 1
            | some c => if c ≤ min 2 room then .ok ((some (d : Int), c), 2) else .error 1) = _
          cases g2 : digitOf w' with
          | none => rfl
          | some c => exact if_neg fun z => h w' c g1 g2 ⟨Nat.zero_le _, z⟩
    · refine q2 0 ?_
      unfold rnode
      cases h1 : ws[n]? with
      | none => rfl
      | some w =>
        show (if mh = true ∧ w = "hole" then _ else _) = _
        rw [if_neg (hno w h1)]
        cases h2 : digitOf w with
        | none => rfl
        | some d => exact (h w d h1 h2 ⟨Nat.zero_le _, (digitOf_spec h2).1⟩).elim
  cases mh with
  | false =>
    refine ⟨_, rfl, ?_⟩
    refine s_iteF ?_
    exact s_iteF (rest fun w _ z => nomatch z.1)
  | true =>
    refine ⟨_, rfl, ?_⟩
    refine s_iteT ?_
    refine ⟨rfl, wn_ahead, hA _ _ _ _ ⟨dx, ws, n, rfl, rfl, hn, rfl, ?_⟩⟩
    cases h1 : ws[n]? with
    | none =>
      refine ⟨⟨okD_non, okD_str hole_lay⟩, ?_⟩
      have e : eqD .non (.str "hole") = false := eqD_sn _
      refine s_ite0 e ?_
      exact rest fun w h => by rw [h1] at h; cases h
    | some w =>
      refine ⟨⟨okD_str (hw.2 w (List.mem_of_getElem? h1)).2, okD_str hole_lay⟩, ?_⟩
      by_cases c : w = "hole"
      · have e : eqD (.str w) (.str "hole") = true := by rw [eqD_str]; exact beq_iff_eq.mpr c
        refine s_ite1 e ?_
        refine ⟨rfl, wn_take, ?_⟩
        refine ⟨[.str "hole"], rfl, by decide, ?_⟩
        refine ⟨rfl, hT _ _ _ _ ⟨dx, ws, ["hole"], n, rfl, rfl, hn, hw, fun v hv => ?_, fun v g1 g2 => ?_, fun h => ?_⟩⟩
        · rw [List.mem_singleton.mp hv]
          exact hole_lay
        · refine ⟨wfx a.Words dx ws (n + 1), rfl, ?_⟩
          refine q1 (none, 0) 1 ?_ (hin h1)
          rw [h1]
          exact if_pos ⟨rfl, c⟩
        · exact (h w h1 (by rw [c]; exact List.mem_singleton.mpr rfl)).elim
      · have e : eqD (.str w) (.str "hole") = false := by rw [eqD_str]; simpa using c
        refine s_ite0 e ?_
        exact rest fun v h z => by
          rw [h1] at h
          cases h
          exact c z.2
end G
end

section
set_option Elab.async false
set_option linter.all false
set_option maxRecDepth 100000
set_option maxHeartbeats 4000000
namespace G
open PySem PySem.Spec PyProof.Rows L2 DL
/-! ### nodes that make a tree -/
/-- k trees are due, then m -/
def Vn : Nat → List (Option Int × Nat) → Nat → Prop
  | k, [], m => k = m
  | 0, _ :: _, _ => False
  | k + 1, n :: r, m => Vn (k + n.2) r m
theorem Vn.snoc {n : Option Int × Nat} {m : Nat} : ∀ (l : List (Option Int × Nat)) (k : Nat), Vn k l (m + 1) → Vn k (l ++ [n]) (m + n.2)
  | [], k, h => by
    have h' : k = m + 1 := h
    subst h'
    rfl
  | x :: l, 0, h => h.elim
  | x :: l, k + 1, h => Vn.snoc l (k + x.2) h
theorem Vn.trees : ∀ (l : List (Option Int × Nat)) (k : Nat), Vn k l 0 → ∃ ts : List Tr, ts.length = k ∧ Tr.pres ts = l
  | [], k, h => ⟨[], by have h' : k = 0 := h; rw [h']; rfl, rfl⟩
  | x :: l, 0, h => h.elim
  | (a, c) :: l, k + 1, h => by
    obtain ⟨us, h1, h2⟩ := Vn.trees l (k + c) h
    refine ⟨.nd a (us.take c) :: us.drop c, ?_, ?_⟩
    · rw [List.length_cons, List.length_drop, h1]
      omega
    · rw [Tr.pres, Tr.pre, List.cons_append, ← Tr.pres_append, List.take_append_drop, h2, List.length_take, h1]
      congr 2
      omega
theorem Vn.tree {l : List (Option Int × Nat)} (h : Vn 1 l 0) : ∃ t : Tr, t.pre = l := by
  obtain ⟨ts, h1, h2⟩ := Vn.trees l 1 h
  obtain ⟨t, rfl⟩ := List.length_eq_one_iff.mp h1
  refine ⟨t, ?_⟩
  rw [Tr.pres, Tr.pres, List.append_nil] at h2
  exact h2
/-! ### one node's words -/
theorem wrong_step {ws : List Str} {n nodes due : Nat} {holes : Bool} (h : nodes + (due + 1) ≤ 200) :
    wrongF n (ws.drop n) ((due + 1 : Nat) : Int) nodes holes false = match rnode (!holes) (200 - (nodes + (due + 1))) ws[n]? ws[n + 1]? with
      | .ok (nd, k) => wrongF (n + k) (ws.drop (n + k)) ((due + nd.2 : Nat) : Int) ((nodes + 1 : Nat) : Int) (holes || decide (nd = (none, 0))) false
      | .error k => some (n + k) := by
  cases h1 : ws[n]? with
  | none =>
    have e : ws.drop n = [] := List.drop_eq_nil_of_le (List.getElem?_eq_none_iff.mp h1)
    rw [e]
    show wrongF n [] _ _ _ _ = some (n + 0)
    rw [wrongF, if_pos (.inl (by omega))]
    rfl
  | some w =>
    obtain ⟨hi, hw⟩ := List.getElem?_eq_some_iff.mp h1
    have e : ws.drop n = w :: ws.drop (n + 1) := by rw [List.drop_eq_getElem_cons hi, hw]
    rw [e, wrongF, if_neg (fun z => by omega), if_neg Bool.false_ne_true]
    have ed : (((due + 1 : Nat) : Int) - 1) = (due : Nat) := by omega
    rw [ed]
    by_cases c : w = "hole" ∧ holes = false
    · rw [if_pos c]
      have er : ∀ room w2, rnode (!holes) room (some w) w2 = .ok ((none, 0), 1) := fun room w2 => if_pos ⟨by rw [c.2]; rfl, c.1⟩
      rw [er]
      show _ = wrongF (n + 1) (ws.drop (n + 1)) ((due + 0 : Nat) : Int) _ (holes || decide ((none, 0) = (none, 0))) false
      rw [decide_eq_true rfl, Bool.or_true]
      rfl
    · rw [if_neg c]
      have c' : ¬ ((!holes) = true ∧ w = "hole") := fun z => c ⟨z.2, by simpa using z.1⟩
      have er : ∀ room w2, rnode (!holes) room (some w) w2 = match digitOf w with
        | none => .error 0
        | some d => match w2.bind digitOf with
          | none => .error 1
          | some c => if c ≤ min 2 room then .ok ((some (d : Int), c), 2) else .error 1 := fun room w2 => if_neg c'
      rw [er]
      cases h2 : digitOf w with
      | none => rfl
      | some d =>
        show wrongF (n + 1) (ws.drop (n + 1)) _ _ _ true = _
        cases h3 : ws[n + 1]? with
        | none =>
          have e2 : ws.drop (n + 1) = [] := List.drop_eq_nil_of_le (List.getElem?_eq_none_iff.mp h3)
          rw [e2, wrongF, if_pos (.inr rfl)]
          rfl
        | some v =>
          obtain ⟨hi2, hv⟩ := List.getElem?_eq_some_iff.mp h3
          have e2 : ws.drop (n + 1) = v :: ws.drop (n + 1 + 1) := by rw [List.drop_eq_getElem_cons hi2, hv]
          rw [e2, wrongF, if_neg (fun z => nomatch z.2), if_pos rfl]
          show _ = match (match digitOf v with
            | none => Except.error 1
            | some c => if c ≤ min 2 (200 - (nodes + (due + 1))) then .ok ((some (d : Int), c), 2) else .error 1) with
            | .ok (nd, k) => wrongF (n + k) (ws.drop (n + k)) ((due + nd.2 : Nat) : Int) ((nodes + 1 : Nat) : Int) (holes || decide (nd = (none, 0))) false
            | .error k => some (n + k)
          cases h4 : digitOf v with
          | none => rfl
          | some c2 =>
            have em : ((c2 : Int) ≤ (if 200 - ((nodes : Int) + 1) - (due : Int) < 2 then 200 - ((nodes : Int) + 1) - (due : Int) else 2)) ↔ c2 ≤ min 2 (200 - (nodes + (due + 1))) := by
              split <;> omega
            by_cases c3 : c2 ≤ min 2 (200 - (nodes + (due + 1)))
            · show (if _ then _ else _) = match (if c2 ≤ min 2 (200 - (nodes + (due + 1))) then Except.ok ((some (d : Int), c2), 2) else Except.error 1) with
              | Except.ok (nd, k) => wrongF (n + k) (ws.drop (n + k)) ((due + nd.2 : Nat) : Int) ((nodes + 1 : Nat) : Int) (holes || decide (nd = (none, 0))) false
              | Except.error k => some (n + k)
              rw [if_pos (em.mpr c3), if_pos c3]
              show _ = wrongF (n + 2) (ws.drop (n + 2)) ((due + c2 : Nat) : Int) _ (holes || decide ((some (d : Int), c2) = (none, 0))) false
              rw [decide_eq_false (by intro z; cases z), Bool.or_false]
              rfl
            · show (if _ then _ else _) = match (if c2 ≤ min 2 (200 - (nodes + (due + 1))) then Except.ok ((some (d : Int), c2), 2) else Except.error 1) with
              | Except.ok (nd, k) => wrongF (n + k) (ws.drop (n + k)) ((due + nd.2 : Nat) : Int) ((nodes + 1 : Nat) : Int) (holes || decide (nd = (none, 0))) false
              | Except.error k => some (n + k)
              rw [if_neg (fun z => c3 (em.mp z)), if_neg c3]
theorem rnode_words {ws : List Str} {n room k : Nat} {mh : Bool} {nd : Option Int × Nat} (h : rnode mh room ws[n]? ws[n + 1]? = .ok (nd, k)) : okN nd ∧ nd.2 ≤ room ∧ n + k ≤ ws.length ∧ ws.take n ++ ndW nd = ws.take (n + k) := by
  unfold rnode at h
  cases h1 : ws[n]? with
  | none =>
    rw [h1] at h
    cases h
  | some w =>
    obtain ⟨hi, hw⟩ := List.getElem?_eq_some_iff.mp h1
    rw [h1] at h
    have t1 : ws.take (n + 1) = ws.take n ++ [w] := by rw [List.take_succ, h1]; rfl
    replace h : (if mh = true ∧ w = "hole" then Except.ok ((none, 0), 1) else match digitOf w with
        | none => .error 0
        | some d => match (ws[n + 1]?).bind digitOf with
          | none => .error 1
          | some c => if c ≤ min 2 room then .ok ((some (d : Int), c), 2) else .error 1) = Except.ok (nd, k) := h
    by_cases c : mh = true ∧ w = "hole"
    · rw [if_pos c] at h
      cases h
      refine ⟨.inl rfl, Nat.zero_le _, hi, ?_⟩
      rw [t1, c.2]
      rfl
    · rw [if_neg c] at h
      cases h2 : digitOf w with
      | none =>
        rw [h2] at h
        cases h
      | some d =>
        rw [h2] at h
        cases h3 : ws[n + 1]? with
        | none =>
          rw [h3] at h
          cases h
        | some v =>
          obtain ⟨hi2, hv⟩ := List.getElem?_eq_some_iff.mp h3
          have t2 : ws.take (n + 2) = ws.take n ++ [w] ++ [v] := by rw [← t1]; show ws.take (n + 1 + 1) = _; rw [List.take_succ, h3]; rfl
          rw [h3] at h
          replace h : (match digitOf v with
            | none => Except.error 1
            | some c => if c ≤ min 2 room then .ok ((some (d : Int), c), 2) else .error 1) = Except.ok (nd, k) := h
          cases h4 : digitOf v with
          | none =>
            rw [h4] at h
            cases h
          | some c2 =>
            rw [h4] at h
            replace h : (if c2 ≤ min 2 room then Except.ok ((some (d : Int), c2), 2) else .error 1) = Except.ok (nd, k) := h
            by_cases c3 : c2 ≤ min 2 room
            · rw [if_pos c3] at h
              cases h
              obtain ⟨d1, d2⟩ := digitOf_spec h2
              obtain ⟨c4, c5⟩ := digitOf_spec h4
              refine ⟨.inr ⟨d, d1, rfl, by show c2 ≤ 2; omega⟩, by show c2 ≤ room; omega, hi2, ?_⟩
              rw [t2, d2, c5, List.append_assoc]
              rfl
            · rw [if_neg c3] at h
              cases h
end G
end

section
set_option Elab.async false
set_option linter.all false
set_option maxRecDepth 100000
set_option maxHeartbeats 4000000
namespace G
open PySem PySem.Spec PyProof.Rows L2 DL
local macro_rules | `(tactic| walk_at "ok1") => `(tactic| first | exact okD_int _ | exact okD_bl _ | exact okD_non | exact okD_str (by assumption) | assumption)
local macro_rules | `(tactic| walk_at "go1") => `(tactic| ((conv => whnf); first
  | refine s_iteT ?_ | refine s_iteF ?_
  | refine ⟨⟨by walk_at "ok1", by walk_at "ok1"⟩, ?_⟩
  | refine ⟨_, rfl, ?_⟩
  | refine ⟨rfl, ?_⟩
  | refine ⟨Nat.le_of_ble_eq_true rfl, ?_⟩
  | refine ⟨_, isB_tuple (by assumption), ?_⟩
  | refine ⟨_, isB_list (by assumption), ?_⟩
  | refine ⟨_, isB_bool (by assumption), ?_⟩
  | refine ⟨_, isB_int (by assumption), ?_⟩
  | refine ⟨_, isB_str (by assumption), ?_⟩
  | refine ⟨_, by assumption, ?_⟩
  | refine s_ite1 (by assumption) ?_ | refine s_ite0 (by assumption) ?_))
local macro_rules | `(tactic| walk_at "go") => `(tactic| repeat walk_at "go1")
theorem okK_nd (n : Option Int × Nat) : okK 1 (ndD n) := by
  obtain ⟨x, k⟩ := n
  refine okK_tup (k := 0) fun d hd => ?_
  rcases List.mem_cons.mp hd with rfl | hd
  · cases x with
    | none => exact okK_non
    | some a => exact okK_int _
  · rw [List.mem_singleton.mp hd]
    exact okK_int _
theorem okD_nodes (ns : List (Option Int × Nat)) : okD (.lst (ns.map ndD)) := (okK_lst (k := 1) fun d hd => by
  obtain ⟨n, _, rfl⟩ := List.mem_map.mp hd
  exact okK_nd n).ok (by decide)
theorem inD_hole : ∀ ns : List (Option Int × Nat), (∀ n ∈ ns, okN n) → inD (.tup [.non, .int 0]) (ns.map ndD) = decide ((none, 0) ∈ ns)
  | [], _ => rfl
  | x :: ns, h => by
    have ih := inD_hole ns fun n hn => h n (List.mem_cons_of_mem _ hn)
    unfold inD at ih ⊢
    rw [List.map_cons, List.any_cons, ih, hole_eq x (h x (List.mem_cons_self ..))]
    by_cases c : x = (none, 0)
    · subst c
      simp
    · have c2 : ¬ ((none, 0) : Option Int × Nat) = x := fun z => c z.symm
      simp [c, c2]
def F_rtree (a : Ad) : FME := fun rs Qd Qx => ∃ t : Str, rs = [.val (.str t)] ∧ t.length + 2 ≤ sizeLine ∧ wOk (wordsOf t) ∧
  (∀ i, wrongF 0 (wordsOf t) 1 0 false false = some i → Qx ⟨a.x_BadText, "at", .int (i : Nat)⟩) ∧
  (wrongF 0 (wordsOf t) 1 0 false false = none → ∀ tr : Tr, tr.pre.flatMap ndW = wordsOf t → (∀ n ∈ tr.pre, okN n) → tr.size ≤ 200 → Qd (.val tr.d))
abbrev rt_bd (F : FMM) : DSM := dSeq (dSetP 4 (dCallM 1 F (dCons (dKeep (dOp mNotIn (dC (.tup [.non, (.int 0)])) (dVar 2))) (dCons (dKeep (dOp mSub (dC (.int 200)) (dVar 3))) dNil))))
  (dSeq (dApp 2 (dVar 4))
  (dAug 3 mAddI (dOp mIx (dVar 4) (dC (.int 1)))))
theorem rt_loop {a : Ad} {F : FMM} (hF : ∀ rs l Q Qx, F_rnode a rs l Q Qx → F rs l Q Qx) {x : Option Nv} {p dx : Addr} {ws : List Str} (hw : wOk ws) {E : DEn} 
    (qx : ∀ i, wrongF 0 ws 1 0 false false = some i → E.xc ⟨a.x_BadText, "at", .int (i : Nat)⟩)
    (qn : ∀ (n : Nat) (ns : List (Option Int × Nat)) y, n ≤ ws.length → Vn 1 ns 0 → ns.length ≤ 200 → (∀ n ∈ ns, okN n) → ns.flatMap ndW = ws.take n → wrongF 0 ws 1 0 false false = wrongF n (ws.drop n) 0 ns.length (decide ((none, 0) ∈ ns)) false →
      E.nx [x, some (.fix p (wfx a.Words dx ws n)), some (.own (ns.map ndD)), some (.val (.int ns.length)), y]) :
    ∀ (k n due : Nat) (ns : List (Option Int × Nat)) (y : Option Nv), ns.length + k = 201 → n ≤ ws.length → Vn 1 ns due → ns.length + due ≤ 200 → (∀ n ∈ ns, okN n) → ns.flatMap ndW = ws.take n →
      wrongF 0 ws 1 0 false false = wrongF n (ws.drop n) due ns.length (decide ((none, 0) ∈ ns)) false →
      dWh (dB (dOp mLtA (dCB mLen (dCons (dVar 2) dNil)) (dVar 3))) (rt_bd F) E k [x, some (.fix p (wfx a.Words dx ws n)), some (.own (ns.map ndD)), some (.val (.int ((ns.length + due : Nat) : Int))), y]
  | 0, n, due, ns, y, hk, h1, h2, h3, h4, h5, h6 => by omega
  | k + 1, n, due, ns, y, hk, h1, h2, h3, h4, h5, h6 => by
    have hl : ((ns.map ndD).length : Int) = (ns.length : Nat) := by rw [List.length_map]
    cases due with
    | zero =>
      have e1 : decide (((ns.map ndD).length : Int) < ((ns.length + 0 : Nat) : Int)) = false := by rw [hl]; exact decide_eq_false (by omega)
      walk_at "go"
      exact qn n ns y h1 h2 (by omega) h4 h5 h6
    | succ due =>
      have e1 : decide (((ns.map ndD).length : Int) < ((ns.length + (due + 1) : Nat) : Int)) = true := by rw [hl]; exact decide_eq_true (by omega)
      have o1 := hole_okc
      have o2 := okD_nodes ns
      have ih := inD_hole ns h4
      have er : (200 : Int) - ((ns.length + (due + 1) : Nat) : Int) = ((200 - (ns.length + (due + 1)) : Nat) : Int) := by omega
      walk_at "go"
      rw [wrong_step (by omega)] at h6
      refine hF _ _ _ _ ⟨dx, ws, n, 200 - (ns.length + (due + 1)), !decide ((none, 0) ∈ ns), ?_, rfl, h1, hw, fun nd k' g1 g2 => ?_, fun k' g1 => ?_⟩
      · show [R.val (.bl (!inD (.tup [.non, .int 0]) (ns.map ndD))), R.val (.int ((200 : Int) - ((ns.length + (due + 1) : Nat) : Int)))] = _
        rw [ih, er]
      · rw [g1] at h6
        obtain ⟨r1, r2, r3, r4⟩ := rnode_words g1
        have hz : (ns.map ndD).length < sizeLine := by rw [List.length_map]; unfold sizeLine; omega
        walk_at "go"
        refine ⟨hz, ?_⟩
        walk_at "go"
        have key := rt_loop hF hw qx qn k (n + k') (due + nd.2) (ns ++ [nd]) (some (.val (ndD nd))) (x := x) (p := p) (by rw [List.length_append, List.length_singleton]; omega) r3 (Vn.snoc ns 1 h2) (by rw [List.length_append, List.length_singleton]; omega) (fun m hm => by
          rcases List.mem_append.mp hm with hm | hm
          · exact h4 m hm
          · rw [List.mem_singleton.mp hm]
            exact r1) (by rw [List.flatMap_append, h5, ← r4]; show ws.take n ++ (ndW nd ++ []) = _; rw [List.append_nil]) (by
          rw [h6, List.length_append, List.length_singleton]
          show wrongF (n + k') (ws.drop (n + k')) _ _ (decide ((none, 0) ∈ ns) || decide (nd = (none, 0))) false = _
          congr 1
          by_cases c1 : (none, 0) ∈ ns
          · have c2 : ((none, 0) : Option Int × Nat) ∈ ns ++ [nd] := List.mem_append_left _ c1
            rw [decide_eq_true c1, decide_eq_true c2]
            rfl
          · rw [decide_eq_false c1, Bool.false_or]
            by_cases c3 : nd = (none, 0)
            · have c2 : ((none, 0) : Option Int × Nat) ∈ ns ++ [nd] := List.mem_append_right _ (by rw [c3]; exact List.mem_singleton.mpr rfl)
              rw [decide_eq_true c3, decide_eq_true c2]
            · have c2 : ¬ ((none, 0) : Option Int × Nat) ∈ ns ++ [nd] := fun z => by
                rcases List.mem_append.mp z with z | z
                · exact c1 z
                · exact c3 (List.mem_singleton.mp z).symm
              rw [decide_eq_false c3, decide_eq_false c2])
        rw [List.map_append, List.length_append, List.length_singleton] at key
        have e2 : ((ns.length + 1 + (due + nd.2) : Nat) : Int) = (((ns.length + (due + 1) : Nat) : Int) + (nd.2 : Nat)) := by omega
        rw [e2] at key
        exact key
      · rw [g1] at h6
        exact qx _ h6
theorem rtree_body (a : Ad) {FT : FM} {FR FF FI : FMM} (hT : ∀ rs Q, F_tree rs Q → FT rs Q) (hR : ∀ rs l Q Qx, F_rnode a rs l Q Qx → FR rs l Q Qx) (hF : ∀ rs l Q Qx, F_finish a rs l Q Qx → FF rs l Q Qx) (hI : ∀ rs l Q Qx, F_winit a rs l Q Qx → FI rs l Q Qx) : ∀ rs Qd Qx, F_rtree a rs Qd Qx → bodyE 5 (m_read_tree a FT FR FF FI) rs Qd Qx := by
  rintro rs Qd Qx ⟨t, rfl, ht, hw, qx, qt⟩
  unfold m_read_tree
  refine ⟨rfl, fun dx => hI _ _ _ _ ⟨dx, t, rfl, rfl, ht, fun p => ?_⟩⟩
  refine ⟨[], rfl, by decide, ?_⟩
  refine ⟨201, ?_⟩
  refine rt_loop hR hw qx (fun n ns y h1 h2 h3 h4 h5 h6 => ?_) 201 0 1 [] none rfl (Nat.zero_le _) rfl (by decide) (fun n hn => by cases hn) rfl rfl
  refine ⟨rfl, wn_finish, ?_⟩
  refine ⟨rfl, hF _ _ _ _ ⟨dx, wordsOf t, n, rfl, rfl, h1, hw, fun e => ?_, fun e => ?_⟩⟩
  · obtain ⟨tr, rfl⟩ := Vn.tree h2
    have hs : tr.size ≤ 200 := by rw [← Tr.pre_length]; exact h3
    refine ⟨rfl, hT _ _ ⟨tr, rfl, by omega, ?_⟩⟩
    refine qt ?_ tr ?_ h4 hs
    · rw [h6, e, List.drop_length]
      rfl
    · rw [h5, e, List.take_length]
  · refine qx n ?_
    rw [h6, List.drop_eq_getElem_cons e, wrongF]
    exact if_pos ⟨rfl, rfl⟩
end G
end

section
set_option Elab.async false
set_option linter.all false
set_option maxRecDepth 100000
set_option maxHeartbeats 4000000
namespace G
open PySem PySem.Spec PyProof.Rows L2 DL
local macro_rules | `(tactic| walk_at "ok1") => `(tactic| first | exact okD_int _ | exact okD_bl _ | exact okD_non | exact okD_str (by assumption) | assumption)
local macro_rules | `(tactic| walk_at "go1") => `(tactic| ((conv => whnf); first
  | refine s_iteT ?_ | refine s_iteF ?_
  | refine ⟨⟨by walk_at "ok1", by walk_at "ok1"⟩, ?_⟩
  | refine ⟨_, rfl, ?_⟩
  | refine ⟨rfl, ?_⟩
  | refine ⟨Nat.le_of_ble_eq_true rfl, ?_⟩
  | refine ⟨_, isB_tuple (by assumption), ?_⟩
  | refine ⟨_, isB_list (by assumption), ?_⟩
  | refine ⟨_, isB_bool (by assumption), ?_⟩
  | refine ⟨_, isB_int (by assumption), ?_⟩
  | refine ⟨_, isB_str (by assumption), ?_⟩
  | refine ⟨_, by assumption, ?_⟩
  | refine s_ite1 (by assumption) ?_ | refine s_ite0 (by assumption) ?_))
local macro_rules | `(tactic| walk_at "go") => `(tactic| repeat walk_at "go1")
theorem ndW_len (n : Option Int × Nat) : (ndW n).length ≤ 2 := by
  unfold ndW
  split
  · exact (by decide : 1 ≤ 2)
  · exact Nat.le_refl 2
theorem flat_len : ∀ ns : List (Option Int × Nat), (ns.flatMap ndW).length ≤ 2 * ns.length
  | [] => Nat.le_refl _
  | n :: ns => by
    rw [List.flatMap_cons, List.length_append, List.length_cons]
    have := ndW_len n
    have := flat_len ns
    omega
theorem log_dig (n : Nat) (h : n ≤ 9) : ((n : Int)).natAbs.log2 < 1920 := by
  show n.log2 < 1920
  by_cases c : n = 0
  · rw [c]
    decide
  · have := (Nat.log2_lt (n := n) (k := 4) c).mpr (by omega)
    omega
def lEnt (ws : List Str) (r : Nv) : Prop := r = .own (ws.map D.str) ∨ r = .val (.lst (ws.map D.str))
def F_twords (k : Nat) : FMJ := fun rs l m Qd => ∃ i h : Int, rs = [.pool] ∧ l = [.int i] ∧ m = [.int h] ∧ 0 ≤ i ∧ i < k ∧ i ≤ 1000 ∧
  ∀ (t : Tr) (i' h' : Int), 0 ≤ i' → (t.size : Int) + i' ≤ i + 1 → (∀ n ∈ t.pre, okN n) → Qd (.val (.lst ((t.pre.flatMap ndW).map D.str))) [.int i'] [.int h']
abbrev tw_bd (F : FMJ) : DSM := (dIfS (dB (dOp mGtA (dIxF 1 (dC (.int 0))) (dC (.int 0))))
  (dSeq (dPutF 1 (dC (.int 0)) (dOp mSub (dIxF 1 (dC (.int 0))) (dC (.int 1))))
  (dSeq (dSet 6 (dOp mAdd (dVar 6) (dC (.int 1))))
  (dSetP 5 (dOpV 5 mAdd (dCallJ 1 2 F (dConsJ (dKeep (dVar 0)) (dEndJ 1 2)))))))
  dNext)
theorem tw_loop {k : Nat} {F : FMJ} (hF : ∀ rs l m Q, F_twords k rs l m Q → F rs l m Q) {E : DEn} {i0 : Int} {p q : Addr} {z3 z4 : Option Nv} (hi0 : i0 < k + 1) (hi1 : i0 ≤ 1000)
    (qn : ∀ (ts : List Tr) (i h : Int) y5 y, 0 ≤ i → (Tr.sizes ts : Int) + i ≤ i0 → ts.length ≤ 2 → (∀ x ∈ Tr.pres ts, okN x) → lEnt ((Tr.pres ts).flatMap ndW) y5 → E.nx [some .pool, some (.fix p (.lst [.int i])), some (.fix q (.lst [.int h])), z3, z4, some y5, some (.val (.int (ts.length : Nat))), y]) :
    ∀ (rg : List DL.D) (ts : List Tr) (i h : Int) (y5 : Nv) (y : Option Nv), 0 ≤ i → (Tr.sizes ts : Int) + i ≤ i0 → ts.length + rg.length ≤ 2 → (∀ x ∈ Tr.pres ts, okN x) → lEnt ((Tr.pres ts).flatMap ndW) y5 →
    dLoop (dName 7) (tw_bd F) E rg [some .pool, some (.fix p (.lst [.int i])), some (.fix q (.lst [.int h])), z3, z4, some y5, some (.val (.int (ts.length : Nat))), y]
  | [], ts, i, h, y5, y, h1, h2, h3, h4, h5 => qn ts i h y5 y h1 h2 (by simpa using h3) h4 h5
  | d :: rg, ts, i, h, y5, y, h1, h2, h3, h4, h5 => by
    rw [List.length_cons] at h3
    refine ⟨⟨_, _, rfl⟩, ?_⟩
    walk_at "go"
    by_cases c : 0 < i
    · have hc : decide (0 < i) = true := decide_eq_true c
      walk_at "go"
      refine ⟨⟨_, _, rfl⟩, ?_⟩
      walk_at "go"
      refine ⟨⟨_, _, rfl⟩, ?_⟩
      walk_at "go"
      have step : ∀ (t : Tr) (i' h' : Int), 0 ≤ i' → (t.size : Int) + i' ≤ (i - 1) + 1 → (∀ n ∈ t.pre, okN n) → (((Tr.pres ts).flatMap ndW).map D.str).length + ((t.pre.flatMap ndW).map D.str).length ≤ sizeLine ∧
          dLoop (dName 7) (tw_bd F) E rg [some .pool, some (.fix p (.lst [.int i'])), some (.fix q (.lst [.int h'])), z3, z4, some (.val (.lst (((Tr.pres ts).flatMap ndW).map D.str ++ (t.pre.flatMap ndW).map D.str))), some (.val (.int ((ts.length : Int) + 1))), some (.val d)] := fun t i' h' k1 k2 k3 => by
        have key := tw_loop hF hi0 hi1 qn rg (ts ++ [t]) i' h' (.val (.lst (((Tr.pres (ts ++ [t])).flatMap ndW).map D.str))) (some (.val d)) k1 (by rw [Tr.sizes_append, Tr.sizes, Tr.sizes]; omega) (by rw [List.length_append, List.length_singleton]; omega) (by
          rw [Tr.pres_append, Tr.pres, Tr.pres, List.append_nil]
          intro x hx
          exact (List.mem_append.mp hx).elim (h4 x) (k3 x)) (.inr rfl)
        have e1 : (Tr.pres (ts ++ [t])).flatMap ndW = (Tr.pres ts).flatMap ndW ++ t.pre.flatMap ndW := by
          rw [Tr.pres_append, Tr.pres, Tr.pres, List.append_nil, List.flatMap_append]
        have e2 : (((ts ++ [t]).length : Nat) : Int) = (ts.length : Int) + 1 := by rw [List.length_append, List.length_singleton]; omega
        rw [e1, List.map_append, e2] at key
        refine ⟨?_, key⟩
        have l1 := flat_len (Tr.pres ts)
        have l2 := flat_len t.pre
        rw [Tr.pres_length] at l1
        rw [Tr.pre_length] at l2
        rw [List.length_map, List.length_map]
        unfold sizeLine
        omega
      rcases h5 with rfl | rfl
      · refine ⟨rfl, hF _ _ _ _ ⟨i - 1, h, rfl, rfl, rfl, by omega, by omega, by omega, fun t i' h' k1 k2 k3 => ?_⟩⟩
        obtain ⟨a1, a2⟩ := step t i' h' k1 k2 k3
        exact ⟨a1, a2⟩
      · refine ⟨rfl, hF _ _ _ _ ⟨i - 1, h, rfl, rfl, rfl, by omega, by omega, by omega, fun t i' h' k1 k2 k3 => ?_⟩⟩
        obtain ⟨a1, a2⟩ := step t i' h' k1 k2 k3
        exact ⟨a1, a2⟩
    · have hc : decide (0 < i) = false := decide_eq_false c
      walk_at "go"
      exact tw_loop hF hi0 hi1 qn rg ts i h y5 (some (.val d)) h1 h2 (by omega) h4 h5
theorem twords_body {k : Nat} {D : FM} {F : FMJ} (hD : ∀ rs Q, F_draw rs Q → D rs Q) (hF : ∀ rs l m Q, F_twords k rs l m Q → F rs l m Q) : ∀ rs l m Q, F_twords (k + 1) rs l m Q → bodyJ 8 (m_law_tree_words D F) rs l m Q := by
  rintro rs l m Qd ⟨i, h, rfl, rfl, rfl, hi, hk, hk2, qn⟩ p q
  unfold m_law_tree_words
  show dSeq _ _ _ [some .pool, some (.fix p (.lst [.int i])), some (.fix q (.lst [.int h])), none, none, none, none, none]
  have rest : (dSeq (dSet 3 (dLst (dCons (dKeep (dCB mStr (dCons (dCall D (dCons (dKeep (dVar 0)) (dCons (dKeep (dC (.int 10))) dNil))) dNil))) dNil)))
  (dSeq (dSet 4 (dOp mIx (dTup (dCons (dKeep (dC (.int 0))) (dCons (dKeep (dC (.int 1))) (dCons (dKeep (dC (.int 1))) (dCons (dKeep (dC (.int 2))) (dCons (dKeep (dC (.int 2))) dNil)))))) (dCall D (dCons (dKeep (dVar 0)) (dCons (dKeep (dC (.int 5))) dNil)))))
  (dSeq (dSet 5 (dLst dNil))
  (dSeq (dSet 6 (dC (.int 0)))
  (dSeq (dFor (dRng1 (dVar 4)) (dName 7) (tw_bd F))
  (dRet (dKeep (dOp mAdd (dOp mAdd (dVar 3) (dLst (dCons (dKeep (dCB mStr (dCons (dVar 6) dNil))) dNil))) (dVar 5)))))))))
      { nx := fun env => ∃ l' m', Has env 1 (.fix p (.lst l')) ∧ Has env 2 (.fix q (.lst m')) ∧ Qd (.val .non) l' m', rt := fun env r => ∃ l' m', Has env 1 (.fix p (.lst l')) ∧ Has env 2 (.fix q (.lst m')) ∧ Qd r l' m' }
      [some .pool, some (.fix p (.lst [.int i])), some (.fix q (.lst [.int h])), none, none, none, none, none] := by
    walk_at "go"
    refine hD _ _ ⟨10, rfl, ⟨by decide, by decide +kernel⟩, fun a a1 a2 => ?_⟩
    obtain ⟨n, rfl⟩ : ∃ n : Nat, a = (n : Int) := ⟨a.toNat, by omega⟩
    have hn : n ≤ 9 := by omega
    have hs : ((n : Int)).natAbs.log2 < 1920 := log_dig n hn
    refine ⟨hs, ?_⟩
    refine ⟨[.str (digW n)], rfl, by show 1 ≤ sizeLine; decide, ?_⟩
    walk_at "go"
    refine hD _ _ ⟨5, rfl, ⟨by decide, by decide +kernel⟩, fun c c1 c2 => ?_⟩
    obtain ⟨m, hm, hx⟩ : ∃ m : Nat, m ≤ 2 ∧ atI ([.int 0, .int 1, .int 1, .int 2, .int 2] : List DL.D) c = some (.int (m : Int)) := by
      have : c = 0 ∨ c = 1 ∨ c = 2 ∨ c = 3 ∨ c = 4 := by omega
      rcases this with rfl | rfl | rfl | rfl | rfl
      · exact ⟨0, by decide, rfl⟩
      · exact ⟨1, by decide, rfl⟩
      · exact ⟨1, by decide, rfl⟩
      · exact ⟨2, by decide, rfl⟩
      · exact ⟨2, by decide, rfl⟩
    refine ⟨_, hx, ?_⟩
    have hh : 0 ≤ i ∧ i < ((k + 1 : Nat) : Int) := ⟨hi, hk⟩
    clear hx c1 c2 a1 a2 hi hk
    refine ⟨[], rfl, by decide, ?_⟩
    obtain ⟨hi, hk⟩ := hh
    refine ⟨by omega, by omega, ?_⟩
    show dLoop _ _ _ (rangeD 0 (m : Int)) _
    have hl : (rangeD 0 (m : Int)).length ≤ 2 := by
      rw [rangeD_nat', List.length_map, List.length_range']
      exact hm
    refine tw_loop hF (i0 := i) (by omega) hk2 (fun ts i' h' y5 y k1 k2 k3 k4 k5 => ?_) (rangeD 0 (m : Int)) [] i h (.own []) none hi (by rw [Tr.sizes]; omega) (by rw [List.length_nil]; omega) (by rw [Tr.pres]; intro x hx; cases hx) (.inl rfl)
    have key := qn (.nd (some (n : Int)) ts) i' h' k1 (by rw [Tr.size]; omega) (by
      rw [Tr.pre]
      intro x hx
      rcases List.mem_cons.mp hx with rfl | hx
      · exact .inr ⟨n, hn, rfl, k3⟩
      · exact k4 x hx)
    have ht : (ts.length : Int).natAbs.log2 < 1920 := log_dig ts.length (by omega)
    have e : ((Tr.nd (some (n : Int)) ts).pre.flatMap ndW).map DL.D.str = ([DL.D.str (digW n)] ++ [DL.D.str (digW ts.length)]) ++ ((Tr.pres ts).flatMap ndW).map DL.D.str := by
      rw [Tr.pre]
      rfl
    rw [e] at key
    have l1 := flat_len (Tr.pres ts)
    rw [Tr.pres_length] at l1
    have hz : (([DL.D.str (digW n)] ++ [DL.D.str (digW ts.length)]) : List DL.D).length + (((Tr.pres ts).flatMap ndW).map DL.D.str).length ≤ sizeLine := by
      rw [List.length_map]
      show 2 + _ ≤ _
      unfold sizeLine
      omega
    rcases k5 with rfl | rfl
    · refine ⟨ht, ?_⟩
      refine ⟨[.str (digW ts.length)], rfl, by show 1 ≤ sizeLine; decide, ?_⟩
      refine ⟨by show 2 ≤ sizeLine; decide, ?_⟩
      refine ⟨hz, ?_⟩
      exact ⟨_, _, rfl, rfl, key⟩
    · refine ⟨ht, ?_⟩
      refine ⟨[.str (digW ts.length)], rfl, by show 1 ≤ sizeLine; decide, ?_⟩
      refine ⟨by show 2 ≤ sizeLine; decide, ?_⟩
      refine ⟨hz, ?_⟩
      exact ⟨_, _, rfl, rfl, key⟩
  refine ⟨⟨_, _, rfl⟩, ?_⟩
  by_cases c : 0 < h
  · have hc : decide (0 < h) = true := decide_eq_true c
    walk_at "go"
    refine hD _ _ ⟨5, rfl, ⟨by decide, by decide +kernel⟩, fun a a1 a2 => ?_⟩
    have hh : 0 ≤ i ∧ i < ((k + 1 : Nat) : Int) ∧ 0 ≤ a ∧ a < 5 := ⟨hi, hk, a1, a2⟩
    clear a1 a2 hi hk
    by_cases c2 : a = 0
    · have e : eqD (.int a) (.int 0) = true := by rw [eqD_int]; exact beq_iff_eq.mpr c2
      walk_at "go"
      refine ⟨⟨_, _, rfl⟩, ?_⟩
      walk_at "go"
      refine ⟨_, _, rfl, rfl, ?_⟩
      refine qn (.nd none []) i 0 hh.1 (by rw [Tr.size, Tr.sizes]; omega) ?_
      rw [Tr.pre, Tr.pres]
      intro x hx
      rw [List.mem_singleton.mp hx]
      exact .inl rfl
    · have e : eqD (.int a) (.int 0) = false := by rw [eqD_int]; simpa using c2
      refine ⟨⟨okD_int _, okD_int _⟩, ?_⟩
      refine s_ite0 e ?_
      exact rest
  · have hc : decide (0 < h) = false := decide_eq_false c
    refine ⟨_, rfl, ?_⟩
    refine s_ite0 hc ?_
    exact s_iteF rest
end G
end

section
set_option Elab.async false
set_option linter.all false
set_option maxRecDepth 100000
set_option maxHeartbeats 4000000
namespace G
open PySem PySem.Spec PyProof.Rows L2 DL
/-! ### words joined by a blank, and cut again -/
theorem tl_eq (x : Str) : TL.tl x = x.cps.toList := rfl
theorem blank_tl : TL.tl (" " : Str) = [32] := by decide +kernel
def cnt (ps : List (List Nat)) : Nat := (ps.map fun p => 1 + p.count 32).sum
theorem cnt_joinL : ∀ ps : List (List Nat), ps ≠ [] → (TL.joinL [32] ps).count 32 + 1 = cnt ps
  | [], h => absurd rfl h
  | [p], _ => by
    show p.count 32 + 1 = 1 + p.count 32 + 0
    omega
  | p :: q :: r, _ => by
    have ih := cnt_joinL (q :: r) (by simp)
    show (p ++ ([32] ++ TL.joinL [32] (q :: r))).count 32 + 1 = 1 + p.count 32 + cnt (q :: r)
    rw [List.count_append, List.count_append, ← ih]
    have : ([32] : List Nat).count 32 = 1 := rfl
    omega
theorem len_joinL : ∀ ps : List (List Nat), (TL.joinL [32] ps).length ≤ (ps.map fun p => 1 + p.length).sum
  | [] => Nat.le_refl _
  | [p] => by
    show p.length ≤ 1 + p.length + 0
    omega
  | p :: q :: r => by
    have ih := len_joinL (q :: r)
    show (p ++ ([32] ++ TL.joinL [32] (q :: r))).length ≤ 1 + p.length + ((q :: r).map fun p => 1 + p.length).sum
    rw [List.length_append, List.length_append]
    have : ([32] : List Nat).length = 1 := rfl
    omega
theorem sub_joinL : ∀ ps : List (List Nat), ∀ p ∈ ps, p.length ≤ (TL.joinL [32] ps).length ∧ ∀ c ∈ p, c ∈ TL.joinL [32] ps
  | [], p, h => by cases h
  | [q], p, h => by
    rw [List.mem_singleton.mp h]
    exact ⟨Nat.le_refl _, fun c h => h⟩
  | a :: q :: r, p, h => by
    show p.length ≤ (a ++ ([32] ++ TL.joinL [32] (q :: r))).length ∧ ∀ c ∈ p, c ∈ a ++ ([32] ++ TL.joinL [32] (q :: r))
    rw [List.length_append, List.length_append]
    rcases List.mem_cons.mp h with rfl | h
    · exact ⟨by omega, fun c hc => List.mem_append_left _ hc⟩
    · obtain ⟨h1, h2⟩ := sub_joinL (q :: r) p h
      exact ⟨by omega, fun c hc => List.mem_append_right _ (List.mem_append_right _ (h2 c hc))⟩
theorem mem_joinL : ∀ ps : List (List Nat), ∀ c ∈ TL.joinL [32] ps, c = 32 ∨ ∃ p ∈ ps, c ∈ p
  | [], c, h => by cases h
  | [q], c, h => .inr ⟨q, List.mem_singleton.mpr rfl, h⟩
  | a :: q :: r, c, h => by
    have h : c ∈ a ++ ([32] ++ TL.joinL [32] (q :: r)) := h
    rcases List.mem_append.mp h with h | h
    · exact .inr ⟨a, List.mem_cons_self .., h⟩
    · rcases List.mem_append.mp h with h | h
      · exact .inl (List.mem_singleton.mp h)
      · rcases mem_joinL (q :: r) c h with h | ⟨p, h1, h2⟩
        · exact .inl h
        · exact .inr ⟨p, List.mem_cons_of_mem _ h1, h2⟩
theorem tl_joined (ws : List Str) : TL.tl (Txt.join " " ws) = TL.joinL [32] (ws.map TL.tl) := by
  rw [TL.join_eq, TL.tl_join, blank_tl]
theorem wt_cnt (ws : List Str) : wt ws = cnt (ws.map TL.tl) := by
  unfold wt cnt
  rw [List.map_map]
  rfl
theorem join_of_split (t : Str) : Txt.join " " (Txt.split t " ") = t := by
  rw [TL.join_eq, StrLaws.join_split]
theorem split_part (t : Str) : ∀ p ∈ Txt.split t " ", p.length ≤ t.length ∧ ∀ c ∈ p.cps.toList, c ∈ t.cps.toList := fun p hp => by
  have e := tl_joined (Txt.split t " ")
  rw [join_of_split] at e
  obtain ⟨h1, h2⟩ := sub_joinL _ (TL.tl p) (List.mem_map_of_mem hp)
  rw [← e] at h1 h2
  exact ⟨by rw [TL.len_tl p, TL.len_tl t]; exact h1, h2⟩
theorem blank_one : (" " : Str) = ⟨#[32]⟩ := TL.ext_tl blank_tl
theorem split_no (t : Str) : ∀ p ∈ Txt.split t " ", p.cps.toList.count 32 = 0 := fun p hp => by
  rw [blank_one] at hp
  exact List.count_eq_zero.mpr (StrLaws.split_free t 32 p hp)
theorem cnt_free : ∀ ws : List Str, (∀ p ∈ ws, p.cps.toList.count 32 = 0) → wt ws = ws.length
  | [], _ => rfl
  | w :: ws, h => by
    have ih := cnt_free ws fun p hp => h p (List.mem_cons_of_mem _ hp)
    show 1 + w.cps.toList.count 32 + wt ws = ws.length + 1
    rw [h w (List.mem_cons_self ..), ih]
    omega
theorem split_count (t : Str) : (Txt.split t " ").length ≤ t.cps.toList.count 32 + 1 := by
  by_cases c : Txt.split t " " = []
  · rw [c]
    exact Nat.zero_le _
  · have e := tl_joined (Txt.split t " ")
    rw [join_of_split] at e
    have k := cnt_joinL ((Txt.split t " ").map TL.tl) (fun z => c (List.map_eq_nil_iff.mp z))
    rw [← e, ← wt_cnt, cnt_free _ (split_no t)] at k
    rw [← k]
    exact Nat.le_refl _
theorem split_wt (ws : List Str) : (Txt.split (Txt.join " " ws) " ").length ≤ wt ws + 1 := by
  refine Nat.le_trans (split_count _) ?_
  by_cases c : ws = []
  · subst c
    decide +kernel
  · have k := cnt_joinL (ws.map TL.tl) (fun z => c (List.map_eq_nil_iff.mp z))
    rw [← tl_joined, ← wt_cnt] at k
    have : (Txt.join " " ws).cps.toList.count 32 + 1 = wt ws := k
    omega
theorem join_len {n L : Nat} {ws : List Str} (h : okWs n L ws) : okW (n * (L + 1)) (Txt.join " " ws) := by
  refine ⟨?_, fun c hc => ?_⟩
  · rw [TL.len_tl, tl_joined]
    refine Nat.le_trans (len_joinL _) ?_
    rw [List.map_map]
    have key : ∀ ws : List Str, (∀ w ∈ ws, w.length ≤ L) → (ws.map ((fun p : List Nat => 1 + p.length) ∘ TL.tl)).sum ≤ ws.length * (L + 1) := by
      intro ws
      induction ws with
      | nil => exact fun _ => Nat.zero_le _
      | cons w ws ih =>
        intro hw
        have h1 := ih fun v hv => hw v (List.mem_cons_of_mem _ hv)
        have h2 := hw w (List.mem_cons_self ..)
        rw [TL.len_tl] at h2
        rw [List.map_cons, List.sum_cons, List.length_cons, Nat.succ_mul]
        show 1 + (TL.tl w).length + _ ≤ _
        omega
    exact Nat.le_trans (key ws fun w hw => (h.2 w hw).1) (Nat.mul_le_mul_right _ h.1)
  · rw [← tl_eq, tl_joined] at hc
    rcases mem_joinL _ c hc with rfl | ⟨p, h1, h2⟩
    · decide
    · obtain ⟨w, hw, rfl⟩ := List.mem_map.mp h1
      exact (h.2 w hw).2 c h2
theorem sum_len {n L : Nat} {ws : List Str} (h : okWs n L ws) : (ws.map (·.length)).sum + ws.length * (" " : Str).length ≤ n * (L + 1) := by
  have e : (" " : Str).length = 1 := by decide +kernel
  rw [e]
  have key : ∀ ws : List Str, (∀ w ∈ ws, w.length ≤ L) → (ws.map (·.length)).sum + ws.length * 1 ≤ ws.length * (L + 1) := by
    intro ws
    induction ws with
    | nil => exact fun _ => by simp
    | cons w ws ih =>
      intro hw
      have h1 := ih fun v hv => hw v (List.mem_cons_of_mem _ hv)
      have h2 := hw w (List.mem_cons_self ..)
      rw [List.map_cons, List.sum_cons, List.length_cons, Nat.succ_mul ws.length (L + 1)]
      omega
  exact Nat.le_trans (key ws fun w hw => (h.2 w hw).1) (Nat.mul_le_mul_right _ h.1)
theorem split_okWs {L m : Nat} {t : Str} (h : okW L t) (hm : (Txt.split t " ").length ≤ m) : okWs m L (Txt.split t " ") :=
  ⟨hm, fun p hp => ⟨Nat.le_trans (split_part t p hp).1 h.1, fun c hc => h.2 c ((split_part t p hp).2 c hc)⟩⟩
end G
end

section
set_option Elab.async false
set_option linter.all false
set_option maxRecDepth 100000
set_option maxHeartbeats 4000000
namespace G
open PySem PySem.Spec PyProof.Rows L2 DL
local macro_rules | `(tactic| walk_at "ok1") => `(tactic| first | exact okD_int _ | exact okD_bl _ | exact okD_non | exact okD_str (by assumption) | assumption)
local macro_rules | `(tactic| walk_at "go1") => `(tactic| ((conv => whnf); first
  | refine s_iteT ?_ | refine s_iteF ?_
  | refine ⟨⟨by walk_at "ok1", by walk_at "ok1"⟩, ?_⟩
  | refine ⟨_, rfl, ?_⟩
  | refine ⟨rfl, ?_⟩
  | refine ⟨Nat.le_of_ble_eq_true rfl, ?_⟩
  | refine ⟨_, isB_tuple (by assumption), ?_⟩
  | refine ⟨_, isB_list (by assumption), ?_⟩
  | refine ⟨_, isB_bool (by assumption), ?_⟩
  | refine ⟨_, isB_int (by assumption), ?_⟩
  | refine ⟨_, isB_str (by assumption), ?_⟩
  | refine ⟨_, by assumption, ?_⟩
  | refine s_ite1 (by assumption) ?_ | refine s_ite0 (by assumption) ?_))
local macro_rules | `(tactic| walk_at "go") => `(tactic| repeat walk_at "go1")
/-! the pool made of a script -/
def F_pool : FM := fun rs Qd => ∃ (ns : List Int) (b : Int), rs = [.val (.scr ns), .val (.int b)] ∧ Qd (.own [.lst (ns.map D.int), .int 0, .int 0, .int 1, .int 0, .int b])
theorem pool_body : ∀ rs Qd, F_pool rs Qd → bodyF 2 m_law_pool rs Qd := by
  rintro rs Qd ⟨ns, b, rfl, q⟩
  unfold m_law_pool
  show dRet _ _ [some (.val _), some (.val _)]
  walk_at "go"
  exact q
/-! two numbers are held against each other where an error is at hand -/
def F_hot : FM := fun rs Qd => ∃ i j : Int, rs = [.val (.int i), .val (.int j)] ∧ Qd (.val (.bl (i == j)))
theorem hot_body : ∀ rs Qd, F_hot rs Qd → bodyF 3 mh_law_same rs Qd := by
  rintro rs Qd ⟨i, j, rfl, q⟩
  unfold mh_law_same
  show dSeq _ _ _ [some (.val _), some (.val _), none]
  walk_at "go"
  rw [← eqD_int] at q
  exact q
theorem FnHimp {P : Program} {w : World} {K : PySem.W.Frag} {mg : Str → Option Value} {base : Heap} {CX : CXT} {k : Nat} {f : Addr} {fd : FuncData} {ps : List Str} {sp sp' : Sp} (h : ∀ vs H Q E, sp' vs H Q E → sp vs H Q E) (F : L2H.FnH P w K mg base CX k f fd ps sp) : L2H.FnH P w K mg base CX k f fd ps sp' :=
  ⟨fun vs H Q E z => F.len vs H Q E (h vs H Q E z), fun A outer s H args us vs Q E p h1 h2 h3 h4 h5 h6 h7 => F.run A outer s H args us vs Q E p h1 h2 h3 h4 h5 h6 (h vs H Q E h7)⟩
section
variable {P : Program} {w : World} {K : PySem.W.Frag} {mg : Str → Option Value} {base : Heap} {a : Ad}
abbrev PP := PySem.Challenge.pw_someobjects_k02_whole_texts_of_trees
theorem pool_ok (T : Tx K mg a) : FnOk P w K mg base CX0 1 a.f_law_pool a.d_law_pool ["script", "budget"] (spF K 2 F_pool) := (b_law_pool T (k := 0)).imp (spF.imp pool_body)
theorem hot_ok (T : Tx K mg a) {k : Nat} : L2H.FnH P w K mg base CX0 (k + 1) a.f_law_same a.d_law_same ["actual", "due"] (spF K 2 F_hot) := 
  FnHimp (spF.imp hot_body) (hb_law_same T (k := k))
theorem twords_ok (T : Tx K mg a) : ∀ k, FnOk P w K mg base CX0 (k + 1) a.f_law_tree_words a.d_law_tree_words ["pool", "left", "hole"] (spJ K 3 (F_twords k))
  | 0 => ⟨fun vs H Q E ⟨S, pa, vs0, p, q, rs, l, m, Qd, e1, e2, e3, e4, e5, e6, e7, e8⟩ => e5, fun A outer s H args us vs Q E hr he hb hv ⟨S, pa, vs0, p, q, rs, l, m, Qd, e1, e2, e3, e4, e5, e6, e7, e8, ⟨i, h, f1, f2, f3, f4, f5, _⟩, _⟩ => by
      omega⟩
  | k + 1 => (b_law_tree_words T ((draw_okT T).up (Nat.le_add_left 1 k)) (twords_ok T k)).imp (spJ.imp (twords_body (fun _ _ h => h) fun _ _ _ _ h => h))
theorem winit_ok (T : Tx K mg a) {k : Nat} : FnOk PP w K mg base (L2N.CX PP w) (k + 1) a.f_Words_initdd a.d_Words_initdd ["self", "text"] (spM K 2 (F_winit a)) := (b_Words_initdd T (k := k)).imp (spM.imp (winit_body a))
theorem ahead_ok (T : Tx K mg a) {k : Nat} : FnOk PP w K mg base (L2N.CX PP w) (k + 1) a.f_Words_ahead a.d_Words_ahead ["self"] (spM K 1 (F_ahead a)) := (b_Words_ahead T (k := k)).imp (spM.imp (ahead_body a))
theorem take_ok (T : Tx K mg a) {k : Nat} : FnOk PP w K mg base (L2N.CX PP w) (k + 2) a.f_Words_take a.d_Words_take ["self", "fitting"] (spM K 2 (F_take a)) := (b_Words_take T (ahead_ok T)).imp (spM.imp (take_body a fun _ _ _ _ h => h))
theorem number_ok (T : Tx K mg a) {k : Nat} : FnOk PP w K mg base (L2N.CX PP w) (k + 3) a.f_Words_number a.d_Words_number ["self", "low", "high"] (spM K 3 (F_number a)) := (b_Words_number T (take_ok T)).imp (spM.imp (number_body a fun _ _ _ _ h => h))
theorem finish_ok (T : Tx K mg a) {k : Nat} : FnOk PP w K mg base (L2N.CX PP w) (k + 1) a.f_Words_finish a.d_Words_finish ["self"] (spM K 1 (F_finish a)) := (b_Words_finish T (k := k)).imp (spM.imp (finish_body a))
theorem rnode_ok (T : Tx K mg a) {k : Nat} : FnOk PP w K mg base (L2N.CX PP w) (k + 4) a.f_read_node a.d_read_node ["words", "may_be_hole", "room"] (spM K 3 (F_rnode a)) := (b_read_node T (ahead_ok T) (take_ok T) (number_ok T)).imp (spM.imp (rnode_body a (fun _ _ _ _ h => h) (fun _ _ _ _ h => h) fun _ _ _ _ h => h))
theorem rtree_ok (T : Tx K mg a) {k : Nat} : FnOk PP w K mg base (L2N.CX PP w) (k + 5) a.f_read_tree a.d_read_tree ["text"] (spE K 1 (F_rtree a)) :=
  (b_read_tree T (k := k + 3) ((tree_ok T).up (Nat.le_add_left 1 _)) (rnode_ok T) (finish_ok T) (winit_ok T)).imp (spE.imp (rtree_body a (fun _ _ h => h) (fun _ _ _ _ h => h) (fun _ _ _ _ h => h) fun _ _ _ _ h => h))
end
end G
end

section
set_option Elab.async false
set_option linter.all false
set_option maxRecDepth 100000
set_option maxHeartbeats 4000000
namespace G
open PySem PySem.Spec PyProof.Rows L2 DL
/-! ### trees as data -/
theorem opt_dat (a : Option Int) : isDat (optD a) = true ∧ txtOk (optD a) ∧ depD (optD a) = 0 ∧ sameD (optD a) (optD a) = true := by
  cases a with
  | none => exact ⟨by rw [optD, isDat], by rw [optD, txtOk] <;> intros <;> trivial, by rw [optD, depD] <;> intros <;> contradiction, by rw [optD, sameD]⟩
  | some i => exact ⟨by rw [optD, isDat], by rw [optD, txtOk] <;> intros <;> trivial, by rw [optD, depD] <;> intros <;> contradiction, by rw [optD, sameD]; exact beq_self_eq_true i⟩
mutual
theorem tr_dat : ∀ t : Tr, isDat t.d = true
  | .nd a cs => by
    rw [Tr.d, isDat, isDats, isDats, isDats, isDat, (opt_dat a).1, trs_dat cs]
    rfl
theorem trs_dat : ∀ ts : List Tr, isDats (Tr.ds ts) = true
  | [] => by rw [Tr.ds, isDats]
  | t :: r => by rw [Tr.ds, isDats, tr_dat t, trs_dat r]; rfl
end
mutual
theorem tr_same : ∀ t : Tr, sameD t.d t.d = true
  | .nd a cs => by
    rw [Tr.d, sameD, sameDs, sameDs, sameDs, sameD, (opt_dat a).2.2.2, trs_same cs]
    rfl
theorem trs_same : ∀ ts : List Tr, sameDs (Tr.ds ts) (Tr.ds ts) = true
  | [] => by rw [Tr.ds, sameDs]
  | t :: r => by rw [Tr.ds, sameDs, tr_same t, trs_same r]; rfl
end
mutual
theorem tr_txt : ∀ t : Tr, t.size ≤ sizeLine → txtOk t.d
  | .nd a cs, h => by
    rw [Tr.size] at h
    rw [Tr.d, txtOk, txtOks, txtOks, txtOks, txtOk]
    have := Tr.len_sizes cs
    exact ⟨by show 2 ≤ sizeLine; decide, (opt_dat a).2.1, ⟨by rw [Tr.ds_length]; omega, trs_txt cs (by omega)⟩, trivial⟩
theorem trs_txt : ∀ ts : List Tr, Tr.sizes ts ≤ sizeLine → txtOks (Tr.ds ts)
  | [], _ => by rw [Tr.ds, txtOks]; trivial
  | t :: r, h => by
    rw [Tr.sizes] at h
    rw [Tr.ds, txtOks]
    exact ⟨tr_txt t (by omega), trs_txt r (by omega)⟩
end
theorem dep_nd (a : Option Int) (cs : List Tr) : depD (Tr.nd a cs).d = depDs (Tr.ds cs) + 2 := by
  rw [Tr.d, depD, depDs, depDs, depDs, depD, (opt_dat a).2.2.1]
  omega
mutual
theorem tr_dep : ∀ t : Tr, depD t.d ≤ 2 * t.size
  | .nd a cs => by
    have := trs_dep cs
    rw [dep_nd, Tr.size]
    omega
theorem trs_dep : ∀ ts : List Tr, depDs (Tr.ds ts) ≤ 2 * Tr.sizes ts
  | [] => by rw [Tr.ds, depDs]; exact Nat.zero_le _
  | t :: r => by
    have := tr_dep t
    have := trs_dep r
    rw [Tr.ds, depDs, Tr.sizes]
    omega
end
theorem size_words : ∀ ns : List (Option Int × Nat), ns.length ≤ (ns.flatMap ndW).length
  | [] => Nat.le_refl _
  | n :: ns => by
    have ih := size_words ns
    rw [List.flatMap_cons, List.length_append, List.length_cons]
    have : 1 ≤ (ndW n).length := by
      obtain ⟨o, k⟩ := n
      cases o with
      | none => exact Nat.le_refl 1
      | some a => exact Nat.le_succ 1
    omega
mutual
theorem tr_dep2 : ∀ t : Tr, (∀ n ∈ t.pre, okN n) → depD t.d ≤ (t.pre.flatMap ndW).length + 1
  | .nd none cs, h => by
    have k : cs = [] := by
      have z := h (none, cs.length) (by rw [Tr.pre]; exact List.mem_cons_self ..)
      rcases z with z | ⟨a, z1, z2, z3⟩
      · have : cs.length = 0 := congrArg Prod.snd z
        exact List.length_eq_zero_iff.mp this
      · cases z2
    subst k
    rw [dep_nd, Tr.ds, depDs, Tr.pre, Tr.pres]
    exact Nat.le_refl 2
  | .nd (some a) cs, h => by
    rw [Tr.pre] at h
    have := trs_dep2 cs fun n hn => h n (List.mem_cons_of_mem _ hn)
    rw [dep_nd, Tr.pre, List.flatMap_cons, List.length_append]
    have e : (ndW (some a, cs.length)).length = 2 := rfl
    omega
theorem trs_dep2 : ∀ ts : List Tr, (∀ n ∈ Tr.pres ts, okN n) → depDs (Tr.ds ts) ≤ ((Tr.pres ts).flatMap ndW).length + 1
  | [], _ => by rw [Tr.ds, depDs]; exact Nat.zero_le _
  | t :: r, h => by
    rw [Tr.pres] at h
    have := tr_dep2 t fun n hn => h n (List.mem_append_left _ hn)
    have := trs_dep2 r fun n hn => h n (List.mem_append_right _ hn)
    rw [Tr.ds, depDs, Tr.pres, List.flatMap_append, List.length_append]
    omega
end
mutual
theorem fill_dep (t : Tr) : ∀ c : Tr, depD (Tr.fill t c).d ≤ depD c.d + depD t.d
  | .nd none [] => by
    rw [Tr.fill]
    omega
  | .nd none (c :: cs) => by
    have := fills_dep t (c :: cs)
    rw [Tr.fill, dep_nd, dep_nd]
    · omega
    · intro h h2; cases h2
  | .nd (some a) cs => by
    have := fills_dep t cs
    rw [Tr.fill, dep_nd, dep_nd]
    · omega
    · intro h; cases h
theorem fills_dep (t : Tr) : ∀ cs : List Tr, depDs (Tr.ds (Tr.fills t cs)) ≤ depDs (Tr.ds cs) + depD t.d
  | [] => by rw [Tr.fills, Tr.ds, depDs]; omega
  | c :: r => by
    have := fill_dep t c
    have := fills_dep t r
    rw [Tr.fills, Tr.ds, Tr.ds, depDs, depDs]
    omega
end
theorem txt_nd {a : Option Int} {cs : List Tr} : txtOk (Tr.nd a cs).d ↔ cs.length ≤ sizeLine ∧ txtOks (Tr.ds cs) := by
  rw [Tr.d, txtOk, txtOks, txtOks, txtOks, txtOk, Tr.ds_length]
  exact ⟨fun h => h.2.2.1, fun h => ⟨by show 2 ≤ sizeLine; decide, (opt_dat a).2.1, h, trivial⟩⟩
mutual
theorem fill_txt (t : Tr) (ht : txtOk t.d) : ∀ c : Tr, txtOk c.d → txtOk (Tr.fill t c).d
  | .nd none [], _ => by rw [Tr.fill]; exact ht
  | .nd none (c :: cs), h => by
    obtain ⟨h1, h2⟩ := txt_nd.mp h
    rw [Tr.fill]
    · exact txt_nd.mpr ⟨by rw [Tr.fills_length]; exact h1, fills_txt t ht _ h2⟩
    · intro h h2; cases h2
  | .nd (some a) cs, h => by
    obtain ⟨h1, h2⟩ := txt_nd.mp h
    rw [Tr.fill]
    · exact txt_nd.mpr ⟨by rw [Tr.fills_length]; exact h1, fills_txt t ht _ h2⟩
    · intro h; cases h
theorem fills_txt (t : Tr) (ht : txtOk t.d) : ∀ cs : List Tr, txtOks (Tr.ds cs) → txtOks (Tr.ds (Tr.fills t cs))
  | [], _ => by rw [Tr.fills, Tr.ds, txtOks]; trivial
  | c :: r, h => by
    rw [Tr.ds, txtOks] at h
    rw [Tr.fills, Tr.ds, txtOks]
    exact ⟨fill_txt t ht c h.1, fills_txt t ht r h.2⟩
end
end G
end

section
set_option Elab.async false
set_option linter.all false
set_option maxRecDepth 100000
set_option maxHeartbeats 4000000
namespace G
open PySem PySem.Spec PyProof.Rows L2 DL
abbrev t42 : DSM :=
  (dRet (dAndV (dCall (F_same 230) (dCons (dKeep (dCall F_row (dCons (dKeep (dVar 13)) dNil))) (dCons (dKeep (dVar 11)) dNil))) (dOp mEq (dCB mList (dCons (dVar 13) dNil)) (dVar 10))))
abbrev t41 : DSM :=
  (dSeq (dSet 13 (dOp mIx (dTup (dCons (dKeep (dVar 10)) (dCons (dKeep (dCB mTuple (dCons (dVar 10) dNil))) dNil))) (dCall F_draw (dCons (dKeep (dVar 1)) (dCons (dKeep (dC (.int 2))) dNil))))) t42)
abbrev t38 : DSM :=
  (dSeq (dSet 11 (dTup (dCons (dKeep (dOp mIx (dVar 10) (dC (.int 0)))) (dCons (dKeep (dTup dNil)) dNil))))
  (dSeq (dFor (dOver (dSl (dVar 10) (dPart (dC (.int 1))) dNoPart)) (dName 12)
  (dSet 11 (dTup (dCons (dKeep (dVar 12)) (dCons (dKeep (dTup (dCons (dKeep (dVar 11)) dNil))) dNil))))) t41))
abbrev t37 : DSM :=
  (dSeq (dSet 10 (dLc (dRng1 (dOp mAdd (dC (.int 1)) (dCall F_draw (dCons (dKeep (dVar 1)) (dCons (dKeep (dC (.int 9))) dNil))))) [14] (dName 14) dYes (dCall F_draw (dCons (dKeep (dVar 1)) (dCons (dKeep (dC (.int 4))) dNil))))) t38)
abbrev t34 : DSM :=
  (dSeq (dIfS (dAnd (dB (dOp mNotIn (dC (.str "hole")) (dVar 2))) (dNot (dTru (dCall (F_same 230) (dCons (dKeep (dCall F_people (dCons (dKeep (dVar 6)) dNil))) (dCons (dKeep (dCall (F_count 230) (dCons (dKeep (dVar 8)) dNil))) dNil))))))
  (dRet (dC (.bl false)))
  dNext) t37)
abbrev t31 : DSM :=
  (dSeq (dIfS (dAnd (dB (dOp mIn (dC (.str "hole")) (dVar 2))) (dNot (dTru (dCall (F_same 230) (dCons (dKeep (dCall F_filled (dCons (dKeep (dVar 6)) (dCons (dKeep (dVar 9)) dNil)))) (dCons (dKeep (dCall (F_lfill 230) (dCons (dKeep (dVar 8)) (dCons (dKeep (dVar 9)) dNil)))) dNil))))))
  (dRet (dC (.bl false)))
  dNext) t34)
abbrev t28 : DSM :=
  (dSeq (dIfS (dNot (dTru (dCall (F_same 230) (dCons (dKeep (dVar 6)) (dCons (dKeep (dVar 8)) dNil)))))
  (dRet (dC (.bl false)))
  dNext) t31)
abbrev t27 : DSM :=
  (dSeq (dSet 9 (dOp mIx (dCall (F_built 230) (dCons (dKeep (dCall2 (F_twords 229) (dCons2 (dKeep (dVar 1)) (dEnd2 (dLst (dCons (dKeep (dC (.int 4))) dNil)) (dLst (dCons (dKeep (dC (.int 0))) dNil)))))) dNil)) (dC (.int 0)))) t28)
abbrev t26 : DSM :=
  (dSeq (dSet 8 (dOp mIx (dCall (F_built 230) (dCons (dKeep (dVar 2)) dNil)) (dC (.int 0)))) t27)
abbrev t23 : DSM :=
  (dSeq (dIfS (dTru (dVar 3))
  (dRet (dOrV (dOp mIn (dC (.str "hole")) (dVar 2)) (dCall (F_same 230) (dCons (dKeep (dCall F_people (dCons (dKeep (dVar 6)) dNil))) (dCons (dKeep (dOp mDiv (dCB mLen (dCons (dVar 2) dNil)) (dC (.int 2)))) dNil)))))
  dNext) t26)
abbrev t20 : DSM :=
  (dSeq (dIfS (dOr (dB (dOp mIsN (dVar 5) (dC .non))) (dNot (dTru (dCall (F_same 230) (dCons (dKeep (dCall F_text (dCons (dKeep (dVar 6)) dNil))) (dCons (dKeep (dVar 4)) dNil))))))
  (dRet (dC (.bl false)))
  dNext) t23)
abbrev t15 (K : PySem.W.Frag) (a : Ad) : DSM :=
  (dSeq (dTryE K (.ref a.e_ObjectError) 6 7 (F_rtree a) (dCons (dKeep (dVar 4)) dNil) (fun e0 cls d =>
  (dSeq (dIfS (dOr (dNot (dTru (dIsErr e0 cls d a.x_BadText true 7))) (dOr (dNot (dTru (dIsErr e0 cls d a.x_BadText true 7))) (dTru (dIsErr e0 cls d a.x_BadText false 7))))
  (dRet (dC (.bl false)))
  dNext)
  (dRet (dAndV (dOp mIsN (dVar 5) (dC .non)) (dCall F_hot (dCons (dKeep (dErrF e0 cls d a.x_BadText "at" 7)) (dCons (dKeep (dVar 5)) dNil)))))))) t20)
abbrev t14 (K : PySem.W.Frag) (a : Ad) : DSM :=
  (dSeq (dSet 5 (dCall F_wrong (dCons (dKeep (dVar 2)) dNil))) (t15 K a))
abbrev t11 (K : PySem.W.Frag) (a : Ad) : DSM :=
  (dSeq (dIfS (dB (dOp mEq (dVar 4) (dC (.str ""))))
  (dSet 2 (dLst dNil))
  dNext) (t14 K a))
abbrev t10 (K : PySem.W.Frag) (a : Ad) : DSM :=
  (dSeq (dSet 2 (dM1 mSplit (dVar 4) (dC (.str " ")))) (t11 K a))
abbrev t9 (K : PySem.W.Frag) (a : Ad) : DSM :=
  (dSeq (dSet 4 (dM1 mJoin (dC (.str " ")) (dVar 2))) (t10 K a))
abbrev t6 (K : PySem.W.Frag) (a : Ad) : DSM :=
  (dSeq (dIfS (dB (dOp mEq (dCall F_draw (dCons (dKeep (dVar 1)) (dCons (dKeep (dC (.int 2))) dNil))) (dC (.int 0))))
  (dSet 2 (dCall F_changed (dCons (dKeep (dVar 1)) (dCons (dKeep (dVar 2)) dNil))))
  dNext) (t9 K a))
abbrev t3 (K : PySem.W.Frag) (a : Ad) : DSM :=
  (dSeq (dIfS (dTru (dVar 3))
  (dSet 2 (dCall F_long (dCons (dKeep (dVar 1)) dNil)))
  dNext) (t6 K a))
abbrev t2 (K : PySem.W.Frag) (a : Ad) : DSM :=
  (dSeq (dSet 3 (dOp mEq (dCall F_draw (dCons (dKeep (dVar 1)) (dCons (dKeep (dC (.int 12))) dNil))) (dC (.int 0)))) (t3 K a))
abbrev t1 (K : PySem.W.Frag) (a : Ad) : DSM :=
  (dSeq (dSet 2 (dCall2 (F_twords 229) (dCons2 (dKeep (dVar 1)) (dEnd2 (dLst (dCons (dKeep (dCall F_draw (dCons (dKeep (dVar 1)) (dCons (dKeep (dC (.int 20))) dNil)))) dNil)) (dLst (dCons (dKeep (dCall F_draw (dCons (dKeep (dVar 1)) (dCons (dKeep (dC (.int 2))) dNil)))) dNil)))))) (t2 K a))
abbrev t0 (K : PySem.W.Frag) (a : Ad) : DSM :=
  (dPool 1 (dCall F_pool (dCons (dKeep (dVar 0)) (dCons (dKeep (dC (.int 0))) dNil))) (t1 K a))
theorem t0_eq (K : PySem.W.Frag) (a : Ad) : m_law K a F_pool F_draw F_long F_changed F_wrong F_text (F_same 230) F_people (F_built 230) (F_lfill 230) F_filled (F_count 230) F_row F_hot (F_twords 229) (F_rtree a) = t0 K a := rfl
end G
end

section
set_option Elab.async false
set_option linter.all false
set_option maxRecDepth 100000
set_option maxHeartbeats 4000000
namespace G
open PySem PySem.Spec PyProof.Rows L2 DL
local macro_rules | `(tactic| walk_at "ok1") => `(tactic| first | exact okD_int _ | exact okD_bl _ | exact okD_non | exact okD_str (by assumption) | assumption)
local macro_rules | `(tactic| walk_at "go1") => `(tactic| ((conv => whnf); first
  | refine s_iteT ?_ | refine s_iteF ?_
  | refine ⟨⟨by walk_at "ok1", by walk_at "ok1"⟩, ?_⟩
  | refine ⟨_, rfl, ?_⟩
  | refine ⟨rfl, ?_⟩
  | refine ⟨Nat.le_of_ble_eq_true rfl, ?_⟩
  | refine ⟨_, isB_tuple (by assumption), ?_⟩
  | refine ⟨_, isB_list (by assumption), ?_⟩
  | refine ⟨_, isB_bool (by assumption), ?_⟩
  | refine ⟨_, isB_int (by assumption), ?_⟩
  | refine ⟨_, isB_str (by assumption), ?_⟩
  | refine ⟨_, by assumption, ?_⟩
  | refine s_ite1 (by assumption) ?_ | refine s_ite0 (by assumption) ?_))
local macro_rules | `(tactic| walk_at "go") => `(tactic| repeat walk_at "go1")
theorem eqD_ints (ns : List Int) : eqD (.lst (ns.map D.int)) (.lst (ns.map D.int)) = true := by
  have key : ∀ ns : List Int, PyData.eqvAll (toPys (ns.map D.int)) (toPys (ns.map D.int)) = true := by
    intro ns
    induction ns with
    | nil => rfl
    | cons n ns ih =>
      rw [List.map_cons, toPys, PyData.eqvAll, ih, toPy]
      simp [PyData.eqv]
  unfold eqD
  rw [toPy, PyData.eqv]
  exact key ns
theorem okD_ints (ns : List Int) : okD (.lst (ns.map D.int)) := (okK_lst (k := 0) fun d hd => by
  obtain ⟨n, _, rfl⟩ := List.mem_map.mp hd
  exact okK_int n).ok (by decide)
theorem rows_loop {a0 a2 a3 a4 a5 a6 a7 a8 a9 a10 a11 a12 a13 : Option Nv} {Ql : En → List D → Prop} : ∀ (rg : List D) (acc : List Int) (y : Option Nv), acc.length + rg.length ≤ 1000 →
    (∀ (ns : List Int) y, ns.length = acc.length + rg.length → Ql [a0, some .pool, a2, a3, a4, a5, a6, a7, a8, a9, a10, a11, a12, a13, y] (ns.map D.int)) →
    dLcL [14] (dName 14) dYes (dCall F_draw (dCons (dKeep (dVar 1)) (dCons (dKeep (dC (.int 4))) dNil))) rg [a0, some .pool, a2, a3, a4, a5, a6, a7, a8, a9, a10, a11, a12, a13, y] (acc.map D.int) Ql
  | [], acc, y, h, q => q acc y rfl
  | d :: rg, acc, y, h, q => by
    rw [List.length_cons] at h
    refine s_iteT ?_
    refine ⟨rfl, ⟨4, rfl, ⟨by decide, by decide +kernel⟩, fun r h1 h2 => ?_⟩⟩
    have key := rows_loop rg (acc ++ [r]) none (by rw [List.length_append, List.length_singleton]; omega) fun ns y hn => q ns y (by rw [hn, List.length_append, List.length_singleton, List.length_cons]; omega)
    rw [List.map_append] at key
    refine ⟨?_, key⟩
    rw [List.length_map]
    unfold sizeLine
    omega
theorem chain_loop {E : DEn} {a0 a1 a2 a3 a4 a5 a6 a7 a8 a9 a10 a13 a14 : Option Nv} : ∀ (ls : List Int) (t : Tr) (y : Option Nv),
    (∀ t' y, ls.foldl (fun acc l => [Tr.nd (some l) acc]) [t] = [t'] → E.nx [a0, a1, a2, a3, a4, a5, a6, a7, a8, a9, a10, some (.val t'.d), y, a13, a14]) →
    dLoop (dName 12) (dSet 11 (dTup (dCons (dKeep (dVar 12)) (dCons (dKeep (dTup (dCons (dKeep (dVar 11)) dNil))) dNil)))) E (ls.map D.int) [a0, a1, a2, a3, a4, a5, a6, a7, a8, a9, a10, some (.val t.d), y, a13, a14]
  | [], t, y, q => q t y rfl
  | l :: ls, t, y, q => by
    walk_at "go"
    have key := chain_loop (E := E) ls (Tr.nd (some l) [t]) (some (.val (.int l))) q
    rw [Tr.d, Tr.ds, Tr.ds] at key
    exact key
theorem fold_size : ∀ (ls : List Int) (t t' : Tr), ls.foldl (fun acc l => [Tr.nd (some l) acc]) [t] = [t'] → t'.size = t.size + ls.length
  | [], t, t', h => by
    cases h
    rfl
  | l :: ls, t, t', h => by
    have := fold_size ls (Tr.nd (some l) [t]) t' h
    rw [this, Tr.size, Tr.sizes, Tr.sizes, List.length_cons]
    omega
theorem same_trees {Qd : R → Prop} {t u : Tr} (e : t = u) (h : depD t.d < 230) (h2 : txtOk t.d) (q : Qd (.val (.bl true))) : F_same 230 [.val t.d, .val u.d] Qd := by
  subst e
  refine ⟨t.d, t.d, rfl, h, tr_dat t, h2, tr_dat t, h2, ?_⟩
  rw [tr_same]
  exact q
theorem t42_ok {E : DEn} {a0 a2 a3 a4 a5 a6 a7 a8 a9 y z : Option Nv} {xs : List Int} {X : D} {t : Tr} (q : ∀ env, E.rt env (.val (.bl true))) (hX : X = .lst (xs.map D.int) ∨ X = .tup (xs.map D.int)) (ht : rowT xs = [t]) (hs : t.size ≤ 10) :
    t42 E [a0, some .pool, a2, a3, a4, a5, a6, a7, a8, a9, some (.val (.lst (xs.map D.int))), some (.val t.d), y, some (.val X), z] := by
  have hd := tr_dep t
  have he : eqD (.lst (xs.map D.int)) (.lst (xs.map D.int)) = true := eqD_ints xs
  refine ⟨rfl, xs, X, t, rfl, hX, ht, ?_⟩
  refine ⟨rfl, same_trees rfl (by omega) (tr_txt t (by unfold sizeLine; omega)) ?_⟩
  rcases hX with rfl | rfl
  all_goals
    refine s_iteT ?_
    refine ⟨⟨okD_ints xs, okD_ints xs⟩, ?_⟩
    show E.rt _ (.val (.bl (eqD (.lst (xs.map D.int)) (.lst (xs.map D.int)))))
    rw [he]
    exact q _
theorem t37_ok {E : DEn} {a0 a2 a3 a4 a5 a6 a7 a8 a9 : Option Nv} (q : ∀ env, E.rt env (.val (.bl true))) : t37 E [a0, some .pool, a2, a3, a4, a5, a6, a7, a8, a9, none, none, none, none, none] := by
  walk_at "go"
  refine ⟨⟨by decide, by decide +kernel⟩, fun r h1 h2 => ?_⟩
  refine ⟨by omega, by omega, rfl, ?_⟩
  have hl : (rangeD 0 (1 + r)).length = (1 + r).toNat := by
    unfold rangeD
    rw [List.length_map, List.length_range, Int.sub_zero]
  refine rows_loop (rangeD 0 (1 + r)) [] none (by rw [List.length_nil, hl]; omega) fun ns y hn => ?_
  rw [List.length_nil, hl] at hn
  cases ns with
  | nil =>
    rw [List.length_nil] at hn
    omega
  | cons l0 ls =>
  rw [List.length_cons] at hn
  show t38 E [a0, some .pool, a2, a3, a4, a5, a6, a7, a8, a9, some (.own ((l0 :: ls).map D.int)), none, none, none, none]
  have h0 : atI ((l0 :: ls).map D.int) ((0 : Nat) : Int) = some (.int l0) := DL.atI_nat rfl
  refine ⟨.int l0, h0, ?_⟩
  walk_at "go"
  show dLoop _ _ _ (DL.cutD ((l0 :: ls).map D.int) (some 1) none) _
  rw [show DL.cutD ((l0 :: ls).map D.int) (some 1) none = ls.map D.int from cut_from ((l0 :: ls).map D.int) 1]
  refine chain_loop ls (Tr.nd (some l0) []) none fun t' y ht => ?_
  have hz := fold_size ls _ t' ht
  rw [Tr.size, Tr.sizes] at hz
  have hsz : t'.size ≤ 10 := by omega
  show t41 E [a0, some .pool, a2, a3, a4, a5, a6, a7, a8, a9, some (.own ((l0 :: ls).map D.int)), some (.val t'.d), y, none, none]
  walk_at "go"
  refine ⟨⟨by decide, by decide +kernel⟩, fun k k1 k2 => ?_⟩
  have hk : k = 0 ∨ k = 1 := by omega
  rcases hk with rfl | rfl
  · refine ⟨_, DL.atI_nat (k := 0) rfl, ?_⟩
    exact t42_ok q (.inl rfl) ht hsz
  · refine ⟨_, DL.atI_nat (k := 1) rfl, ?_⟩
    exact t42_ok q (.inr rfl) ht hsz
end G
end

section
set_option Elab.async false
set_option linter.all false
set_option maxRecDepth 100000
set_option maxHeartbeats 4000000
namespace G
open PySem PySem.Spec PyProof.Rows L2 DL
local macro_rules | `(tactic| walk_at "ok1") => `(tactic| first | exact okD_int _ | exact okD_bl _ | exact okD_non | exact okD_str (by assumption) | assumption)
local macro_rules | `(tactic| walk_at "go1") => `(tactic| ((conv => whnf); first
  | refine s_iteT ?_ | refine s_iteF ?_
  | refine ⟨⟨by walk_at "ok1", by walk_at "ok1"⟩, ?_⟩
  | refine ⟨_, rfl, ?_⟩
  | refine ⟨rfl, ?_⟩
  | refine ⟨Nat.le_of_ble_eq_true rfl, ?_⟩
  | refine ⟨_, isB_tuple (by assumption), ?_⟩
  | refine ⟨_, isB_list (by assumption), ?_⟩
  | refine ⟨_, isB_bool (by assumption), ?_⟩
  | refine ⟨_, isB_int (by assumption), ?_⟩
  | refine ⟨_, isB_str (by assumption), ?_⟩
  | refine ⟨_, by assumption, ?_⟩
  | refine s_ite1 (by assumption) ?_ | refine s_ite0 (by assumption) ?_))
local macro_rules | `(tactic| walk_at "go") => `(tactic| repeat walk_at "go1")
theorem built_call {Qd : R → Prop} (t : Tr) {l : List D} (e : l = (t.pre.flatMap ndW).map D.str) (h : t.size ≤ 230) (hn : ∀ n ∈ t.pre, okN n) (q : Qd (.val (.tup [t.d, .lst []]))) : F_built 230 [.val (.lst l)] Qd :=
  ⟨t, [], by rw [e]; unfold wordsT; rw [List.append_nil], h, by omega, hn, q⟩
theorem same_int {Qd : R → Prop} (n : Int) (q : Qd (.val (.bl true))) : F_same 230 [.val (.int n), .val (.int n)] Qd := by
  refine ⟨.int n, .int n, rfl, by rw [depD] <;> first | decide | (intros; contradiction), by rw [isDat], by rw [txtOk] <;> intros <;> trivial, by rw [isDat], by rw [txtOk] <;> intros <;> trivial, ?_⟩
  rw [sameD, beq_self_eq_true]
  exact q
theorem nd_lay (n : Option Int × Nat) (h : okN n) : ∀ w ∈ ndW n, PyData.canLay0 (.str w) = true := by
  rcases h with rfl | ⟨a, h1, h2, h3⟩
  · intro w hw
    rw [List.mem_singleton.mp hw]
    decide +kernel
  · intro w hw
    unfold ndW at hw
    rw [h2] at hw
    rcases List.mem_cons.mp hw with rfl | hw
    · exact (dig_tab a (by omega)).2.2.2
    · rw [List.mem_singleton.mp hw]
      exact (dig_tab n.2 (by omega)).2.2.2
theorem okD_tree {t : Tr} (hn : ∀ n ∈ t.pre, okN n) : okD (.lst ((t.pre.flatMap ndW).map D.str)) := okD_strs fun w hw => by
  obtain ⟨n, h1, h2⟩ := List.mem_flatMap.mp hw
  exact nd_lay n (hn n h1) w h2
theorem hole_okt : okD (.str "hole") := okD_str (by decide +kernel)
theorem t26_ok {E : DEn} {a0 a3 a4 a5 a7 : Option Nv} {t : Tr} {r2 : Nv} (q : ∀ env, E.rt env (.val (.bl true))) (h2 : r2 = .own ((t.pre.flatMap ndW).map D.str) ∨ r2 = .val (.lst ((t.pre.flatMap ndW).map D.str))) (hw : (t.pre.flatMap ndW).length ≤ 130) (hn : ∀ n ∈ t.pre, okN n) :
    t26 E [a0, some .pool, some r2, a3, a4, a5, some (.val t.d), a7, none, none, none, none, none, none, none] := by
  have hs := size_words t.pre
  rw [Tr.pre_length] at hs
  have hd := tr_dep2 t hn
  have ht := tr_txt t (by unfold sizeLine; omega)
  have step : t27 E [a0, some .pool, some (.val (.lst ((t.pre.flatMap ndW).map D.str))), a3, a4, a5, some (.val t.d), a7, some (.val t.d), none, none, none, none, none, none] := by
    walk_at "go"
    refine ⟨4, 0, rfl, rfl, rfl, by decide, by decide, by decide, fun u i' h' e1 e2 e3 => ?_⟩
    have hu : u.size ≤ 5 := by omega
    refine ⟨rfl, built_call u rfl (by omega) e3 ?_⟩
    refine ⟨_, DL.atI_nat (k := 0) rfl, ?_⟩
    show t28 E [a0, some .pool, some (.val (.lst ((t.pre.flatMap ndW).map D.str))), a3, a4, a5, some (.val t.d), a7, some (.val t.d), some (.val u.d), none, none, none, none, none]
    have hd2 := tr_dep u
    have hu2 := tr_txt u (by unfold sizeLine; omega)
    have hf := fill_dep u t
    have hf2 := fill_txt u hu2 t ht
    refine ⟨rfl, same_trees rfl (by omega) ht ?_⟩
    refine ⟨true, rfl, s_iteF ?_⟩
    have fin : t34 E [a0, some .pool, some (.val (.lst ((t.pre.flatMap ndW).map D.str))), a3, a4, a5, some (.val t.d), a7, some (.val t.d), some (.val u.d), none, none, none, none, none] := by
      refine ⟨⟨hole_okt, okD_tree hn⟩, ?_⟩
      cases c : inD (.str "hole") ((t.pre.flatMap ndW).map D.str) with
      | true => 
        show dIte (!inD (.str "hole") ((t.pre.flatMap ndW).map D.str)) _ _
        rw [c]
        refine s_iteF (s_iteF ?_)
        exact t37_ok q
      | false =>
        show dIte (!inD (.str "hole") ((t.pre.flatMap ndW).map D.str)) _ _
        rw [c]
        refine s_iteT ?_
        refine ⟨rfl, t, rfl, by omega, ?_⟩
        refine ⟨rfl, t, rfl, by omega, by omega, ?_⟩
        refine ⟨rfl, same_int _ ?_⟩
        refine ⟨true, rfl, s_iteF ?_⟩
        exact t37_ok q
    show t31 E [a0, some .pool, some (.val (.lst ((t.pre.flatMap ndW).map D.str))), a3, a4, a5, some (.val t.d), a7, some (.val t.d), some (.val u.d), none, none, none, none, none]
    refine ⟨⟨hole_okt, okD_tree hn⟩, ?_⟩
    show dIte (inD (.str "hole") ((t.pre.flatMap ndW).map D.str)) _ _
    cases c : inD (.str "hole") ((t.pre.flatMap ndW).map D.str) with
    | false => exact s_iteF (s_iteF fin)
    | true =>
      refine s_iteT ?_
      refine ⟨rfl, t, u, rfl, by omega, by omega, hn, ?_⟩
      refine ⟨rfl, t, u, rfl, by omega, by omega, hn, ?_⟩
      refine ⟨rfl, same_trees rfl (by omega) hf2 ?_⟩
      exact ⟨true, rfl, s_iteF fin⟩
  rcases h2 with rfl | rfl
  · refine ⟨rfl, built_call t rfl (by omega) hn ?_⟩
    exact ⟨_, DL.atI_nat (k := 0) rfl, step⟩
  · refine ⟨rfl, built_call t rfl (by omega) hn ?_⟩
    exact ⟨_, DL.atI_nat (k := 0) rfl, step⟩
end G
end

section
set_option Elab.async false
set_option linter.all false
set_option maxRecDepth 100000
set_option maxHeartbeats 4000000
namespace G
open PySem PySem.Spec PyProof.Rows L2 DL
local macro_rules | `(tactic| walk_at "ok1") => `(tactic| first | exact okD_int _ | exact okD_bl _ | exact okD_non | exact okD_str (by assumption) | assumption)
local macro_rules | `(tactic| walk_at "go1") => `(tactic| ((conv => whnf); first
  | refine s_iteT ?_ | refine s_iteF ?_
  | refine ⟨⟨by walk_at "ok1", by walk_at "ok1"⟩, ?_⟩
  | refine ⟨_, rfl, ?_⟩
  | refine ⟨rfl, ?_⟩
  | refine ⟨Nat.le_of_ble_eq_true rfl, ?_⟩
  | refine ⟨_, isB_tuple (by assumption), ?_⟩
  | refine ⟨_, isB_list (by assumption), ?_⟩
  | refine ⟨_, isB_bool (by assumption), ?_⟩
  | refine ⟨_, isB_int (by assumption), ?_⟩
  | refine ⟨_, isB_str (by assumption), ?_⟩
  | refine ⟨_, by assumption, ?_⟩
  | refine s_ite1 (by assumption) ?_ | refine s_ite0 (by assumption) ?_))
local macro_rules | `(tactic| walk_at "go") => `(tactic| repeat walk_at "go1")
theorem no_hole : ∀ ns : List (Option Int × Nat), inD (.str "hole") ((ns.flatMap ndW).map D.str) = false → (ns.flatMap ndW).length = 2 * ns.length
  | [], _ => rfl
  | n :: ns, h => by
    rw [List.flatMap_cons, List.map_append] at h
    unfold inD at h
    rw [List.any_append, Bool.or_eq_false_iff] at h
    have ih := no_hole ns h.2
    rw [List.flatMap_cons, List.length_append, List.length_cons, ih]
    have e : (ndW n).length = 2 := by
      obtain ⟨o, k⟩ := n
      cases o with
      | none =>
        have h1 := h.1
        rw [show ((ndW (none, k)).map D.str) = [D.str "hole"] from rfl, List.any_cons, eqD_str, beq_self_eq_true] at h1
        cases h1
      | some a => rfl
    omega
theorem same_str {Qd : R → Prop} (x : Str) (h : PyData.canLay0 (.str x) = true) (q : Qd (.val (.bl true))) : F_same 230 [.val (.str x), .val (.str x)] Qd := by
  refine ⟨.str x, .str x, rfl, by rw [depD] <;> first | decide | (intros; contradiction), by rw [isDat], by rw [txtOk]; exact h, by rw [isDat], by rw [txtOk]; exact h, ?_⟩
  rw [sameD, beq_self_eq_true]
  exact q
theorem t20_ok {E : DEn} {a0 a7 : Option Nv} {t : Tr} {large : Bool} {text : Str} (q : ∀ env, E.rt env (.val (.bl true))) (ht : text = Txt.join " " (t.pre.flatMap ndW)) (hl : PyData.canLay0 (.str text) = true) (hs : t.size ≤ 200) (hs2 : large = false → (t.pre.flatMap ndW).length ≤ 130) (hn : ∀ n ∈ t.pre, okN n) :
    t20 E [a0, some .pool, some (.val (.lst ((t.pre.flatMap ndW).map D.str))), some (.val (.bl large)), some (.val (.str text)), some (.val .non), some (.val t.d), a7, none, none, none, none, none, none, none] := by
  refine ⟨true, rfl, s_iteF ?_⟩
  refine ⟨rfl, t, rfl, by omega, hn, ?_⟩
  rw [← ht]
  refine ⟨rfl, same_str text hl ?_⟩
  refine ⟨true, rfl, s_iteF ?_⟩
  show t23 E [a0, some .pool, some (.val (.lst ((t.pre.flatMap ndW).map D.str))), some (.val (.bl large)), some (.val (.str text)), some (.val .non), some (.val t.d), a7, none, none, none, none, none, none, none]
  refine ⟨large, rfl, ?_⟩
  cases large with
  | false => exact s_iteF (t26_ok q (.inr rfl) (hs2 rfl) hn)
  | true =>
    refine s_iteT ?_
    refine ⟨⟨hole_okt, okD_tree hn⟩, ?_⟩
    show dIte (inD (.str "hole") ((t.pre.flatMap ndW).map D.str)) _ _
    cases c : inD (.str "hole") ((t.pre.flatMap ndW).map D.str) with
    | true => exact s_iteT (q _)
    | false =>
      refine s_iteF ?_
      refine ⟨rfl, t, rfl, by omega, ?_⟩
      have e := no_hole _ c
      rw [Tr.pre_length] at e
      have e2 : ((((t.pre.flatMap ndW).map D.str).length : Nat) : Int) / 2 = (t.size : Int) := by
        rw [List.length_map, e]
        omega
      refine ⟨⟨by decide, by decide +kernel⟩, rfl, ?_⟩
      show F_same 230 [.val (.int t.size), .val (.int (((((t.pre.flatMap ndW).map D.str).length : Nat) : Int) / 2))] _
      rw [e2]
      exact same_int _ (q _)
/-- the text is read: a tree, or the first word that is wrong -/
theorem t15_ok {K : PySem.W.Frag} {a : Ad} {E : DEn} {a0 : Option Nv} {large : Bool} {text : Str} (q : ∀ env, E.rt env (.val (.bl true))) (hx : PySem.W.exmOne K (.ref a.x_BadText) (.ref a.e_ObjectError) = some true)
    (hj : Txt.join " " (wordsOf text) = text) (hl : PyData.canLay0 (.str text) = true) (hlen : text.length + 2 ≤ sizeLine) (hw : wOk (wordsOf text)) (hs2 : large = false → (wordsOf text).length ≤ 130) :
    t15 K a E [a0, some .pool, some (.val (.lst ((wordsOf text).map D.str))), some (.val (.bl large)), some (.val (.str text)), some (.val (optN (wrongF 0 (wordsOf text) 1 0 false false))), none, none, none, none, none, none, none, none, none] := by
  refine ⟨rfl, text, rfl, hlen, hw, fun i hi => ⟨hx, fun e0 dd => ?_⟩, fun hi tr h1 h2 h3 => ?_⟩
  · rw [hi]
    refine ⟨⟨rfl, rfl, rfl⟩, true, rfl, s_iteF ?_⟩
    refine ⟨⟨rfl, rfl, rfl⟩, true, rfl, s_iteF ?_⟩
    refine ⟨⟨rfl, rfl, rfl⟩, false, rfl, s_iteF ?_⟩
    refine ⟨false, rfl, s_iteT ?_⟩
    refine ⟨⟨rfl, rfl, rfl, rfl⟩, rfl, (i : Int), (i : Int), rfl, ?_⟩
    rw [beq_self_eq_true]
    exact q _
  · rw [hi, ← h1]
    refine t20_ok q (by rw [h1, hj]) hl h3 (fun h => ?_) h2
    have := hs2 h
    rw [← h1] at this
    exact this
end G
end

section
set_option Elab.async false
set_option linter.all false
set_option maxRecDepth 100000
set_option maxHeartbeats 4000000
namespace G
open PySem PySem.Spec PyProof.Rows L2 DL
local macro_rules | `(tactic| walk_at "ok1") => `(tactic| first | exact okD_int _ | exact okD_bl _ | exact okD_non | exact okD_str (by assumption) | assumption)
local macro_rules | `(tactic| walk_at "go1") => `(tactic| ((conv => whnf); first
  | refine s_iteT ?_ | refine s_iteF ?_
  | refine ⟨⟨by walk_at "ok1", by walk_at "ok1"⟩, ?_⟩
  | refine ⟨_, rfl, ?_⟩
  | refine ⟨rfl, ?_⟩
  | refine ⟨Nat.le_of_ble_eq_true rfl, ?_⟩
  | refine ⟨_, isB_tuple (by assumption), ?_⟩
  | refine ⟨_, isB_list (by assumption), ?_⟩
  | refine ⟨_, isB_bool (by assumption), ?_⟩
  | refine ⟨_, isB_int (by assumption), ?_⟩
  | refine ⟨_, isB_str (by assumption), ?_⟩
  | refine ⟨_, by assumption, ?_⟩
  | refine s_ite1 (by assumption) ?_ | refine s_ite0 (by assumption) ?_))
local macro_rules | `(tactic| walk_at "go") => `(tactic| repeat walk_at "go1")
theorem empty_len (t : Str) : t.length = 0 ↔ t = "" := by
  constructor
  · intro h
    refine TL.ext_tl ?_
    rw [TL.len_tl] at h
    exact List.length_eq_zero_iff.mp h
  · rintro rfl
    decide +kernel
theorem words_facts {n L : Nat} {ws : List Str} {text : Str} (h : okWs n L ws) (hb : n * (L + 1) ≤ 99990) (e : text = Txt.join " " ws) :
    okW 99990 text ∧ Txt.join " " (wordsOf text) = text ∧ wOk (wordsOf text) ∧ (wordsOf text).length ≤ wt ws + 1 := by
  have hw : okW 99990 text := by
    have := join_len h
    rw [← e] at this
    exact ⟨Nat.le_trans this.1 hb, this.2⟩
  refine ⟨hw, ?_⟩
  unfold wordsOf
  by_cases c : text.length = 0
  · rw [if_pos c]
    have := (empty_len text).mp c
    subst this
    exact ⟨by decide +kernel, ⟨Nat.zero_le _, fun w hw => by cases hw⟩, Nat.zero_le _⟩
  · rw [if_neg c]
    refine ⟨join_of_split text, ⟨?_, fun w hw2 => ?_⟩, ?_⟩
    · have h1 := split_count text
      have h2 := List.count_le_length (a := 32) (l := text.cps.toList)
      have h3 := hw.1
      rw [str_len] at h3
      omega
    · obtain ⟨k1, k2⟩ := split_part text w hw2
      have h3 := hw.1
      exact ⟨by unfold sizeLine; omega, okW_lay (L := 99990) ⟨by omega, fun c hc => hw.2 c (k2 c hc)⟩⟩
    · rw [e]
      exact split_wt ws
theorem t14_ok {K : PySem.W.Frag} {a : Ad} {E : DEn} {a0 : Option Nv} {large : Bool} {text : Str} (q : ∀ env, E.rt env (.val (.bl true))) (hx : PySem.W.exmOne K (.ref a.x_BadText) (.ref a.e_ObjectError) = some true)
    (ht : okW 99990 text) (hj : Txt.join " " (wordsOf text) = text) (hw : wOk (wordsOf text)) (hs2 : large = false → (wordsOf text).length ≤ 130) :
    t14 K a E [a0, some .pool, some (.own ((wordsOf text).map D.str)), some (.val (.bl large)), some (.val (.str text)), none, none, none, none, none, none, none, none, none, none] := by
  refine ⟨rfl, wordsOf text, rfl, hw.1, hw.2, ?_⟩
  have key := t15_ok (K := K) (a := a) (a0 := a0) q hx hj (okW_lay ht) (by have := ht.1; unfold sizeLine; omega) hw hs2
  exact key
theorem t9_ok {K : PySem.W.Frag} {a : Ad} {E : DEn} {a0 : Option Nv} {large : Bool} {n L : Nat} {ws : List Str} {r2 : Nv} (q : ∀ env, E.rt env (.val (.bl true))) (hx : PySem.W.exmOne K (.ref a.x_BadText) (.ref a.e_ObjectError) = some true)
    (h : okWs n L ws) (hb : n * (L + 1) ≤ 99990) (hr : wEnt ws r2) (hs2 : large = false → wt ws ≤ 129) :
    t9 K a E [a0, some .pool, some r2, some (.val (.bl large)), none, none, none, none, none, none, none, none, none, none, none] := by
  have hsum := sum_len h
  obtain ⟨h1, h2, h3, h4⟩ := words_facts h hb rfl
  have e0 : okD (.str "") := okD_str (by decide +kernel)
  have step : ∀ t, okW 99990 t → Txt.join " " (wordsOf t) = t → wOk (wordsOf t) → (large = false → (wordsOf t).length ≤ 130) → t10 K a E [a0, some .pool, some r2, some (.val (.bl large)), some (.val (.str t)), none, none, none, none, none, none, none, none, none, none] := by
    intro t k1 k2 k3 k4
    have e1 := okD_str (okW_lay k1)
    refine ⟨⟨_, rfl⟩, ⟨by decide +kernel, by have := k1.1; unfold sizeLine; omega⟩, ?_⟩
    show t11 K a E [a0, some .pool, some (.own ((Txt.split t " ").map D.str)), some (.val (.bl large)), some (.val (.str t)), none, none, none, none, none, none, none, none, none, none]
    refine ⟨⟨e1, e0⟩, ?_⟩
    show dIte (eqD (.str t) (.str "")) _ _
    rw [eqD_str]
    have key := t14_ok (K := K) (a := a) (E := E) (a0 := a0) q hx k1 k2 k3 k4
    unfold wordsOf at key
    by_cases c : t.length = 0
    · rw [if_pos c] at key
      have e := (empty_len t).mp c
      rw [e] at key ⊢
      rw [beq_self_eq_true]
      exact s_iteT ⟨[], rfl, by decide, key⟩
    · rw [if_neg c] at key
      have e : (t == "") = false := by
        rw [beq_eq_false_iff_ne]
        exact fun z => c ((empty_len t).mpr z)
      rw [e]
      exact s_iteF key
  rcases hr with rfl | rfl
  · refine ⟨⟨_, rfl⟩, ws, strsOf_map ws, by omega, ?_⟩
    exact step _ h1 h2 h3 fun z => by have := hs2 z; omega
  · refine ⟨⟨_, rfl⟩, ws, strsOf_map ws, by omega, ?_⟩
    exact step _ h1 h2 h3 fun z => by have := hs2 z; omega
end G
end

section
set_option Elab.async false
set_option linter.all false
set_option maxRecDepth 100000
set_option maxHeartbeats 4000000
namespace G
open PySem PySem.Spec PyProof.Rows L2 DL
local macro_rules | `(tactic| walk_at "ok1") => `(tactic| first | exact okD_int _ | exact okD_bl _ | exact okD_non | exact okD_str (by assumption) | assumption)
local macro_rules | `(tactic| walk_at "go1") => `(tactic| ((conv => whnf); first
  | refine s_iteT ?_ | refine s_iteF ?_
  | refine ⟨⟨by walk_at "ok1", by walk_at "ok1"⟩, ?_⟩
  | refine ⟨_, rfl, ?_⟩
  | refine ⟨rfl, ?_⟩
  | refine ⟨Nat.le_of_ble_eq_true rfl, ?_⟩
  | refine ⟨_, isB_tuple (by assumption), ?_⟩
  | refine ⟨_, isB_list (by assumption), ?_⟩
  | refine ⟨_, isB_bool (by assumption), ?_⟩
  | refine ⟨_, isB_int (by assumption), ?_⟩
  | refine ⟨_, isB_str (by assumption), ?_⟩
  | refine ⟨_, by assumption, ?_⟩
  | refine s_ite1 (by assumption) ?_ | refine s_ite0 (by assumption) ?_))
local macro_rules | `(tactic| walk_at "go") => `(tactic| repeat walk_at "go1")
theorem nd_words (n : Option Int × Nat) (h : okN n) : ∀ w ∈ ndW n, okW 5 w ∧ w.cps.toList.count 32 = 0 := by
  have hh : (okW 5 "hole") ∧ ("hole" : Str).cps.toList.count 32 = 0 := ⟨⟨by decide +kernel, by decide +kernel⟩, by decide +kernel⟩
  have hd : ∀ a : Nat, a < 10 → ((digW a).length ≤ 5 ∧ ∀ c ∈ (digW a).cps.toList, c < 128) ∧ (digW a).cps.toList.count 32 = 0 := by decide +kernel
  rcases h with rfl | ⟨a, h1, h2, h3⟩
  · intro w hw
    rw [List.mem_singleton.mp hw]
    exact hh
  · intro w hw
    unfold ndW at hw
    rw [h2] at hw
    rcases List.mem_cons.mp hw with rfl | hw
    · exact hd a (by omega)
    · rw [List.mem_singleton.mp hw]
      exact hd n.2 (by omega)
theorem tree_words {t : Tr} (hn : ∀ n ∈ t.pre, okN n) {m : Nat} (hs : t.size ≤ m) : okWs (2 * m) 5 (t.pre.flatMap ndW) ∧ wt (t.pre.flatMap ndW) ≤ 2 * m := by
  have hl := flat_len t.pre
  rw [Tr.pre_length] at hl
  have key : ∀ w ∈ t.pre.flatMap ndW, okW 5 w ∧ w.cps.toList.count 32 = 0 := fun w hw => by
    obtain ⟨n, h1, h2⟩ := List.mem_flatMap.mp hw
    exact nd_words n (hn n h1) w h2
  refine ⟨⟨by omega, fun w hw => (key w hw).1⟩, ?_⟩
  rw [cnt_free _ fun w hw => (key w hw).2]
  omega
theorem t6_ok {K : PySem.W.Frag} {a : Ad} {E : DEn} {a0 : Option Nv} {large : Bool} {ws : List Str} {r2 : Nv} (q : ∀ env, E.rt env (.val (.bl true))) (hx : PySem.W.exmOne K (.ref a.x_BadText) (.ref a.e_ObjectError) = some true)
    (h : okWs 1000 5 ws) (hr : wEnt ws r2) (hs2 : large = false → wt ws ≤ 40) :
    t6 K a E [a0, some .pool, some r2, some (.val (.bl large)), none, none, none, none, none, none, none, none, none, none, none] := by
  refine ⟨rfl, 2, rfl, ⟨by decide, by decide +kernel⟩, fun k h1 h2 => ?_⟩
  refine ⟨⟨okD_int _, okD_int _⟩, ?_⟩
  show dIte (eqD (.int k) (.int 0)) _ _
  cases c : eqD (.int k) (.int 0) with
  | true =>
    refine s_iteT ?_
    have fin : ∀ vs, okWs 1003 47 vs → wt vs ≤ wt ws + 84 → ∀ r, wEnt vs r → t9 K a E [a0, some .pool, some r, some (.val (.bl large)), none, none, none, none, none, none, none, none, none, none, none] := fun vs k1 k2 r k3 => t9_ok q hx k1 (by decide) k3 fun z => by have := hs2 z; omega
    rcases hr with rfl | rfl
    · exact ⟨rfl, ws, rfl, h, fun vs k1 k2 => ⟨fin vs k1 k2 _ (.inl rfl), fin vs k1 k2 _ (.inr rfl)⟩⟩
    · exact ⟨rfl, ws, rfl, h, fun vs k1 k2 => ⟨fin vs k1 k2 _ (.inl rfl), fin vs k1 k2 _ (.inr rfl)⟩⟩
  | false =>
    refine s_iteF ?_
    exact t9_ok q hx h (by decide) hr fun z => by have := hs2 z; omega
theorem t1_ok {K : PySem.W.Frag} {a : Ad} {E : DEn} {a0 : Option Nv} (q : ∀ env, E.rt env (.val (.bl true))) (hx : PySem.W.exmOne K (.ref a.x_BadText) (.ref a.e_ObjectError) = some true) :
    t1 K a E [a0, some .pool, none, none, none, none, none, none, none, none, none, none, none, none, none] := by
  refine ⟨rfl, 20, rfl, ⟨by decide, by decide +kernel⟩, fun i i1 i2 => ?_⟩
  refine ⟨[.int i], rfl, by show 1 ≤ sizeLine; decide, ?_⟩
  refine ⟨rfl, 2, rfl, ⟨by decide, by decide +kernel⟩, fun j j1 j2 => ?_⟩
  refine ⟨[.int j], rfl, by show 1 ≤ sizeLine; decide, ?_⟩
  refine ⟨rfl, i, j, rfl, rfl, rfl, i1, by omega, by omega, fun t i' h' e1 e2 e3 => ?_⟩
  have hs : t.size ≤ 20 := by omega
  obtain ⟨w1, w2⟩ := tree_words e3 hs
  show t2 K a E [a0, some .pool, some (.val (.lst ((t.pre.flatMap ndW).map D.str))), none, none, none, none, none, none, none, none, none, none, none, none]
  refine ⟨rfl, 12, rfl, ⟨by decide, by decide +kernel⟩, fun k k1 k2 => ?_⟩
  refine ⟨⟨okD_int _, okD_int _⟩, ?_⟩
  show t3 K a E [a0, some .pool, some (.val (.lst ((t.pre.flatMap ndW).map D.str))), some (.val (.bl (eqD (.int k) (.int 0)))), none, none, none, none, none, none, none, none, none, none, none]
  refine ⟨_, rfl, ?_⟩
  cases c : eqD (.int k) (.int 0) with
  | true =>
    refine s_iteT ?_
    exact ⟨rfl, rfl, fun ws hw => t6_ok q hx (hw.mono (Nat.le_refl _) (by decide)) (.inr rfl) fun z => by cases z⟩
  | false =>
    refine s_iteF ?_
    exact t6_ok q hx (w1.mono (by decide) (Nat.le_refl _)) (.inl rfl) fun _ => w2
def F_law : FM := fun rs Qd => ∃ ns : List Int, rs = [.val (.scr ns)] ∧ Qd (.val (.bl true))
theorem law_body {K : PySem.W.Frag} {a : Ad} (hx : PySem.W.exmOne K (.ref a.x_BadText) (.ref a.e_ObjectError) = some true) : ∀ rs Qd, F_law rs Qd → bodyF 15 (t0 K a) rs Qd := by
  rintro rs Qd ⟨ns, rfl, q⟩
  refine ⟨rfl, ns, 0, rfl, ?_⟩
  refine ⟨⟨ns, rfl⟩, Int.le_refl 0, rfl, ?_⟩
  exact t1_ok (fun _ => q) hx
end G
end

section
set_option Elab.async false
set_option linter.all false
set_option maxRecDepth 100000
set_option maxHeartbeats 4000000
namespace G
open PySem PySem.Spec PyProof.Rows L2 DL
open Evl (Ex)
def spLaw (K : PySem.W.Frag) : Sp := fun vs H Q _ => ∃ (a : Addr) (ns : List Int), vs = [.ref a] ∧ SqL K H a (ns.map V.int) ∧ ∀ H', Q (.bl true) H'
theorem law_ok {w : World} {K : PySem.W.Frag} {mg : Str → Option Value} {base : Heap} {a : Ad} (T : Tx K mg a) : FnOk PP w K mg base CX0 231 a.f_law a.d_law ["script"] (spLaw K) := by
  have h1 : ∀ {j : Nat}, j + 1 ≤ 230 → True := fun _ => trivial
  have key := (b_law (w := w) (base := base) T (k := 230) ((pool_ok T).up (by decide)) ((draw_okT T).up (by decide)) ((long_ok T).up (by decide)) ((chg_ok T).up (by decide)) ((wrong_ok T).up (by decide)) ((text_ok T).up (by decide)) (same_ok T 230) ((people_ok T).up (by decide)) (built_ok T 230) (lfill_ok T 230) ((filled_ok T).up (by decide)) (count_ok T 230) ((row_ok T).up (by decide)) (hot_ok T) (twords_ok T 229) (rtree_ok T)).imp (spF.imp (F' := F_law) (law_body T.exo_BadText_ObjectError))
  refine key.imp fun vs H Q E ⟨p, ns, e, hS, q⟩ => ?_
  subst e
  refine ⟨H, none, [.val (.scr ns)], fun r => r = .val (.bl true), Ex.refl _, (fun _ z => by cases z), .val (.scr hS) .nil, rfl, ⟨ns, rfl, rfl⟩, fun v H' S' r d hr => ?_⟩
  subst hr
  have z := d.ret
  have z : Rep K S' v (.bl true) := z
  cases z
  exact q H'
end G
end

section
set_option Elab.async false
set_option linter.all false
set_option maxRecDepth 100000
set_option maxHeartbeats 4000000
namespace G
open PySem PySem.Spec PySem.W PyProof.Rows L2 DL
theorem all_mk {w : World} {K : PySem.W.Frag} {h : Heap} {mg : Str → Option Value} {fa : Addr} (X : K.In h) (G : h.Ns mainGlobals mg) (hfa : mg "law" = some (.ref fa))
    {od_row_tree an_row_tree : Option Addr} {sl_row_tree : Array (Option Value)} {oc_row_tree kV_row_tree dc_row_tree pm_row_tree cd_row_tree ct_row_tree : Value} {f_row_tree : Addr} {od_people an_people : Option Addr} {sl_people : Array (Option Value)} {oc_people kV_people dc_people pm_people cd_people ct_people : Value} {f_people : Addr} {od_nodes_of an_nodes_of : Option Addr} {sl_nodes_of : Array (Option Value)} {oc_nodes_of kV_nodes_of dc_nodes_of pm_nodes_of cd_nodes_of ct_nodes_of : Value} {f_nodes_of : Addr} {od_filled an_filled : Option Addr} {sl_filled : Array (Option Value)} {oc_filled kV_filled dc_filled pm_filled cd_filled ct_filled : Value} {f_filled : Addr} {od_tree_of an_tree_of : Option Addr} {sl_tree_of : Array (Option Value)} {oc_tree_of kV_tree_of dc_tree_of pm_tree_of cd_tree_of ct_tree_of : Value} {f_tree_of : Addr} {od_tree_text an_tree_text : Option Addr} {sl_tree_text : Array (Option Value)} {oc_tree_text kV_tree_text dc_tree_text pm_tree_text cd_tree_text ct_tree_text : Value} {f_tree_text : Addr} {od_law_built an_law_built : Option Addr} {sl_law_built : Array (Option Value)} {oc_law_built kV_law_built dc_law_built pm_law_built cd_law_built ct_law_built : Value} {f_law_built : Addr} {od_law_count an_law_count : Option Addr} {sl_law_count : Array (Option Value)} {oc_law_count kV_law_count dc_law_count pm_law_count cd_law_count ct_law_count : Value} {f_law_count : Addr} {od_law_filled an_law_filled : Option Addr} {sl_law_filled : Array (Option Value)} {oc_law_filled kV_law_filled dc_law_filled pm_law_filled cd_law_filled ct_law_filled : Value} {f_law_filled : Addr} {od_law_same an_law_same : Option Addr} {sl_law_same : Array (Option Value)} {oc_law_same kV_law_same dc_law_same pm_law_same cd_law_same ct_law_same : Value} {f_law_same : Addr} {od_law_digit an_law_digit : Option Addr} {sl_law_digit : Array (Option Value)} {oc_law_digit kV_law_digit dc_law_digit pm_law_digit cd_law_digit ct_law_digit : Value} {f_law_digit : Addr} {od_law_wrong an_law_wrong : Option Addr} {sl_law_wrong : Array (Option Value)} {oc_law_wrong kV_law_wrong dc_law_wrong pm_law_wrong cd_law_wrong ct_law_wrong : Value} {f_law_wrong : Addr} {od_law_long_words an_law_long_words : Option Addr} {sl_law_long_words : Array (Option Value)} {oc_law_long_words kV_law_long_words dc_law_long_words pm_law_long_words cd_law_long_words ct_law_long_words : Value} {f_law_long_words : Addr} {od_law_draw an_law_draw : Option Addr} {sl_law_draw : Array (Option Value)} {oc_law_draw kV_law_draw dc_law_draw pm_law_draw cd_law_draw ct_law_draw : Value} {f_law_draw : Addr} {od_law_changed an_law_changed : Option Addr} {sl_law_changed : Array (Option Value)} {oc_law_changed kV_law_changed dc_law_changed pm_law_changed cd_law_changed ct_law_changed : Value} {f_law_changed : Addr} {od_law_pool an_law_pool : Option Addr} {sl_law_pool : Array (Option Value)} {oc_law_pool kV_law_pool dc_law_pool pm_law_pool cd_law_pool ct_law_pool : Value} {f_law_pool : Addr} {od_law_tree_words an_law_tree_words : Option Addr} {sl_law_tree_words : Array (Option Value)} {oc_law_tree_words kV_law_tree_words dc_law_tree_words pm_law_tree_words cd_law_tree_words ct_law_tree_words : Value} {f_law_tree_words : Addr} {od_Words_initdd an_Words_initdd : Option Addr} {sl_Words_initdd : Array (Option Value)} {oc_Words_initdd kV_Words_initdd dc_Words_initdd pm_Words_initdd cd_Words_initdd ct_Words_initdd : Value} {f_Words_initdd : Addr} {od_Words_ahead an_Words_ahead : Option Addr} {sl_Words_ahead : Array (Option Value)} {oc_Words_ahead kV_Words_ahead dc_Words_ahead pm_Words_ahead cd_Words_ahead ct_Words_ahead : Value} {f_Words_ahead : Addr} {od_Words_take an_Words_take : Option Addr} {sl_Words_take : Array (Option Value)} {oc_Words_take kV_Words_take dc_Words_take pm_Words_take cd_Words_take ct_Words_take : Value} {f_Words_take : Addr} {od_Words_number an_Words_number : Option Addr} {sl_Words_number : Array (Option Value)} {oc_Words_number kV_Words_number dc_Words_number pm_Words_number cd_Words_number ct_Words_number : Value} {f_Words_number : Addr} {od_Words_finish an_Words_finish : Option Addr} {sl_Words_finish : Array (Option Value)} {oc_Words_finish kV_Words_finish dc_Words_finish pm_Words_finish cd_Words_finish ct_Words_finish : Value} {f_Words_finish : Addr} {od_read_node an_read_node : Option Addr} {sl_read_node : Array (Option Value)} {oc_read_node kV_read_node dc_read_node pm_read_node cd_read_node ct_read_node : Value} {f_read_node : Addr} {od_read_tree an_read_tree : Option Addr} {sl_read_tree : Array (Option Value)} {oc_read_tree kV_read_tree dc_read_tree pm_read_tree cd_read_tree ct_read_tree : Value} {f_read_tree : Addr} {od_law an_law : Option Addr} {sl_law : Array (Option Value)} {oc_law kV_law dc_law pm_law cd_law ct_law : Value} {f_law : Addr} {k_HOLE_NODE : Addr} {tkHOLE_NODE_1 : Tok} {odHOLE_NODE : Option Addr} {nHOLE_NODE : Nat} {slHOLE_NODE : Array (Option Value)} {t_HIGHEST_DIGIT : Tok} {t_MOST_CHILDREN : Tok} {t_MOST_PEOPLE : Tok} {Words : Addr} {x_BadText : Addr} {x_BadMachine : Addr} {x_BadPaper : Addr} {x_BadRule : Addr} {x_TooLarge : Addr} {e_ObjectError : Addr} {i_BadText : Addr} {nm_BadText q_BadText : Str} {N_BadText : Addr} {bs_BadText bm_BadText : List Value} {sn_BadText : List Str} {sub_BadText : List Value} {ab_BadText : Bool} {col_BadText : Option Bool} {dd_BadText : Option Addr} {m0_BadText m1_BadText m2_BadText m3_BadText m5_BadText : Option Value} {xoc_BadText xdoc_BadText xpm_BadText xct_BadText ccl_BadText xcl_BadText : Value} {xod_BadText xan_BadText cdd_BadText cld_BadText : Option Addr} {xqu_BadText : Str} {cda_BadText cc_BadText : Addr} {osl_BadText ccs_BadText csl_BadText : Array (Option Value)} {vs_BadText : Array Value} {file_BadText : Str} {tf_BadText : Tok} {p1_BadText p2_BadText p0_BadText p1a_BadText p2a_BadText p3_BadText p4_BadText p5_BadText p6_BadText p7_BadText p8_BadText q1_BadText q2_BadText q3_BadText q4_BadText : Pos}
    (n_ValueError : PySem.W.nsIn K mainGlobals "ValueError" = some none)
    (n_bool : PySem.W.nsIn K mainGlobals "bool" = some none)
    (n_int : PySem.W.nsIn K mainGlobals "int" = some none)
    (n_isinstance : PySem.W.nsIn K mainGlobals "isinstance" = some none)
    (n_len : PySem.W.nsIn K mainGlobals "len" = some none)
    (n_list : PySem.W.nsIn K mainGlobals "list" = some none)
    (n_min : PySem.W.nsIn K mainGlobals "min" = some none)
    (n_range : PySem.W.nsIn K mainGlobals "range" = some none)
    (n_reversed : PySem.W.nsIn K mainGlobals "reversed" = some none)
    (n_str : PySem.W.nsIn K mainGlobals "str" = some none)
    (n_sum : PySem.W.nsIn K mainGlobals "sum" = some none)
    (n_super : PySem.W.nsIn K mainGlobals "super" = some none)
    (n_tuple : PySem.W.nsIn K mainGlobals "tuple" = some none)
    (c_HOLE_NODE : PySem.W.nsIn K mainGlobals "HOLE_NODE" = some (some (.ref k_HOLE_NODE)))
    (c_HIGHEST_DIGIT : PySem.W.nsIn K mainGlobals "HIGHEST_DIGIT" = some (some (.int 9 t_HIGHEST_DIGIT)))
    (c_MOST_CHILDREN : PySem.W.nsIn K mainGlobals "MOST_CHILDREN" = some (some (.int 2 t_MOST_CHILDREN)))
    (c_MOST_PEOPLE : PySem.W.nsIn K mainGlobals "MOST_PEOPLE" = some (some (.int 200 t_MOST_PEOPLE)))
    (gC_Words : PySem.W.nsIn K mainGlobals "Words" = some (some (.ref Words)))
    (gX_BadText : PySem.W.nsIn K mainGlobals "BadText" = some (some (.ref x_BadText)))
    (gX_BadMachine : PySem.W.nsIn K mainGlobals "BadMachine" = some (some (.ref x_BadMachine)))
    (gX_BadPaper : PySem.W.nsIn K mainGlobals "BadPaper" = some (some (.ref x_BadPaper)))
    (gX_BadRule : PySem.W.nsIn K mainGlobals "BadRule" = some (some (.ref x_BadRule)))
    (gX_TooLarge : PySem.W.nsIn K mainGlobals "TooLarge" = some (some (.ref x_TooLarge)))
    (gE_ObjectError : PySem.W.nsIn K mainGlobals "ObjectError" = some (some (.ref e_ObjectError)))
    (a_row_tree : PySem.W.nsIn K mainGlobals "row_tree" = some (some (.ref f_row_tree)))
    (l_row_tree : K.lookup f_row_tree = some ⟨oc_row_tree, od_row_tree, .func (PySem.W.fnOf "row_tree" "row_tree" (defArgs s_row_tree) (defBody s_row_tree) (defScope s_row_tree) .none kV_row_tree dc_row_tree pm_row_tree an_row_tree cd_row_tree ct_row_tree), sl_row_tree⟩)
    (c_row_tree : PySem.W.codeIn K cd_row_tree "row_tree" = true)
    (k_row_tree : PySem.W.keepIn K (.ref f_row_tree) = true)
    (a_people : PySem.W.nsIn K mainGlobals "people" = some (some (.ref f_people)))
    (l_people : K.lookup f_people = some ⟨oc_people, od_people, .func (PySem.W.fnOf "people" "people" (defArgs s_people) (defBody s_people) (defScope s_people) .none kV_people dc_people pm_people an_people cd_people ct_people), sl_people⟩)
    (c_people : PySem.W.codeIn K cd_people "people" = true)
    (k_people : PySem.W.keepIn K (.ref f_people) = true)
    (a_nodes_of : PySem.W.nsIn K mainGlobals "nodes_of" = some (some (.ref f_nodes_of)))
    (l_nodes_of : K.lookup f_nodes_of = some ⟨oc_nodes_of, od_nodes_of, .func (PySem.W.fnOf "nodes_of" "nodes_of" (defArgs s_nodes_of) (defBody s_nodes_of) (defScope s_nodes_of) .none kV_nodes_of dc_nodes_of pm_nodes_of an_nodes_of cd_nodes_of ct_nodes_of), sl_nodes_of⟩)
    (c_nodes_of : PySem.W.codeIn K cd_nodes_of "nodes_of" = true)
    (k_nodes_of : PySem.W.keepIn K (.ref f_nodes_of) = true)
    (a_filled : PySem.W.nsIn K mainGlobals "filled" = some (some (.ref f_filled)))
    (l_filled : K.lookup f_filled = some ⟨oc_filled, od_filled, .func (PySem.W.fnOf "filled" "filled" (defArgs s_filled) (defBody s_filled) (defScope s_filled) .none kV_filled dc_filled pm_filled an_filled cd_filled ct_filled), sl_filled⟩)
    (c_filled : PySem.W.codeIn K cd_filled "filled" = true)
    (k_filled : PySem.W.keepIn K (.ref f_filled) = true)
    (a_tree_of : PySem.W.nsIn K mainGlobals "tree_of" = some (some (.ref f_tree_of)))
    (l_tree_of : K.lookup f_tree_of = some ⟨oc_tree_of, od_tree_of, .func (PySem.W.fnOf "tree_of" "tree_of" (defArgs s_tree_of) (defBody s_tree_of) (defScope s_tree_of) .none kV_tree_of dc_tree_of pm_tree_of an_tree_of cd_tree_of ct_tree_of), sl_tree_of⟩)
    (c_tree_of : PySem.W.codeIn K cd_tree_of "tree_of" = true)
    (k_tree_of : PySem.W.keepIn K (.ref f_tree_of) = true)
    (a_tree_text : PySem.W.nsIn K mainGlobals "tree_text" = some (some (.ref f_tree_text)))
    (l_tree_text : K.lookup f_tree_text = some ⟨oc_tree_text, od_tree_text, .func (PySem.W.fnOf "tree_text" "tree_text" (defArgs s_tree_text) (defBody s_tree_text) (defScope s_tree_text) .none kV_tree_text dc_tree_text pm_tree_text an_tree_text cd_tree_text ct_tree_text), sl_tree_text⟩)
    (c_tree_text : PySem.W.codeIn K cd_tree_text "tree_text" = true)
    (k_tree_text : PySem.W.keepIn K (.ref f_tree_text) = true)
    (a_law_built : PySem.W.nsIn K mainGlobals "_law_built" = some (some (.ref f_law_built)))
    (l_law_built : K.lookup f_law_built = some ⟨oc_law_built, od_law_built, .func (PySem.W.fnOf "_law_built" "_law_built" (defArgs s_law_built) (defBody s_law_built) (defScope s_law_built) .none kV_law_built dc_law_built pm_law_built an_law_built cd_law_built ct_law_built), sl_law_built⟩)
    (c_law_built : PySem.W.codeIn K cd_law_built "_law_built" = true)
    (k_law_built : PySem.W.keepIn K (.ref f_law_built) = true)
    (a_law_count : PySem.W.nsIn K mainGlobals "_law_count" = some (some (.ref f_law_count)))
    (l_law_count : K.lookup f_law_count = some ⟨oc_law_count, od_law_count, .func (PySem.W.fnOf "_law_count" "_law_count" (defArgs s_law_count) (defBody s_law_count) (defScope s_law_count) .none kV_law_count dc_law_count pm_law_count an_law_count cd_law_count ct_law_count), sl_law_count⟩)
    (c_law_count : PySem.W.codeIn K cd_law_count "_law_count" = true)
    (k_law_count : PySem.W.keepIn K (.ref f_law_count) = true)
    (a_law_filled : PySem.W.nsIn K mainGlobals "_law_filled" = some (some (.ref f_law_filled)))
    (l_law_filled : K.lookup f_law_filled = some ⟨oc_law_filled, od_law_filled, .func (PySem.W.fnOf "_law_filled" "_law_filled" (defArgs s_law_filled) (defBody s_law_filled) (defScope s_law_filled) .none kV_law_filled dc_law_filled pm_law_filled an_law_filled cd_law_filled ct_law_filled), sl_law_filled⟩)
    (c_law_filled : PySem.W.codeIn K cd_law_filled "_law_filled" = true)
    (k_law_filled : PySem.W.keepIn K (.ref f_law_filled) = true)
    (a_law_same : PySem.W.nsIn K mainGlobals "_law_same" = some (some (.ref f_law_same)))
    (l_law_same : K.lookup f_law_same = some ⟨oc_law_same, od_law_same, .func (PySem.W.fnOf "_law_same" "_law_same" (defArgs s_law_same) (defBody s_law_same) (defScope s_law_same) .none kV_law_same dc_law_same pm_law_same an_law_same cd_law_same ct_law_same), sl_law_same⟩)
    (c_law_same : PySem.W.codeIn K cd_law_same "_law_same" = true)
    (k_law_same : PySem.W.keepIn K (.ref f_law_same) = true)
    (a_law_digit : PySem.W.nsIn K mainGlobals "_law_digit" = some (some (.ref f_law_digit)))
    (l_law_digit : K.lookup f_law_digit = some ⟨oc_law_digit, od_law_digit, .func (PySem.W.fnOf "_law_digit" "_law_digit" (defArgs s_law_digit) (defBody s_law_digit) (defScope s_law_digit) .none kV_law_digit dc_law_digit pm_law_digit an_law_digit cd_law_digit ct_law_digit), sl_law_digit⟩)
    (c_law_digit : PySem.W.codeIn K cd_law_digit "_law_digit" = true)
    (k_law_digit : PySem.W.keepIn K (.ref f_law_digit) = true)
    (a_law_wrong : PySem.W.nsIn K mainGlobals "_law_wrong" = some (some (.ref f_law_wrong)))
    (l_law_wrong : K.lookup f_law_wrong = some ⟨oc_law_wrong, od_law_wrong, .func (PySem.W.fnOf "_law_wrong" "_law_wrong" (defArgs s_law_wrong) (defBody s_law_wrong) (defScope s_law_wrong) .none kV_law_wrong dc_law_wrong pm_law_wrong an_law_wrong cd_law_wrong ct_law_wrong), sl_law_wrong⟩)
    (c_law_wrong : PySem.W.codeIn K cd_law_wrong "_law_wrong" = true)
    (k_law_wrong : PySem.W.keepIn K (.ref f_law_wrong) = true)
    (a_law_long_words : PySem.W.nsIn K mainGlobals "_law_long_words" = some (some (.ref f_law_long_words)))
    (l_law_long_words : K.lookup f_law_long_words = some ⟨oc_law_long_words, od_law_long_words, .func (PySem.W.fnOf "_law_long_words" "_law_long_words" (defArgs s_law_long_words) (defBody s_law_long_words) (defScope s_law_long_words) .none kV_law_long_words dc_law_long_words pm_law_long_words an_law_long_words cd_law_long_words ct_law_long_words), sl_law_long_words⟩)
    (c_law_long_words : PySem.W.codeIn K cd_law_long_words "_law_long_words" = true)
    (k_law_long_words : PySem.W.keepIn K (.ref f_law_long_words) = true)
    (a_law_draw : PySem.W.nsIn K mainGlobals "_law_draw" = some (some (.ref f_law_draw)))
    (l_law_draw : K.lookup f_law_draw = some ⟨oc_law_draw, od_law_draw, .func (PySem.W.fnOf "_law_draw" "_law_draw" (defArgs s_law_draw) (defBody s_law_draw) (defScope s_law_draw) .none kV_law_draw dc_law_draw pm_law_draw an_law_draw cd_law_draw ct_law_draw), sl_law_draw⟩)
    (c_law_draw : PySem.W.codeIn K cd_law_draw "_law_draw" = true)
    (k_law_draw : PySem.W.keepIn K (.ref f_law_draw) = true)
    (a_law_changed : PySem.W.nsIn K mainGlobals "_law_changed" = some (some (.ref f_law_changed)))
    (l_law_changed : K.lookup f_law_changed = some ⟨oc_law_changed, od_law_changed, .func (PySem.W.fnOf "_law_changed" "_law_changed" (defArgs s_law_changed) (defBody s_law_changed) (defScope s_law_changed) .none kV_law_changed dc_law_changed pm_law_changed an_law_changed cd_law_changed ct_law_changed), sl_law_changed⟩)
    (c_law_changed : PySem.W.codeIn K cd_law_changed "_law_changed" = true)
    (k_law_changed : PySem.W.keepIn K (.ref f_law_changed) = true)
    (a_law_pool : PySem.W.nsIn K mainGlobals "_law_pool" = some (some (.ref f_law_pool)))
    (l_law_pool : K.lookup f_law_pool = some ⟨oc_law_pool, od_law_pool, .func (PySem.W.fnOf "_law_pool" "_law_pool" (defArgs s_law_pool) (defBody s_law_pool) (defScope s_law_pool) .none kV_law_pool dc_law_pool pm_law_pool an_law_pool cd_law_pool ct_law_pool), sl_law_pool⟩)
    (c_law_pool : PySem.W.codeIn K cd_law_pool "_law_pool" = true)
    (k_law_pool : PySem.W.keepIn K (.ref f_law_pool) = true)
    (a_law_tree_words : PySem.W.nsIn K mainGlobals "_law_tree_words" = some (some (.ref f_law_tree_words)))
    (l_law_tree_words : K.lookup f_law_tree_words = some ⟨oc_law_tree_words, od_law_tree_words, .func (PySem.W.fnOf "_law_tree_words" "_law_tree_words" (defArgs s_law_tree_words) (defBody s_law_tree_words) (defScope s_law_tree_words) .none kV_law_tree_words dc_law_tree_words pm_law_tree_words an_law_tree_words cd_law_tree_words ct_law_tree_words), sl_law_tree_words⟩)
    (c_law_tree_words : PySem.W.codeIn K cd_law_tree_words "_law_tree_words" = true)
    (k_law_tree_words : PySem.W.keepIn K (.ref f_law_tree_words) = true)
    (a_Words_initdd : PySem.W.findIn K (.ref Words) "__init__" = some (some (.ref f_Words_initdd)))
    (i_Words_initdd : PySem.W.isFn K (.ref f_Words_initdd) = true)
    (l_Words_initdd : K.lookup f_Words_initdd = some ⟨oc_Words_initdd, od_Words_initdd, .func (PySem.W.fnOf "__init__" "Words.__init__" (defArgs s_Words_initdd) (defBody s_Words_initdd) (defScope s_Words_initdd) .none kV_Words_initdd dc_Words_initdd pm_Words_initdd an_Words_initdd cd_Words_initdd ct_Words_initdd), sl_Words_initdd⟩)
    (c_Words_initdd : PySem.W.codeIn K cd_Words_initdd "Words.__init__" = true)
    (k_Words_initdd : PySem.W.keepIn K (.ref f_Words_initdd) = true)
    (a_Words_ahead : PySem.W.findIn K (.ref Words) "ahead" = some (some (.ref f_Words_ahead)))
    (i_Words_ahead : PySem.W.isFn K (.ref f_Words_ahead) = true)
    (l_Words_ahead : K.lookup f_Words_ahead = some ⟨oc_Words_ahead, od_Words_ahead, .func (PySem.W.fnOf "ahead" "Words.ahead" (defArgs s_Words_ahead) (defBody s_Words_ahead) (defScope s_Words_ahead) .none kV_Words_ahead dc_Words_ahead pm_Words_ahead an_Words_ahead cd_Words_ahead ct_Words_ahead), sl_Words_ahead⟩)
    (c_Words_ahead : PySem.W.codeIn K cd_Words_ahead "Words.ahead" = true)
    (k_Words_ahead : PySem.W.keepIn K (.ref f_Words_ahead) = true)
    (a_Words_take : PySem.W.findIn K (.ref Words) "take" = some (some (.ref f_Words_take)))
    (i_Words_take : PySem.W.isFn K (.ref f_Words_take) = true)
    (l_Words_take : K.lookup f_Words_take = some ⟨oc_Words_take, od_Words_take, .func (PySem.W.fnOf "take" "Words.take" (defArgs s_Words_take) (defBody s_Words_take) (defScope s_Words_take) .none kV_Words_take dc_Words_take pm_Words_take an_Words_take cd_Words_take ct_Words_take), sl_Words_take⟩)
    (c_Words_take : PySem.W.codeIn K cd_Words_take "Words.take" = true)
    (k_Words_take : PySem.W.keepIn K (.ref f_Words_take) = true)
    (a_Words_number : PySem.W.findIn K (.ref Words) "number" = some (some (.ref f_Words_number)))
    (i_Words_number : PySem.W.isFn K (.ref f_Words_number) = true)
    (l_Words_number : K.lookup f_Words_number = some ⟨oc_Words_number, od_Words_number, .func (PySem.W.fnOf "number" "Words.number" (defArgs s_Words_number) (defBody s_Words_number) (defScope s_Words_number) .none kV_Words_number dc_Words_number pm_Words_number an_Words_number cd_Words_number ct_Words_number), sl_Words_number⟩)
    (c_Words_number : PySem.W.codeIn K cd_Words_number "Words.number" = true)
    (k_Words_number : PySem.W.keepIn K (.ref f_Words_number) = true)
    (a_Words_finish : PySem.W.findIn K (.ref Words) "finish" = some (some (.ref f_Words_finish)))
    (i_Words_finish : PySem.W.isFn K (.ref f_Words_finish) = true)
    (l_Words_finish : K.lookup f_Words_finish = some ⟨oc_Words_finish, od_Words_finish, .func (PySem.W.fnOf "finish" "Words.finish" (defArgs s_Words_finish) (defBody s_Words_finish) (defScope s_Words_finish) .none kV_Words_finish dc_Words_finish pm_Words_finish an_Words_finish cd_Words_finish ct_Words_finish), sl_Words_finish⟩)
    (c_Words_finish : PySem.W.codeIn K cd_Words_finish "Words.finish" = true)
    (k_Words_finish : PySem.W.keepIn K (.ref f_Words_finish) = true)
    (a_read_node : PySem.W.nsIn K mainGlobals "read_node" = some (some (.ref f_read_node)))
    (l_read_node : K.lookup f_read_node = some ⟨oc_read_node, od_read_node, .func (PySem.W.fnOf "read_node" "read_node" (defArgs s_read_node) (defBody s_read_node) (defScope s_read_node) .none kV_read_node dc_read_node pm_read_node an_read_node cd_read_node ct_read_node), sl_read_node⟩)
    (c_read_node : PySem.W.codeIn K cd_read_node "read_node" = true)
    (k_read_node : PySem.W.keepIn K (.ref f_read_node) = true)
    (a_read_tree : PySem.W.nsIn K mainGlobals "read_tree" = some (some (.ref f_read_tree)))
    (l_read_tree : K.lookup f_read_tree = some ⟨oc_read_tree, od_read_tree, .func (PySem.W.fnOf "read_tree" "read_tree" (defArgs s_read_tree) (defBody s_read_tree) (defScope s_read_tree) .none kV_read_tree dc_read_tree pm_read_tree an_read_tree cd_read_tree ct_read_tree), sl_read_tree⟩)
    (c_read_tree : PySem.W.codeIn K cd_read_tree "read_tree" = true)
    (k_read_tree : PySem.W.keepIn K (.ref f_read_tree) = true)
    (a_law : PySem.W.nsIn K mainGlobals "law" = some (some (.ref f_law)))
    (l_law : K.lookup f_law = some ⟨oc_law, od_law, .func (PySem.W.fnOf "law" "law" (defArgs s_law) (defBody s_law) (defScope s_law) .none kV_law dc_law pm_law an_law cd_law ct_law), sl_law⟩)
    (c_law : PySem.W.codeIn K cd_law "law" = true)
    (k_law : PySem.W.keepIn K (.ref f_law) = true)
    (r_HOLE_NODE : K.lookup k_HOLE_NODE = some ⟨.type "tuple", odHOLE_NODE, .seq #[.none, .int 0 tkHOLE_NODE_1] nHOLE_NODE, slHOLE_NODE⟩)
    (pg_Words : PySem.W.plainGet K Words Str.empty = true)
    (hd_Words : PySem.W.hasDictIn K Words = true)
    (po_Words : PySem.W.plainOver K Words = true)
    (sa_Words : PySem.W.findIn K (.ref Words) "__setattr__" = some (some (.builtin "object.__setattr__")))
    (no_Words_at : PySem.W.findIn K (.ref Words) "at" = some none)
    (no_Words_words : PySem.W.findIn K (.ref Words) "words" = some none)
    (mk_Words : PySem.W.makesIn K Words = true)
    (kp_Words : PySem.W.keepIn K (.ref Words) = true)
    (exo_BadText_ObjectError : PySem.W.exmOne K (.ref x_BadText) (.ref e_ObjectError) = some true)
    (echg_BadText : PySem.W.findIn K (.ref x_BadText) "__getattribute__" = some (some (.builtin "BaseException.__getattribute__")))
    (echk_BadText : PySem.W.findIn K (.ref x_BadText) "__getattr__" = some none)
    (echs_BadText : PySem.W.subIn K (.ref x_BadText) (.type "BaseException") = some true)
    (echd_BadText : PySem.W.hasDictIn K x_BadText = true)
    (echa_BadText : PySem.W.findIn K (.ref x_BadText) "__class__" = some (some (.builtin "object.__class__")))
    (echn_BadText : PySem.W.specialIn K (.builtin "object.__class__") "__get__" = some (some (.builtin "getset_descriptor.__get__")))
    (echt_BadText : PySem.W.takesIn K (.builtin "object.__class__") = some true)
    (echm_BadText : PySem.W.mroIn K x_BadText (.type "object") = some true)
    (kitT_BadText : PySem.W.kitAny K (.ref x_BadText) [.ref x_BadMachine, .ref x_BadPaper, .ref x_BadRule, .ref x_TooLarge] = some false)
    (kit_BadText_ValueError : PySem.W.kitOne K (.ref x_BadText) (.type "ValueError") = some true)
    (kit_BadText_BadText : PySem.W.kitOne K (.ref x_BadText) (.ref x_BadText) = some true)
    (xL_BadText : K.lookup x_BadText = some (excClassObj nm_BadText q_BadText x_BadText N_BadText bs_BadText bm_BadText true sn_BadText sub_BadText ab_BadText col_BadText dd_BadText m0_BadText m1_BadText m2_BadText m3_BadText m5_BadText "ValueError.__new__"))
    (xR_BadText : PySem.HandSPX.refsVE bm_BadText = true)
    (xsa_BadText : PySem.W.findIn K (.ref x_BadText) "__setattr__" = some (some (.builtin "object.__setattr__")))
    (xga_BadText : PySem.W.findIn K (.ref x_BadText) "__getattribute__" = some (some (.builtin "BaseException.__getattribute__")))
    (xgg_BadText : PySem.W.findIn K (.ref x_BadText) "__getattr__" = some none)
    (xnoN_BadText : PySem.W.findIn K (.ref x_BadText) "at" = some none)
    (xiC_BadText : PySem.W.findIn K (.ref x_BadText) "__init__" = some (some (.ref i_BadText)))
    (xtC_BadText : PySem.W.typeIn K (.ref i_BadText) = some (.type "function"))
    (xkC_BadText : PySem.W.keepIn K (.ref x_BadText) = true)
    (xexC_BadText : PySem.W.subIn K (.ref x_BadText) (.type "BaseException") = some true)
    (xveC_BadText : PySem.W.subIn K (.ref x_BadText) (.type "ValueError") = some true)
    (xtyC_BadText : PySem.W.typeIn K (.ref x_BadText) = some (.type "type"))
    (xhdC_BadText : PySem.W.hasDictIn K x_BadText = true)
    (xms_BadText : PySem.W.mroIn K x_BadText (.ref x_BadText) = some true)
    (xsu_BadText : PySem.W.ks_superIn K x_BadText x_BadText "__init__" = some (some (.builtin "ValueError.__init__")))
    (xop_BadText : PySem.W.nsIn K cStatics "thirdparty.any" = some none)
    (xF_BadText : K.lookup i_BadText = some ⟨xoc_BadText, xod_BadText, .func (ksFn "__init__" xqu_BadText (EX.eArgs "at" p1_BadText p2_BadText) (EX.eBody "at" "the text does not go on like this at word " p0_BadText p1a_BadText p2a_BadText p3_BadText p4_BadText p5_BadText p6_BadText p7_BadText p8_BadText q1_BadText q2_BadText q3_BadText q4_BadText) (EX.eScope "at") .none .none xdoc_BadText xpm_BadText xan_BadText (.ref cda_BadText) xct_BadText cc_BadText), osl_BadText⟩)
    (xC_BadText : PySem.W.codeIn K (.ref cda_BadText) xqu_BadText = true)
    (xP_BadText : (p2a_BadText.endLine == p7_BadText.line) = true)
    (xO_BadText : K.lookup cda_BadText = some ⟨ccl_BadText, cdd_BadText, .fields vs_BadText, ccs_BadText⟩)
    (xV_BadText : vs_BadText[2]? = some (.str file_BadText tf_BadText))
    (xN_BadText : ((PySem.Challenge.pw_someobjects_k02_whole_texts_of_trees.main.file : Str) == file_BadText) = true)
    (xG_BadText : K.lookup cc_BadText = some ⟨xcl_BadText, cld_BadText, .cell (some (.ref x_BadText)), csl_BadText⟩)
    (xT_BadText : (PySem.Challenge.pw_someobjects_k02_whole_texts_of_trees.main.scope.names.lookup ("super" : Str)).isSome = false) :
    ∃ fd : FuncData, (∀ (s : Shared) (v : Value), BindsTo s fd ⟨[v], []⟩ [("script", v)]) ∧ ∀ base : Heap, K.In base → base.Ns mainGlobals mg → FnOk (PySem.Challenge.rw_someobjects_k02_whole_texts_of_trees).prog w K mg base CX0 231 fa fd ["script"] (spLaw K) := by
  have e : f_law = fa := Value.ref.inj (Option.some.inj ((PySem.W.mg_of X G a_law).symm.trans hfa))
  subst e
  have F_row_tree := fun_mk (st := s_row_tree) l_row_tree c_row_tree k_row_tree
  have b_row_tree := F_row_tree.binds (ps := ["row"]) fun _ _ _ _ _ _ us hl => match us, hl with | [_], _ => rfl
  have F_people := fun_mk (st := s_people) l_people c_people k_people
  have b_people := F_people.binds (ps := ["tree"]) fun _ _ _ _ _ _ us hl => match us, hl with | [_], _ => rfl
  have F_nodes_of := fun_mk (st := s_nodes_of) l_nodes_of c_nodes_of k_nodes_of
  have b_nodes_of := F_nodes_of.binds (ps := ["tree"]) fun _ _ _ _ _ _ us hl => match us, hl with | [_], _ => rfl
  have F_filled := fun_mk (st := s_filled) l_filled c_filled k_filled
  have b_filled := F_filled.binds (ps := ["context", "tree"]) fun _ _ _ _ _ _ us hl => match us, hl with | [_, _], _ => rfl
  have F_tree_of := fun_mk (st := s_tree_of) l_tree_of c_tree_of k_tree_of
  have b_tree_of := F_tree_of.binds (ps := ["nodes"]) fun _ _ _ _ _ _ us hl => match us, hl with | [_], _ => rfl
  have F_tree_text := fun_mk (st := s_tree_text) l_tree_text c_tree_text k_tree_text
  have b_tree_text := F_tree_text.binds (ps := ["tree"]) fun _ _ _ _ _ _ us hl => match us, hl with | [_], _ => rfl
  have F_law_built := fun_mk (st := s_law_built) l_law_built c_law_built k_law_built
  have b_law_built := F_law_built.binds (ps := ["words"]) fun _ _ _ _ _ _ us hl => match us, hl with | [_], _ => rfl
  have F_law_count := fun_mk (st := s_law_count) l_law_count c_law_count k_law_count
  have b_law_count := F_law_count.binds (ps := ["tree"]) fun _ _ _ _ _ _ us hl => match us, hl with | [_], _ => rfl
  have F_law_filled := fun_mk (st := s_law_filled) l_law_filled c_law_filled k_law_filled
  have b_law_filled := F_law_filled.binds (ps := ["context", "tree"]) fun _ _ _ _ _ _ us hl => match us, hl with | [_, _], _ => rfl
  have F_law_same := fun_mk (st := s_law_same) l_law_same c_law_same k_law_same
  have b_law_same := F_law_same.binds (ps := ["actual", "due"]) fun _ _ _ _ _ _ us hl => match us, hl with | [_, _], _ => rfl
  have F_law_digit := fun_mk (st := s_law_digit) l_law_digit c_law_digit k_law_digit
  have b_law_digit := F_law_digit.binds (ps := ["word", "most"]) fun _ _ _ _ _ _ us hl => match us, hl with | [_, _], _ => rfl
  have F_law_wrong := fun_mk (st := s_law_wrong) l_law_wrong c_law_wrong k_law_wrong
  have b_law_wrong := F_law_wrong.binds (ps := ["words"]) fun _ _ _ _ _ _ us hl => match us, hl with | [_], _ => rfl
  have F_law_long_words := fun_mk (st := s_law_long_words) l_law_long_words c_law_long_words k_law_long_words
  have b_law_long_words := F_law_long_words.binds (ps := ["pool"]) fun _ _ _ _ _ _ us hl => match us, hl with | [_], _ => rfl
  have F_law_draw := fun_mk (st := s_law_draw) l_law_draw c_law_draw k_law_draw
  have b_law_draw := F_law_draw.binds (ps := ["pool", "size"]) fun _ _ _ _ _ _ us hl => match us, hl with | [_, _], _ => rfl
  have F_law_changed := fun_mk (st := s_law_changed) l_law_changed c_law_changed k_law_changed
  have b_law_changed := F_law_changed.binds (ps := ["pool", "words"]) fun _ _ _ _ _ _ us hl => match us, hl with | [_, _], _ => rfl
  have F_law_pool := fun_mk (st := s_law_pool) l_law_pool c_law_pool k_law_pool
  have b_law_pool := F_law_pool.binds (ps := ["script", "budget"]) fun _ _ _ _ _ _ us hl => match us, hl with | [_, _], _ => rfl
  have F_law_tree_words := fun_mk (st := s_law_tree_words) l_law_tree_words c_law_tree_words k_law_tree_words
  have b_law_tree_words := F_law_tree_words.binds (ps := ["pool", "left", "hole"]) fun _ _ _ _ _ _ us hl => match us, hl with | [_, _, _], _ => rfl
  have F_Words_initdd := fun_mk (st := s_Words_initdd) l_Words_initdd c_Words_initdd k_Words_initdd
  have b_Words_initdd := F_Words_initdd.binds (ps := ["self", "text"]) fun _ _ _ _ _ _ us hl => match us, hl with | [_, _], _ => rfl
  have F_Words_ahead := fun_mk (st := s_Words_ahead) l_Words_ahead c_Words_ahead k_Words_ahead
  have b_Words_ahead := F_Words_ahead.binds (ps := ["self"]) fun _ _ _ _ _ _ us hl => match us, hl with | [_], _ => rfl
  have F_Words_take := fun_mk (st := s_Words_take) l_Words_take c_Words_take k_Words_take
  have b_Words_take := F_Words_take.binds (ps := ["self", "fitting"]) fun _ _ _ _ _ _ us hl => match us, hl with | [_, _], _ => rfl
  have F_Words_number := fun_mk (st := s_Words_number) l_Words_number c_Words_number k_Words_number
  have b_Words_number := F_Words_number.binds (ps := ["self", "low", "high"]) fun _ _ _ _ _ _ us hl => match us, hl with | [_, _, _], _ => rfl
  have F_Words_finish := fun_mk (st := s_Words_finish) l_Words_finish c_Words_finish k_Words_finish
  have b_Words_finish := F_Words_finish.binds (ps := ["self"]) fun _ _ _ _ _ _ us hl => match us, hl with | [_], _ => rfl
  have F_read_node := fun_mk (st := s_read_node) l_read_node c_read_node k_read_node
  have b_read_node := F_read_node.binds (ps := ["words", "may_be_hole", "room"]) fun _ _ _ _ _ _ us hl => match us, hl with | [_, _, _], _ => rfl
  have F_read_tree := fun_mk (st := s_read_tree) l_read_tree c_read_tree k_read_tree
  have b_read_tree := F_read_tree.binds (ps := ["text"]) fun _ _ _ _ _ _ us hl => match us, hl with | [_], _ => rfl
  have F_law := fun_mk (st := s_law) l_law c_law k_law
  have b_law := F_law.binds (ps := ["script"]) fun _ _ _ _ _ _ us hl => match us, hl with | [_], _ => rfl
  have T : Tx K mg { f_row_tree := f_row_tree, d_row_tree := PySem.W.fnOf "row_tree" "row_tree" (defArgs s_row_tree) (defBody s_row_tree) (defScope s_row_tree) .none kV_row_tree dc_row_tree pm_row_tree an_row_tree cd_row_tree ct_row_tree, f_people := f_people, d_people := PySem.W.fnOf "people" "people" (defArgs s_people) (defBody s_people) (defScope s_people) .none kV_people dc_people pm_people an_people cd_people ct_people, f_nodes_of := f_nodes_of, d_nodes_of := PySem.W.fnOf "nodes_of" "nodes_of" (defArgs s_nodes_of) (defBody s_nodes_of) (defScope s_nodes_of) .none kV_nodes_of dc_nodes_of pm_nodes_of an_nodes_of cd_nodes_of ct_nodes_of, f_filled := f_filled, d_filled := PySem.W.fnOf "filled" "filled" (defArgs s_filled) (defBody s_filled) (defScope s_filled) .none kV_filled dc_filled pm_filled an_filled cd_filled ct_filled, f_tree_of := f_tree_of, d_tree_of := PySem.W.fnOf "tree_of" "tree_of" (defArgs s_tree_of) (defBody s_tree_of) (defScope s_tree_of) .none kV_tree_of dc_tree_of pm_tree_of an_tree_of cd_tree_of ct_tree_of, f_tree_text := f_tree_text, d_tree_text := PySem.W.fnOf "tree_text" "tree_text" (defArgs s_tree_text) (defBody s_tree_text) (defScope s_tree_text) .none kV_tree_text dc_tree_text pm_tree_text an_tree_text cd_tree_text ct_tree_text, f_law_built := f_law_built, d_law_built := PySem.W.fnOf "_law_built" "_law_built" (defArgs s_law_built) (defBody s_law_built) (defScope s_law_built) .none kV_law_built dc_law_built pm_law_built an_law_built cd_law_built ct_law_built, f_law_count := f_law_count, d_law_count := PySem.W.fnOf "_law_count" "_law_count" (defArgs s_law_count) (defBody s_law_count) (defScope s_law_count) .none kV_law_count dc_law_count pm_law_count an_law_count cd_law_count ct_law_count, f_law_filled := f_law_filled, d_law_filled := PySem.W.fnOf "_law_filled" "_law_filled" (defArgs s_law_filled) (defBody s_law_filled) (defScope s_law_filled) .none kV_law_filled dc_law_filled pm_law_filled an_law_filled cd_law_filled ct_law_filled, f_law_same := f_law_same, d_law_same := PySem.W.fnOf "_law_same" "_law_same" (defArgs s_law_same) (defBody s_law_same) (defScope s_law_same) .none kV_law_same dc_law_same pm_law_same an_law_same cd_law_same ct_law_same, f_law_digit := f_law_digit, d_law_digit := PySem.W.fnOf "_law_digit" "_law_digit" (defArgs s_law_digit) (defBody s_law_digit) (defScope s_law_digit) .none kV_law_digit dc_law_digit pm_law_digit an_law_digit cd_law_digit ct_law_digit, f_law_wrong := f_law_wrong, d_law_wrong := PySem.W.fnOf "_law_wrong" "_law_wrong" (defArgs s_law_wrong) (defBody s_law_wrong) (defScope s_law_wrong) .none kV_law_wrong dc_law_wrong pm_law_wrong an_law_wrong cd_law_wrong ct_law_wrong, f_law_long_words := f_law_long_words, d_law_long_words := PySem.W.fnOf "_law_long_words" "_law_long_words" (defArgs s_law_long_words) (defBody s_law_long_words) (defScope s_law_long_words) .none kV_law_long_words dc_law_long_words pm_law_long_words an_law_long_words cd_law_long_words ct_law_long_words, f_law_draw := f_law_draw, d_law_draw := PySem.W.fnOf "_law_draw" "_law_draw" (defArgs s_law_draw) (defBody s_law_draw) (defScope s_law_draw) .none kV_law_draw dc_law_draw pm_law_draw an_law_draw cd_law_draw ct_law_draw, f_law_changed := f_law_changed, d_law_changed := PySem.W.fnOf "_law_changed" "_law_changed" (defArgs s_law_changed) (defBody s_law_changed) (defScope s_law_changed) .none kV_law_changed dc_law_changed pm_law_changed an_law_changed cd_law_changed ct_law_changed, f_law_pool := f_law_pool, d_law_pool := PySem.W.fnOf "_law_pool" "_law_pool" (defArgs s_law_pool) (defBody s_law_pool) (defScope s_law_pool) .none kV_law_pool dc_law_pool pm_law_pool an_law_pool cd_law_pool ct_law_pool, f_law_tree_words := f_law_tree_words, d_law_tree_words := PySem.W.fnOf "_law_tree_words" "_law_tree_words" (defArgs s_law_tree_words) (defBody s_law_tree_words) (defScope s_law_tree_words) .none kV_law_tree_words dc_law_tree_words pm_law_tree_words an_law_tree_words cd_law_tree_words ct_law_tree_words, f_Words_initdd := f_Words_initdd, d_Words_initdd := PySem.W.fnOf "__init__" "Words.__init__" (defArgs s_Words_initdd) (defBody s_Words_initdd) (defScope s_Words_initdd) .none kV_Words_initdd dc_Words_initdd pm_Words_initdd an_Words_initdd cd_Words_initdd ct_Words_initdd, f_Words_ahead := f_Words_ahead, d_Words_ahead := PySem.W.fnOf "ahead" "Words.ahead" (defArgs s_Words_ahead) (defBody s_Words_ahead) (defScope s_Words_ahead) .none kV_Words_ahead dc_Words_ahead pm_Words_ahead an_Words_ahead cd_Words_ahead ct_Words_ahead, f_Words_take := f_Words_take, d_Words_take := PySem.W.fnOf "take" "Words.take" (defArgs s_Words_take) (defBody s_Words_take) (defScope s_Words_take) .none kV_Words_take dc_Words_take pm_Words_take an_Words_take cd_Words_take ct_Words_take, f_Words_number := f_Words_number, d_Words_number := PySem.W.fnOf "number" "Words.number" (defArgs s_Words_number) (defBody s_Words_number) (defScope s_Words_number) .none kV_Words_number dc_Words_number pm_Words_number an_Words_number cd_Words_number ct_Words_number, f_Words_finish := f_Words_finish, d_Words_finish := PySem.W.fnOf "finish" "Words.finish" (defArgs s_Words_finish) (defBody s_Words_finish) (defScope s_Words_finish) .none kV_Words_finish dc_Words_finish pm_Words_finish an_Words_finish cd_Words_finish ct_Words_finish, f_read_node := f_read_node, d_read_node := PySem.W.fnOf "read_node" "read_node" (defArgs s_read_node) (defBody s_read_node) (defScope s_read_node) .none kV_read_node dc_read_node pm_read_node an_read_node cd_read_node ct_read_node, f_read_tree := f_read_tree, d_read_tree := PySem.W.fnOf "read_tree" "read_tree" (defArgs s_read_tree) (defBody s_read_tree) (defScope s_read_tree) .none kV_read_tree dc_read_tree pm_read_tree an_read_tree cd_read_tree ct_read_tree, f_law := f_law, d_law := PySem.W.fnOf "law" "law" (defArgs s_law) (defBody s_law) (defScope s_law) .none kV_law dc_law pm_law an_law cd_law ct_law, k_HOLE_NODE := k_HOLE_NODE, t_HIGHEST_DIGIT := t_HIGHEST_DIGIT, t_MOST_CHILDREN := t_MOST_CHILDREN, t_MOST_PEOPLE := t_MOST_PEOPLE, Words := Words, i_BadText := i_BadText, x_BadText := x_BadText, x_BadMachine := x_BadMachine, x_BadPaper := x_BadPaper, x_BadRule := x_BadRule, x_TooLarge := x_TooLarge, e_ObjectError := e_ObjectError } := {
    n_ValueError := PySem.W.mg_none_of X G n_ValueError,
    n_bool := PySem.W.mg_none_of X G n_bool,
    n_int := PySem.W.mg_none_of X G n_int,
    n_isinstance := PySem.W.mg_none_of X G n_isinstance,
    n_len := PySem.W.mg_none_of X G n_len,
    n_list := PySem.W.mg_none_of X G n_list,
    n_min := PySem.W.mg_none_of X G n_min,
    n_range := PySem.W.mg_none_of X G n_range,
    n_reversed := PySem.W.mg_none_of X G n_reversed,
    n_str := PySem.W.mg_none_of X G n_str,
    n_sum := PySem.W.mg_none_of X G n_sum,
    n_super := PySem.W.mg_none_of X G n_super,
    n_tuple := PySem.W.mg_none_of X G n_tuple,
    f_row_tree := ⟨F_row_tree, PySem.W.mg_of X G a_row_tree, b_row_tree⟩,
    f_people := ⟨F_people, PySem.W.mg_of X G a_people, b_people⟩,
    f_nodes_of := ⟨F_nodes_of, PySem.W.mg_of X G a_nodes_of, b_nodes_of⟩,
    f_filled := ⟨F_filled, PySem.W.mg_of X G a_filled, b_filled⟩,
    f_tree_of := ⟨F_tree_of, PySem.W.mg_of X G a_tree_of, b_tree_of⟩,
    f_tree_text := ⟨F_tree_text, PySem.W.mg_of X G a_tree_text, b_tree_text⟩,
    f_law_built := ⟨F_law_built, PySem.W.mg_of X G a_law_built, b_law_built⟩,
    f_law_count := ⟨F_law_count, PySem.W.mg_of X G a_law_count, b_law_count⟩,
    f_law_filled := ⟨F_law_filled, PySem.W.mg_of X G a_law_filled, b_law_filled⟩,
    f_law_same := ⟨F_law_same, PySem.W.mg_of X G a_law_same, b_law_same⟩,
    f_law_digit := ⟨F_law_digit, PySem.W.mg_of X G a_law_digit, b_law_digit⟩,
    f_law_wrong := ⟨F_law_wrong, PySem.W.mg_of X G a_law_wrong, b_law_wrong⟩,
    f_law_long_words := ⟨F_law_long_words, PySem.W.mg_of X G a_law_long_words, b_law_long_words⟩,
    f_law_draw := ⟨F_law_draw, PySem.W.mg_of X G a_law_draw, b_law_draw⟩,
    f_law_changed := ⟨F_law_changed, PySem.W.mg_of X G a_law_changed, b_law_changed⟩,
    f_law_pool := ⟨F_law_pool, PySem.W.mg_of X G a_law_pool, b_law_pool⟩,
    f_law_tree_words := ⟨F_law_tree_words, PySem.W.mg_of X G a_law_tree_words, b_law_tree_words⟩,
    f_Words_initdd := ⟨F_Words_initdd, ⟨a_Words_initdd, i_Words_initdd, k_Words_initdd⟩, b_Words_initdd⟩,
    f_Words_ahead := ⟨F_Words_ahead, ⟨a_Words_ahead, i_Words_ahead, k_Words_ahead⟩, b_Words_ahead⟩,
    f_Words_take := ⟨F_Words_take, ⟨a_Words_take, i_Words_take, k_Words_take⟩, b_Words_take⟩,
    f_Words_number := ⟨F_Words_number, ⟨a_Words_number, i_Words_number, k_Words_number⟩, b_Words_number⟩,
    f_Words_finish := ⟨F_Words_finish, ⟨a_Words_finish, i_Words_finish, k_Words_finish⟩, b_Words_finish⟩,
    f_read_node := ⟨F_read_node, PySem.W.mg_of X G a_read_node, b_read_node⟩,
    f_read_tree := ⟨F_read_tree, PySem.W.mg_of X G a_read_tree, b_read_tree⟩,
    f_law := ⟨F_law, PySem.W.mg_of X G a_law, b_law⟩,
    c_HOLE_NODE := PySem.W.mg_of X G c_HOLE_NODE,
    r_HOLE_NODE := fun S => .tup (xs := [V.non, V.int 0]) (.inr ⟨_, _, _, r_HOLE_NODE, rfl, rfl, by show 2 ≤ sizeLine; decide, .cons rfl (.cons ⟨_, rfl⟩ (.nil))⟩) (.cons (Rep.non) (.cons (Rep.int _) (.nil))),
    c_HIGHEST_DIGIT := PySem.W.mg_of X G c_HIGHEST_DIGIT,
    c_MOST_CHILDREN := PySem.W.mg_of X G c_MOST_CHILDREN,
    c_MOST_PEOPLE := PySem.W.mg_of X G c_MOST_PEOPLE,
    cl_Words := ⟨pg_Words, hd_Words, po_Words, sa_Words⟩,
    no_Words_at := no_Words_at,
    no_Words_words := no_Words_words,
    mk_Words := ⟨mk_Words, a_Words_initdd, i_Words_initdd, kp_Words⟩,
    gC_Words := PySem.W.mg_of X G gC_Words,
    gX_BadText := PySem.W.mg_of X G gX_BadText,
    gX_BadMachine := PySem.W.mg_of X G gX_BadMachine,
    gX_BadPaper := PySem.W.mg_of X G gX_BadPaper,
    gX_BadRule := PySem.W.mg_of X G gX_BadRule,
    gX_TooLarge := PySem.W.mg_of X G gX_TooLarge,
    gE_ObjectError := PySem.W.mg_of X G gE_ObjectError,
    exo_BadText_ObjectError := exo_BadText_ObjectError,
    ec_BadText := { hg := echg_BadText, hk := echk_BadText, hs := echs_BadText, hd := echd_BadText, ha := echa_BadText, hn := echn_BadText, ht := echt_BadText, hm := echm_BadText },
    kitT_BadText := kitT_BadText,
    kit_BadText_ValueError := kit_BadText_ValueError,
    kit_BadText_BadText := kit_BadText_BadText,
    x_BadText := { cls := ⟨_, _, _, _, _, _, _, _, _, _, _, _, _, _, _, xL_BadText, xR_BadText⟩, sa := xsa_BadText, ga := xga_BadText, gg := xgg_BadText, noN := xnoN_BadText, iC := xiC_BadText, tC := xtC_BadText, kC := xkC_BadText, exC := xexC_BadText, veC := xveC_BadText, tyC := xtyC_BadText, hdC := xhdC_BadText, ms := xms_BadText, su := xsu_BadText, op := xop_BadText, fn := ⟨_, _, _, _, _, _, _, _, _, _, _, _, _, _, _, _, _, _, _, _, _, _, _, _, _, xF_BadText, xC_BadText, xP_BadText, ⟨_, _, _, _, _, _, xO_BadText, xV_BadText, xN_BadText⟩, _, _, _, xG_BadText⟩, topS := xT_BadText } }
  exact ⟨_, fun s v => .of_eq rfl, fun base _ _ => law_ok T⟩
theorem walk {q : Program} {loose : List Str} {XP : (Str → Option Value) → Heap → Prop} {YP : World → Heap → Prop} {d : DefRec} {K : Params → PySem.W.Frag} (hdf : d.params.defaults = [])
    (hY : ∀ (w : World) (h : Heap), YP w h → (K w.params).In h)
    (F : ∀ (w : World) (mg : Str → Option Value) (fa : Addr) (h : Heap), (K w.params).In h → h.Ns mainGlobals mg → mg d.name = some (.ref fa) →
      ∃ fd : FuncData, (∀ (s : Shared) (u : Value), BindsTo s fd ⟨[u], []⟩ [("script", u)]) ∧ ∀ base : Heap, (K w.params).In base → base.Ns mainGlobals mg → FnOk (PySem.Challenge.rw_someobjects_k02_whole_texts_of_trees).prog w (K w.params) mg base CX0 231 fa fd ["script"] (spLaw (K w.params))) :
    PySem.W.WalkO q loose XP YP (PySem.Challenge.rw_someobjects_k02_whole_texts_of_trees).row.toRowW d [] (fun f vs => PySem.call f vs) :=
  L2.walk_of (l := PySem.Challenge.rw_someobjects_k02_whole_texts_of_trees) (n := 63) (k := 231) (x := "script") (CX := fun _ => CX0) (sp := fun w => spLaw (K w.params)) rfl (by decide) hdf ⟨rfl, by decide, by decide⟩ hY F (fun _ _ a ns _ _ hS => ⟨a, ns, rfl, hS, fun _ => rfl⟩) fun _ _ _ _ _ z => z
end G
open PySem PySem.W PyProof.Rows in
set_option maxRecDepth 100000 in
set_option maxHeartbeats 0 in
theorem PySem.Challenge.cw_someobjects_k02_whole_texts_of_trees_holds : PySem.Challenge.rw_someobjects_k02_whole_texts_of_trees.Holds := by
  w_on; o_law; k_head; (case hw => w_witness2)
  k_fill
  refine G.walk rfl (fun w h Y => PySem.W.kIn_of Y) ?F
  case F =>
    intro w mg fa h KX hN hmg
    refine' G.all_mk KX hN hmg ?n_ValueError ?n_bool ?n_int ?n_isinstance ?n_len ?n_list ?n_min ?n_range ?n_reversed ?n_str ?n_sum ?n_super ?n_tuple ?c_HOLE_NODE ?c_HIGHEST_DIGIT ?c_MOST_CHILDREN ?c_MOST_PEOPLE ?gC_Words ?gX_BadText ?gX_BadMachine ?gX_BadPaper ?gX_BadRule ?gX_TooLarge ?gE_ObjectError ?a_row_tree ?l_row_tree ?c_row_tree ?k_row_tree ?a_people ?l_people ?c_people ?k_people ?a_nodes_of ?l_nodes_of ?c_nodes_of ?k_nodes_of ?a_filled ?l_filled ?c_filled ?k_filled ?a_tree_of ?l_tree_of ?c_tree_of ?k_tree_of ?a_tree_text ?l_tree_text ?c_tree_text ?k_tree_text ?a_law_built ?l_law_built ?c_law_built ?k_law_built ?a_law_count ?l_law_count ?c_law_count ?k_law_count ?a_law_filled ?l_law_filled ?c_law_filled ?k_law_filled ?a_law_same ?l_law_same ?c_law_same ?k_law_same ?a_law_digit ?l_law_digit ?c_law_digit ?k_law_digit ?a_law_wrong ?l_law_wrong ?c_law_wrong ?k_law_wrong ?a_law_long_words ?l_law_long_words ?c_law_long_words ?k_law_long_words ?a_law_draw ?l_law_draw ?c_law_draw ?k_law_draw ?a_law_changed ?l_law_changed ?c_law_changed ?k_law_changed ?a_law_pool ?l_law_pool ?c_law_pool ?k_law_pool ?a_law_tree_words ?l_law_tree_words ?c_law_tree_words ?k_law_tree_words ?a_Words_initdd ?i_Words_initdd ?l_Words_initdd ?c_Words_initdd ?k_Words_initdd ?a_Words_ahead ?i_Words_ahead ?l_Words_ahead ?c_Words_ahead ?k_Words_ahead ?a_Words_take ?i_Words_take ?l_Words_take ?c_Words_take ?k_Words_take ?a_Words_number ?i_Words_number ?l_Words_number ?c_Words_number ?k_Words_number ?a_Words_finish ?i_Words_finish ?l_Words_finish ?c_Words_finish ?k_Words_finish ?a_read_node ?l_read_node ?c_read_node ?k_read_node ?a_read_tree ?l_read_tree ?c_read_tree ?k_read_tree ?a_law ?l_law ?c_law ?k_law ?r_HOLE_NODE ?pg_Words ?hd_Words ?po_Words ?sa_Words ?no_Words_at ?no_Words_words ?mk_Words ?kp_Words ?exo_BadText_ObjectError ?echg_BadText ?echk_BadText ?echs_BadText ?echd_BadText ?echa_BadText ?echn_BadText ?echt_BadText ?echm_BadText ?kitT_BadText ?kit_BadText_ValueError ?kit_BadText_BadText ?xL_BadText ?xR_BadText ?xsa_BadText ?xga_BadText ?xgg_BadText ?xnoN_BadText ?xiC_BadText ?xtC_BadText ?xkC_BadText ?xexC_BadText ?xveC_BadText ?xtyC_BadText ?xhdC_BadText ?xms_BadText ?xsu_BadText ?xop_BadText ?xF_BadText ?xC_BadText ?xP_BadText ?xO_BadText ?xV_BadText ?xN_BadText ?xG_BadText ?xT_BadText
    (case n_ValueError => first | k_is | ks_is | kts_exm | kit_is | rfl | decide +kernel)
    (case n_bool => first | k_is | ks_is | kts_exm | kit_is | rfl | decide +kernel)
    (case n_int => first | k_is | ks_is | kts_exm | kit_is | rfl | decide +kernel)
    (case n_isinstance => first | k_is | ks_is | kts_exm | kit_is | rfl | decide +kernel)
    (case n_len => first | k_is | ks_is | kts_exm | kit_is | rfl | decide +kernel)
    (case n_list => first | k_is | ks_is | kts_exm | kit_is | rfl | decide +kernel)
    (case n_min => first | k_is | ks_is | kts_exm | kit_is | rfl | decide +kernel)
    (case n_range => first | k_is | ks_is | kts_exm | kit_is | rfl | decide +kernel)
    (case n_reversed => first | k_is | ks_is | kts_exm | kit_is | rfl | decide +kernel)
    (case n_str => first | k_is | ks_is | kts_exm | kit_is | rfl | decide +kernel)
    (case n_sum => first | k_is | ks_is | kts_exm | kit_is | rfl | decide +kernel)
    (case n_super => first | k_is | ks_is | kts_exm | kit_is | rfl | decide +kernel)
    (case n_tuple => first | k_is | ks_is | kts_exm | kit_is | rfl | decide +kernel)
    (case c_HOLE_NODE => first | k_is | ks_is | kts_exm | kit_is | rfl | decide +kernel)
    (case c_HIGHEST_DIGIT => first | k_is | ks_is | kts_exm | kit_is | rfl | decide +kernel)
    (case c_MOST_CHILDREN => first | k_is | ks_is | kts_exm | kit_is | rfl | decide +kernel)
    (case c_MOST_PEOPLE => first | k_is | ks_is | kts_exm | kit_is | rfl | decide +kernel)
    (case gC_Words => first | k_is | ks_is | kts_exm | kit_is | rfl | decide +kernel)
    (case gX_BadText => first | k_is | ks_is | kts_exm | kit_is | rfl | decide +kernel)
    (case gX_BadMachine => first | k_is | ks_is | kts_exm | kit_is | rfl | decide +kernel)
    (case gX_BadPaper => first | k_is | ks_is | kts_exm | kit_is | rfl | decide +kernel)
    (case gX_BadRule => first | k_is | ks_is | kts_exm | kit_is | rfl | decide +kernel)
    (case gX_TooLarge => first | k_is | ks_is | kts_exm | kit_is | rfl | decide +kernel)
    (case gE_ObjectError => first | k_is | ks_is | kts_exm | kit_is | rfl | decide +kernel)
    (case a_row_tree => first | k_is | ks_is | kts_exm | kit_is | rfl | decide +kernel)
    (case l_row_tree => first | k_is | ks_is | kts_exm | kit_is | rfl | decide +kernel)
    (case c_row_tree => first | k_is | ks_is | kts_exm | kit_is | rfl | decide +kernel)
    (case k_row_tree => first | k_is | ks_is | kts_exm | kit_is | rfl | decide +kernel)
    (case a_people => first | k_is | ks_is | kts_exm | kit_is | rfl | decide +kernel)
    (case l_people => first | k_is | ks_is | kts_exm | kit_is | rfl | decide +kernel)
    (case c_people => first | k_is | ks_is | kts_exm | kit_is | rfl | decide +kernel)
    (case k_people => first | k_is | ks_is | kts_exm | kit_is | rfl | decide +kernel)
    (case a_nodes_of => first | k_is | ks_is | kts_exm | kit_is | rfl | decide +kernel)
    (case l_nodes_of => first | k_is | ks_is | kts_exm | kit_is | rfl | decide +kernel)
    (case c_nodes_of => first | k_is | ks_is | kts_exm | kit_is | rfl | decide +kernel)
    (case k_nodes_of => first | k_is | ks_is | kts_exm | kit_is | rfl | decide +kernel)
    (case a_filled => first | k_is | ks_is | kts_exm | kit_is | rfl | decide +kernel)
    (case l_filled => first | k_is | ks_is | kts_exm | kit_is | rfl | decide +kernel)
    (case c_filled => first | k_is | ks_is | kts_exm | kit_is | rfl | decide +kernel)
    (case k_filled => first | k_is | ks_is | kts_exm | kit_is | rfl | decide +kernel)
    (case a_tree_of => first | k_is | ks_is | kts_exm | kit_is | rfl | decide +kernel)
    (case l_tree_of => first | k_is | ks_is | kts_exm | kit_is | rfl | decide +kernel)
    (case c_tree_of => first | k_is | ks_is | kts_exm | kit_is | rfl | decide +kernel)
    (case k_tree_of => first | k_is | ks_is | kts_exm | kit_is | rfl | decide +kernel)
    (case a_tree_text => first | k_is | ks_is | kts_exm | kit_is | rfl | decide +kernel)
    (case l_tree_text => first | k_is | ks_is | kts_exm | kit_is | rfl | decide +kernel)
    (case c_tree_text => first | k_is | ks_is | kts_exm | kit_is | rfl | decide +kernel)
    (case k_tree_text => first | k_is | ks_is | kts_exm | kit_is | rfl | decide +kernel)
    (case a_law_built => first | k_is | ks_is | kts_exm | kit_is | rfl | decide +kernel)
    (case l_law_built => first | k_is | ks_is | kts_exm | kit_is | rfl | decide +kernel)
    (case c_law_built => first | k_is | ks_is | kts_exm | kit_is | rfl | decide +kernel)
    (case k_law_built => first | k_is | ks_is | kts_exm | kit_is | rfl | decide +kernel)
    (case a_law_count => first | k_is | ks_is | kts_exm | kit_is | rfl | decide +kernel)
    (case l_law_count => first | k_is | ks_is | kts_exm | kit_is | rfl | decide +kernel)
    (case c_law_count => first | k_is | ks_is | kts_exm | kit_is | rfl | decide +kernel)
    (case k_law_count => first | k_is | ks_is | kts_exm | kit_is | rfl | decide +kernel)
    (case a_law_filled => first | k_is | ks_is | kts_exm | kit_is | rfl | decide +kernel)
    (case l_law_filled => first | k_is | ks_is | kts_exm | kit_is | rfl | decide +kernel)
    (case c_law_filled => first | k_is | ks_is | kts_exm | kit_is | rfl | decide +kernel)
    (case k_law_filled => first | k_is | ks_is | kts_exm | kit_is | rfl | decide +kernel)
    (case a_law_same => first | k_is | ks_is | kts_exm | kit_is | rfl | decide +kernel)
    (case l_law_same => first | k_is | ks_is | kts_exm | kit_is | rfl | decide +kernel)
    (case c_law_same => first | k_is | ks_is | kts_exm | kit_is | rfl | decide +kernel)
    (case k_law_same => first | k_is | ks_is | kts_exm | kit_is | rfl | decide +kernel)
    (case a_law_digit => first | k_is | ks_is | kts_exm | kit_is | rfl | decide +kernel)
    (case l_law_digit => first | k_is | ks_is | kts_exm | kit_is | rfl | decide +kernel)
    (case c_law_digit => first | k_is | ks_is | kts_exm | kit_is | rfl | decide +kernel)
    (case k_law_digit => first | k_is | ks_is | kts_exm | kit_is | rfl | decide +kernel)
    (case a_law_wrong => first | k_is | ks_is | kts_exm | kit_is | rfl | decide +kernel)
    (case l_law_wrong => first | k_is | ks_is | kts_exm | kit_is | rfl | decide +kernel)
    (case c_law_wrong => first | k_is | ks_is | kts_exm | kit_is | rfl | decide +kernel)
    (case k_law_wrong => first | k_is | ks_is | kts_exm | kit_is | rfl | decide +kernel)
    (case a_law_long_words => first | k_is | ks_is | kts_exm | kit_is | rfl | decide +kernel)
    (case l_law_long_words => first | k_is | ks_is | kts_exm | kit_is | rfl | decide +kernel)
    (case c_law_long_words => first | k_is | ks_is | kts_exm | kit_is | rfl | decide +kernel)
    (case k_law_long_words => first | k_is | ks_is | kts_exm | kit_is | rfl | decide +kernel)
    (case a_law_draw => first | k_is | ks_is | kts_exm | kit_is | rfl | decide +kernel)
    (case l_law_draw => first | k_is | ks_is | kts_exm | kit_is | rfl | decide +kernel)
    (case c_law_draw => first | k_is | ks_is | kts_exm | kit_is | rfl | decide +kernel)
    (case k_law_draw => first | k_is | ks_is | kts_exm | kit_is | rfl | decide +kernel)
    (case a_law_changed => first | k_is | ks_is | kts_exm | kit_is | rfl | decide +kernel)
    (case l_law_changed => first | k_is | ks_is | kts_exm | kit_is | rfl | decide +kernel)
    (case c_law_changed => first | k_is | ks_is | kts_exm | kit_is | rfl | decide +kernel)
    (case k_law_changed => first | k_is | ks_is | kts_exm | kit_is | rfl | decide +kernel)
    (case a_law_pool => first | k_is | ks_is | kts_exm | kit_is | rfl | decide +kernel)
    (case l_law_pool => first | k_is | ks_is | kts_exm | kit_is | rfl | decide +kernel)
    (case c_law_pool => first | k_is | ks_is | kts_exm | kit_is | rfl | decide +kernel)
    (case k_law_pool => first | k_is | ks_is | kts_exm | kit_is | rfl | decide +kernel)
    (case a_law_tree_words => first | k_is | ks_is | kts_exm | kit_is | rfl | decide +kernel)
    (case l_law_tree_words => first | k_is | ks_is | kts_exm | kit_is | rfl | decide +kernel)
    (case c_law_tree_words => first | k_is | ks_is | kts_exm | kit_is | rfl | decide +kernel)
    (case k_law_tree_words => first | k_is | ks_is | kts_exm | kit_is | rfl | decide +kernel)
    (case a_Words_initdd => first | k_is | ks_is | kts_exm | kit_is | rfl | decide +kernel)
    (case i_Words_initdd => first | k_is | ks_is | kts_exm | kit_is | rfl | decide +kernel)
    (case l_Words_initdd => first | k_is | ks_is | kts_exm | kit_is | rfl | decide +kernel)
    (case c_Words_initdd => first | k_is | ks_is | kts_exm | kit_is | rfl | decide +kernel)
    (case k_Words_initdd => first | k_is | ks_is | kts_exm | kit_is | rfl | decide +kernel)
    (case a_Words_ahead => first | k_is | ks_is | kts_exm | kit_is | rfl | decide +kernel)
    (case i_Words_ahead => first | k_is | ks_is | kts_exm | kit_is | rfl | decide +kernel)
    (case l_Words_ahead => first | k_is | ks_is | kts_exm | kit_is | rfl | decide +kernel)
    (case c_Words_ahead => first | k_is | ks_is | kts_exm | kit_is | rfl | decide +kernel)
    (case k_Words_ahead => first | k_is | ks_is | kts_exm | kit_is | rfl | decide +kernel)
    (case a_Words_take => first | k_is | ks_is | kts_exm | kit_is | rfl | decide +kernel)
    (case i_Words_take => first | k_is | ks_is | kts_exm | kit_is | rfl | decide +kernel)
    (case l_Words_take => first | k_is | ks_is | kts_exm | kit_is | rfl | decide +kernel)
    (case c_Words_take => first | k_is | ks_is | kts_exm | kit_is | rfl | decide +kernel)
    (case k_Words_take => first | k_is | ks_is | kts_exm | kit_is | rfl | decide +kernel)
    (case a_Words_number => first | k_is | ks_is | kts_exm | kit_is | rfl | decide +kernel)
    (case i_Words_number => first | k_is | ks_is | kts_exm | kit_is | rfl | decide +kernel)
    (case l_Words_number => first | k_is | ks_is | kts_exm | kit_is | rfl | decide +kernel)
    (case c_Words_number => first | k_is | ks_is | kts_exm | kit_is | rfl | decide +kernel)
    (case k_Words_number => first | k_is | ks_is | kts_exm | kit_is | rfl | decide +kernel)
    (case a_Words_finish => first | k_is | ks_is | kts_exm | kit_is | rfl | decide +kernel)
    (case i_Words_finish => first | k_is | ks_is | kts_exm | kit_is | rfl | decide +kernel)
    (case l_Words_finish => first | k_is | ks_is | kts_exm | kit_is | rfl | decide +kernel)
    (case c_Words_finish => first | k_is | ks_is | kts_exm | kit_is | rfl | decide +kernel)
    (case k_Words_finish => first | k_is | ks_is | kts_exm | kit_is | rfl | decide +kernel)
    (case a_read_node => first | k_is | ks_is | kts_exm | kit_is | rfl | decide +kernel)
    (case l_read_node => first | k_is | ks_is | kts_exm | kit_is | rfl | decide +kernel)
    (case c_read_node => first | k_is | ks_is | kts_exm | kit_is | rfl | decide +kernel)
    (case k_read_node => first | k_is | ks_is | kts_exm | kit_is | rfl | decide +kernel)
    (case a_read_tree => first | k_is | ks_is | kts_exm | kit_is | rfl | decide +kernel)
    (case l_read_tree => first | k_is | ks_is | kts_exm | kit_is | rfl | decide +kernel)
    (case c_read_tree => first | k_is | ks_is | kts_exm | kit_is | rfl | decide +kernel)
    (case k_read_tree => first | k_is | ks_is | kts_exm | kit_is | rfl | decide +kernel)
    (case a_law => first | k_is | ks_is | kts_exm | kit_is | rfl | decide +kernel)
    (case l_law => first | k_is | ks_is | kts_exm | kit_is | rfl | decide +kernel)
    (case c_law => first | k_is | ks_is | kts_exm | kit_is | rfl | decide +kernel)
    (case k_law => first | k_is | ks_is | kts_exm | kit_is | rfl | decide +kernel)
    (case r_HOLE_NODE => first | k_is | ks_is | kts_exm | kit_is | rfl | decide +kernel)
    (case pg_Words => first | k_is | ks_is | kts_exm | kit_is | rfl | decide +kernel)
    (case hd_Words => first | k_is | ks_is | kts_exm | kit_is | rfl | decide +kernel)
    (case po_Words => first | k_is | ks_is | kts_exm | kit_is | rfl | decide +kernel)
    (case sa_Words => first | k_is | ks_is | kts_exm | kit_is | rfl | decide +kernel)
    (case no_Words_at => first | k_is | ks_is | kts_exm | kit_is | rfl | decide +kernel)
    (case no_Words_words => first | k_is | ks_is | kts_exm | kit_is | rfl | decide +kernel)
    (case mk_Words => first | k_is | ks_is | kts_exm | kit_is | rfl | decide +kernel)
    (case kp_Words => first | k_is | ks_is | kts_exm | kit_is | rfl | decide +kernel)
    (case exo_BadText_ObjectError => first | k_is | ks_is | kts_exm | kit_is | rfl | decide +kernel)
    (case echg_BadText => first | k_is | ks_is | kts_exm | kit_is | rfl | decide +kernel)
    (case echk_BadText => first | k_is | ks_is | kts_exm | kit_is | rfl | decide +kernel)
    (case echs_BadText => first | k_is | ks_is | kts_exm | kit_is | rfl | decide +kernel)
    (case echd_BadText => first | k_is | ks_is | kts_exm | kit_is | rfl | decide +kernel)
    (case echa_BadText => first | k_is | ks_is | kts_exm | kit_is | rfl | decide +kernel)
    (case echn_BadText => first | k_is | ks_is | kts_exm | kit_is | rfl | decide +kernel)
    (case echt_BadText => first | k_is | ks_is | kts_exm | kit_is | rfl | decide +kernel)
    (case echm_BadText => first | k_is | ks_is | kts_exm | kit_is | rfl | decide +kernel)
    (case kitT_BadText => first | k_is | ks_is | kts_exm | kit_is | rfl | decide +kernel)
    (case kit_BadText_ValueError => first | k_is | ks_is | kts_exm | kit_is | rfl | decide +kernel)
    (case kit_BadText_BadText => first | k_is | ks_is | kts_exm | kit_is | rfl | decide +kernel)
    (case xL_BadText => first | k_is | ks_is | kts_exm | kit_is | rfl | decide +kernel)
    (case xR_BadText => first | k_is | ks_is | kts_exm | kit_is | rfl | decide +kernel)
    (case xsa_BadText => first | k_is | ks_is | kts_exm | kit_is | rfl | decide +kernel)
    (case xga_BadText => first | k_is | ks_is | kts_exm | kit_is | rfl | decide +kernel)
    (case xgg_BadText => first | k_is | ks_is | kts_exm | kit_is | rfl | decide +kernel)
    (case xnoN_BadText => first | k_is | ks_is | kts_exm | kit_is | rfl | decide +kernel)
    (case xiC_BadText => first | k_is | ks_is | kts_exm | kit_is | rfl | decide +kernel)
    (case xtC_BadText => first | k_is | ks_is | kts_exm | kit_is | rfl | decide +kernel)
    (case xkC_BadText => first | k_is | ks_is | kts_exm | kit_is | rfl | decide +kernel)
    (case xexC_BadText => first | k_is | ks_is | kts_exm | kit_is | rfl | decide +kernel)
    (case xveC_BadText => first | k_is | ks_is | kts_exm | kit_is | rfl | decide +kernel)
    (case xtyC_BadText => first | k_is | ks_is | kts_exm | kit_is | rfl | decide +kernel)
    (case xhdC_BadText => first | k_is | ks_is | kts_exm | kit_is | rfl | decide +kernel)
    (case xms_BadText => first | k_is | ks_is | kts_exm | kit_is | rfl | decide +kernel)
    (case xsu_BadText => first | k_is | ks_is | kts_exm | kit_is | rfl | decide +kernel)
    (case xop_BadText => first | k_is | ks_is | kts_exm | kit_is | rfl | decide +kernel)
    (case xF_BadText => first | k_is | ks_is | kts_exm | kit_is | rfl | decide +kernel)
    (case xC_BadText => first | k_is | ks_is | kts_exm | kit_is | rfl | decide +kernel)
    (case xP_BadText => first | k_is | ks_is | kts_exm | kit_is | rfl | decide +kernel)
    (case xO_BadText => first | k_is | ks_is | kts_exm | kit_is | rfl | decide +kernel)
    (case xV_BadText => first | k_is | ks_is | kts_exm | kit_is | rfl | decide +kernel)
    (case xN_BadText => first | k_is | ks_is | kts_exm | kit_is | rfl | decide +kernel)
    (case xG_BadText => first | k_is | ks_is | kts_exm | kit_is | rfl | decide +kernel)
    (case xT_BadText => first | k_is | ks_is | kts_exm | kit_is | rfl | decide +kernel)
end

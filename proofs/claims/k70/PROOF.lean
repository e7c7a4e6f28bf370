import PyProof.Rows.All
import Wide.All
import OpenK.AllK
import Wide.FinOn
import KE.KExcSuper
import KE.KSuper
import KE.KExcIs
import HandS.ForMost
import HandS.Exc
import HandS.ForExc
import HandS.ExcField
import HandS.IsInst
import HandS.Defaults
import HandS.MakeKw
import HandS.Codes
import HandS.Walk
import KE.KExcLine
import PySem.Challenge.RW_loopcuts_k70_errors
set_option Elab.async false
set_option linter.all false
set_option maxRecDepth 100000
set_option maxHeartbeats 4000000
/-! own exceptions that say super().__init__(text) and keep one field: the machine's steps -/
namespace Fx
open PySem PySem.W PySem.Calls Builtin Builtin.ObjectAttr
section
variable {M : Model} {prog : Program} {w : World} {A : Around} {E : Value → Shared → Prop} {R : Result → Shared → Prop} {h : Heap} {g : Array GenState} {d : Drawn} {t : Nat} {os : OsState}
variable {nm qn : Str} {C N : Addr} {bs bm bmB : List Value} {hdct : Bool} {sn : List Str} {sub : List Value} {ab : Bool} {col : Option Bool} {dd : Option Addr} {k0 k1 k2 k3 k5 : Option Value} {B nw ini : String}

/-- the check ahead of __new__, with keywords -/
theorem newChk (FB : ExcBaseFacts B nw ini bmB) (same : ∀ T : String, bm.contains (.type T) = bmB.contains (.type T)) {rest : List Value} {f : Str} {v : Value} {Q : Unit → Shared → Prop}
    (hC : h.get? C = some (excClassObj nm qn C N bs bm hdct sn sub ab col dd k0 k1 k2 k3 k5 nw)) (hq : Q () ⟨h, g, d, t, os⟩) :
    wpAny M A (checkBuiltinCall nw ⟨.ref C :: rest, [(f, v)]⟩) Q E ⟨h, g, d, t, os⟩ := by
  have isB : (Value.ref C :: bm).contains (.type B) = true := by
    rw [List.contains_cons, same, FB.hasB]
    exact Bool.or_true _
  have noS := FB.noStar
  simp only [checkBuiltinCall, FB.newKind, FB.newSplit, FB.newRow]
  repeat (first
    | refine wpAny_loadPart_at hC ?_
    | (refine wpAny_isSubtype_exc hC ?_; rw [isB])
    | refine wpAny_staticBase_exc hC ?_
    | refine wpAny_madeBy_exc hC ?_
    | simp only [bne_self_eq_false, Bool.false_eq_true, if_false]
    | wp_step)
  all_goals exact hq

/-- __new__ of such a class lays the tuple of the arguments, then the object -/
theorem newRun (FB : ExcBaseFacts B nw ini bmB) (same : ∀ T : String, bm.contains (.type T) = bmB.contains (.type T)) {rest : List Value} {kw : List (Str × Value)}
    (hC : h.get? C = some (excClassObj nm qn C N bs bm hdct sn sub ab col dd k0 k1 k2 k3 k5 nw)) (few : rest.length ≤ sizeLine)
    (hq : R (.ok (.ret (.ref (h.objs.size + 1)))) ⟨(h.push (excTup rest)).push (excObj C h.objs.size none .none), g, d, t, os⟩) :
    codeAny (model prog w) A (.builtin nw ⟨.ref C :: rest, kw⟩) R ⟨h, g, d, t, os⟩ := by
  have ends := FB.ends
  have isB : (Value.ref C :: bm).contains (.type B) = true := by
    rw [List.contains_cons, same, FB.hasB]
    exact Bool.or_true _
  have isA : (Value.ref C :: bm).contains (.type "AttributeError") = false := by
    rw [List.contains_cons, same, FB.noAttr]
    rfl
  have isN : (Value.ref C :: bm).contains (.type "NameError") = false := by
    rw [List.contains_cons, same, FB.noName]
    rfl
  refine codeAny_builtinAt FB.entry ?_
  unfold Builtin.«BaseException.__new__»
  refine wpAt_bind ?_
  show wpAt _ _ _ (stack >>= _) _ _ _
  refine wpAt_bind (wpAt_stack fun fr below => wpAt_of_wpAny ?_)
  wp_walk
  refine wpAt_of_wpAny ?_
  rw [FB.owner]
  repeat (first
    | with_reducible refine wpAny_madeHere_exc FB.canon hC ?_
    | with_reducible refine wpAny_loadPart_at hC ?_
    | (with_reducible refine wpAny_isSubtype_exc hC ?_; first | rw [isB] | rw [isA] | rw [isN])
    | wp_step)
  show R _ _
  rw [Heap.size_push]
  exact hq

/-- type.__call__: __new__, then the class's own __init__ -/
theorem typeRun (FB : ExcBaseFacts B nw ini bmB) (same : ∀ T : String, bm.contains (.type T) = bmB.contains (.type T)) {rest : List Value} {kw : List (Str × Value)} {fI : Addr} {Q : Fin → Shared → Prop}
    (chk : ∀ {Q' : Unit → Shared → Prop} {A' : Around} {E' : Value → Shared → Prop}, Q' () ⟨h, g, d, t, os⟩ → wpAny (model prog w) A' (checkBuiltinCall nw ⟨.ref C :: rest, kw⟩) Q' E' ⟨h, g, d, t, os⟩)
    (hC : h.get? C = some (excClassObj nm qn C N bs bm hdct sn sub ab col dd k0 k1 k2 k3 k5 nw)) (few : rest.length ≤ sizeLine)
    (li : W.Looks (model prog w) h (typeLookup (.ref C) "__init__") (some (.ref fI))) (lb : ∀ self, W.Looks (model prog w) h (bindSpecial (.ref fI) self) (.ref fI, [self]))
    (hq : codeAny (model prog w) A (.call (.ref fI) ⟨.ref (h.objs.size + 1) :: rest, kw⟩)
      (fun r s' => match r with | .ok (.ret v) => v = .none ∧ Q (.done (.ret (.ref (h.objs.size + 1)))) s' | .ok _ => False | .error e => E e s')
      ⟨(h.push (excTup rest)).push (excObj C h.objs.size none .none), g, d, t, os⟩) :
    wpAny (model prog w) A (Builtin.«type.__call__» ⟨.ref C :: rest, kw⟩) Q E ⟨h, g, d, t, os⟩ := by
  repeat (first | with_reducible refine wpAny_loadPart_at hC ?_ | with_reducible refine wpAny_madeBy_exc hC ?_ | wp_step)
  refine codeAny_call_builtin_code (Code.quiet_builtin _ FB.quiet) (chk ?_)
  refine newRun FB same hC few ?_
  show wpAny _ _ _ _ _ _
  have kp : ∀ b o, h.get? b = some o → ((h.push (excTup rest)).push (excObj C h.objs.size none .none)).get? b = some o := fun b o e => Heap.get?_push_of_some _ (Heap.get?_push_of_some _ e)
  have hC1 := kp _ _ hC
  have here : ((h.push (excTup rest)).push (excObj C h.objs.size none .none)).get? (h.objs.size + 1) = some (excObj C h.objs.size none .none) := by heap_get
  have isC : (Value.ref C :: bm).contains (.ref C) = true := by simp
  have li1 := li.keeps kp
  have lb1 := (lb (.ref (h.objs.size + 1))).keeps kp
  unfold isInstance
  repeat (first | with_reducible refine wpAny_loadPart_at here ?_ | (with_reducible refine wpAny_isSubtype_exc hC1 ?_; rw [isC]) | wp_step)
  show wpAny _ _ (typeLookup (.ref C) _) _ _ _
  refine li1.at ?_
  refine wpAny_holding (wpAny_bind (lb1.at ?_))
  refine wpAny_bind (wpAny_call (codeAny_mono hq fun r s' z => ?_))
  rcases r with e | (v | _ | _ | _) <;> first | exact z | exact z.elim | skip
  obtain ⟨rfl, z⟩ := z
  first
    | exact wpAny_pure (wpAny_pure z)
    | (wp_walk; exact z)

/-- the class called -/
theorem classRun (FB : ExcBaseFacts B nw ini bmB) (same : ∀ T : String, bm.contains (.type T) = bmB.contains (.type T)) {rest : List Value} {kw : List (Str × Value)} {fI : Addr}
    (chk : ∀ {Q' : Unit → Shared → Prop} {A' : Around} {E' : Value → Shared → Prop}, Q' () ⟨h, g, d, t, os⟩ → wpAny (model prog w) A' (checkBuiltinCall nw ⟨.ref C :: rest, kw⟩) Q' E' ⟨h, g, d, t, os⟩)
    (hC : h.get? C = some (excClassObj nm qn C N bs bm hdct sn sub ab col dd k0 k1 k2 k3 k5 nw)) (few : rest.length ≤ sizeLine)
    (li : W.Looks (model prog w) h (typeLookup (.ref C) "__init__") (some (.ref fI))) (lb : ∀ self, W.Looks (model prog w) h (bindSpecial (.ref fI) self) (.ref fI, [self]))
    (hq : codeAny (model prog w) (A.under (.builtin "type.__call__" ⟨.ref C :: rest, kw⟩)) (.call (.ref fI) ⟨.ref (h.objs.size + 1) :: rest, kw⟩) (W.InitBack (h.objs.size + 1) R)
      ⟨(h.push (excTup rest)).push (excObj C h.objs.size none .none), g, d, t, os⟩) :
    codeAny (model prog w) A (.call (.ref C) ⟨rest, kw⟩) R ⟨h, g, d, t, os⟩ := by
  have tl := tc_lookup
  have tb := tc_bind (.ref C)
  have isT : (⟨h, g, d, t, os⟩ : Shared).TypeIs (.ref C) "type" := ⟨_, hC, rfl⟩
  refine codeAny_of_tree ?_
  show wpAny _ _ (callAny (.ref C) _) _ _ _
  repeat (any_goals (first | assumption | with_reducible refine wpAny_loadPart_at hC ?_ | wp_step))
  refine ⟨rfl, ?_⟩
  refine codeAny_call_builtin_at (Code.quiet_builtin _ (by decide +kernel)) entry_typeCall (wpAny_check_type_call_sub hC (typeRun FB same chk hC few li lb ?_))
  refine codeAny_mono hq fun r s' z => ?_
  rcases r with e | (v | _ | _ | _) <;> exact z

/-- the bound built-in __init__, called: the arguments are laid anew -/
theorem wrapRun (FB : ExcBaseFacts B nw ini bmB) {u e t0 : Addr} {rest : List Value} {Q : Value → Shared → Prop}
    (hC : h.get? C = some (excClassObj nm qn C N bs bm hdct sn sub ab col dd k0 k1 k2 k3 k5 nw)) (he : h.get? e = some (excObj C t0 none .none)) (hu : h.get? u = some (kxs_mw ini e)) (few : rest.length ≤ sizeLine)
    (hq : ∀ h', (∀ b o, b ≠ e → h.get? b = some o → h'.get? b = some o) → h'.get? e = some (excObj C h.objs.size none .none) → Q .none ⟨h', g, d, t, os⟩) :
    wpAny (model prog w) A (call (.ref u) rest) Q E ⟨h, g, d, t, os⟩ := by
  refine wpAny_call (codeAny_of_tree ?_)
  show wpAny _ A.in1 (callAny (.ref u) ⟨rest, []⟩) _ _ _
  simp only [callAny]
  refine wpAny_bind (wpAny_load hu ?_)
  simp only [kxs_mw, show (Value.type "method-wrapper" == Value.type "method" || Value.type "method-wrapper" == Value.type "builtin_function_or_method" || Value.type "method-wrapper" == Value.type "method-wrapper") = true by decide, if_true]
  refine KFB.if_so (by decide) ?_
  refine wpAny_bind (check_bound_init FB.toExcCallFacts hC he rfl ?_)
  refine wpAny_bind (wpAny_pure (wpAny_pure ?_))
  refine ⟨plainId_quiet FB.init.plain _, codeAny_builtin FB.initEntry ?_⟩
  exact exc_init_tree (cls := .ref C) (t0 := t0) (dv := none) (c2 := .none) (c3 := .none) (b4 := .bool false) he few fun h' k e' _ => hq h' k e'

/-- self.f = v, the first field of such an object -/
theorem fieldRun (SF : StoreFacts B bmB "object.__setattr__" "object") {K : W.Frag} {f : Str} {v : Value} {x t0 : Addr} {Q : Unit → Shared → Prop} (X : K.In h) (hx : h.get? x = some (excObj C t0 none .none))
    (over : excOver K C bmB = true) (tk : takerIn K C f = some none) (hd : hasDictIn K C = true) (sa : findIn K (.ref C) "__setattr__" = some (some (.builtin "object.__setattr__")))
    (hq : ∀ h' tk' dx, (∀ b o, b ≠ x → h.get? b = some o → h'.get? b = some o) → h.objs.size ≤ dx → dx ≠ x → h'.get? x = some (excObj C t0 (some dx) .none) →
      h'.Ns1 dx (fun y => if y = f then some v else none) → Q () ⟨h', g, d, tk', os⟩) :
    wpAny (model prog w) A (setAttr (.ref x) f v) Q E ⟨h, g, d, t, os⟩ := by
  have I : W.InstAt h x (excObj C t0 none .none) C none := ⟨hx, rfl, rfl, trivial⟩
  refine set_plain X I sa ?_
  refine osa_openX SF X I over tk fun b => ?_
  obtain ⟨cd, hcd, hh⟩ := any_some hd
  have hcls : W.Looks (model prog w) h (classData C) cd := W.looks_clsIn X hcd
  have hxs : x ≠ h.objs.size := Nat.ne_of_lt (Heap.lt_size hx)
  obtain ⟨cn, cb, cm, cns, cq, chd, csn, csb, cab, ccol, cdel⟩ := cd
  dsimp only at hh
  subst hh
  show wpAny _ _ (storeInOwnDict (.ref x) (.ref C) _ f v b) _ _ _
  unfold storeInOwnDict ownDictForStores
  repeat (first | with_reducible refine HandSPX.store_in_new ?_ ?_ | with_reducible refine wpAny_loadPart_at hx ?_ | with_reducible refine hcls.at ?_ | wp_step)
  · exact ⟨_, #[], _, (Heap.get?_update_ne _ _ _ _ hxs.symm).trans (Heap.get?_push_at rfl rfl), rfl, fun e he => absurd he (by simp), fun _ => rfl⟩
  · intro h' tk' hn' hs
    have hx1 : (h.push { cls := .type "dict", data := .dict #[] }).get? x = some (excObj C t0 none .none) := Heap.get?_push_of_some _ hx
    refine hq h' tk' h.objs.size (fun b o hb ho => ?_) (Nat.le_refl _) hxs.symm ?_ hn'
    · exact (hs.2 b (Nat.ne_of_lt (Heap.lt_size ho))).trans ((Heap.get?_update_ne _ _ _ _ hb).trans (Heap.get?_push_of_some _ ho))
    · exact (hs.2 x hxs).trans (Heap.get?_update_self _ hx1 rfl)
end
end Fx

set_option maxRecDepth 100000
set_option maxHeartbeats 4000000
namespace Fx
open PySem PySem.W PySem.Calls Builtin Builtin.ObjectAttr
/-- the text: def __init__(self, fld): super().__init__(msg); self.fld = fld -/
def xArgs (fld : Str) (p1 p2 : Pos) : Arguments := { posonlyargs := [], args := [{ arg := "self", annotation := none, pos := p1 }, { arg := fld, annotation := none, pos := p2 }], vararg := none, kwonlyargs := [], kw_defaults := [], kwarg := none, defaults := [] }
def xBody (fld msg : Str) (q1 q2 q3 q4 q5 q6 q7 q8 q9 q10 : Pos) : List Stmt :=
  [.Expr (.Call (.Attribute (.Call (.Name "super" q1) [] [] q2) "__init__" q3) [.Constant (.str msg) 0 q4] [] q5) q6, .Assign [.Attribute (.Name "self" q7) fld q8] (.Name fld q9) q10]
def xScope (fld : Str) : Scope := { kind := .function, names := [(PySem.Str.ofString "self", .local), (fld, .local), (PySem.Str.ofString "__class__", .free), (PySem.Str.ofString "super", .globalImplicit)], isGenerator := false, isCoroutine := false, more := [] }
/-- the fields that there are -/
def Fld (fld : Str) : Prop := fld = ("place" : Str) ∨ fld = ("value" : Str) ∨ fld = ("line" : Str) ∨ fld = ("paper" : Str) ∨ fld = ("loop" : Str)
/-- what the written part says of such a class, at C, and of its __init__, at f -/
structure XT (prog : Program) (K : Frag) (mg : Str → Option Value) (B nw ini : String) (bmB : List Value) (C f : Addr) (fld : Str) : Prop where
  FB : ExcBaseFacts B nw ini bmB
  KF : KxsFacts B ini
  SF : StoreFacts B bmB "object.__setattr__" "object"
  nm : Fld fld
  exi : excInitIn K C bmB nw = true
  over : excOver K C bmB = true
  sa : findIn K (.ref C) "__setattr__" = some (some (.builtin "object.__setattr__"))
  tk : takerIn K C fld = some none
  hd : hasDictIn K C = true
  iC : findIn K (.ref C) "__init__" = some (some (.ref f))
  iF : isFn K (.ref f) = true
  op : nsIn K cStatics "thirdparty.any" = some none
  su : ks_superIn K C C "__init__" = some (some (.builtin ini))
  sB : subIn K (.ref C) (.type B) = some true
  mr : mroIn K C (.ref C) = some true
  gs : mg "super" = none
  top : (prog.main.scope.names.lookup ("super" : Str)).isSome = false
  fn : ∃ (oc doc pm ct : Value) (od an : Option Addr) (osl : Array (Option Value)) (cda cc : Addr) (qual msg : Str) (p1 p2 q1 q2 q3 q4 q5 q6 q7 q8 q9 q10 : Pos),
    K.lookup f = some ⟨oc, od, .func (ksFn "__init__" qual (xArgs fld p1 p2) (xBody fld msg q1 q2 q3 q4 q5 q6 q7 q8 q9 q10) (xScope fld) .none .none doc pm an (.ref cda) ct cc), osl⟩ ∧
    codeIn K (.ref cda) qual = true ∧
    (∃ (ccl : Value) (cdd : Option Addr) (vs : Array Value) (ccs : Array (Option Value)) (file : Str) (tf : Tok), K.lookup cda = some ⟨ccl, cdd, .fields vs, ccs⟩ ∧ vs[2]? = some (.str file tf) ∧ ((prog.main.file : Str) == file) = true) ∧
    (∃ (cl : Value) (cld : Option Addr) (csl : Array (Option Value)), K.lookup cc = some ⟨cl, cld, .cell (some (.ref C)), csl⟩) ∧ (q3.endLine == q5.line) = true
section
variable {prog : Program} {w : World} {A : Around} {E : Value → Shared → Prop} {R : Result → Shared → Prop} {s : Shared} {K : Frag} {mg : Str → Option Value} {B nw ini : String} {bmB : List Value} {C f : Addr} {fld : Str}

theorem nsKeep {h h' : Heap} {L : Addr} {m : Str → Option Value} {x : Addr} (hn : h.Ns L m) (ne : L ≠ x) (k : ∀ b o, b ≠ x → h.get? b = some o → h'.get? b = some o) : h'.Ns L m := by
  obtain ⟨o, es, ep, e, r⟩ := hn
  exact ⟨o, es, ep, k _ _ ne e, r⟩

theorem mcall {o : Expr} {name : Str} {apos pos : Pos} {args : List Expr} {env : Env} (hln : (apos.endLine == pos.line) = true) (hf : methodCallForm (args.length + 0) (backTo pos (starEach args env)) [] = true) :
    eval (.Call (.Attribute o name apos) args [] pos) env = (do
      let ov ← attributeBase o name env (eval o env)
      standAt apos.atName
      let (f, first) ← holding [ov] (getMethod ov name (do return (← importBound o env).getD true))
      callWith pos f first (backTo pos (starEach args env)) []) := by
  rw [arm_eval_Call]
  have hk : backToKw pos (keywordEach [] env) = [] := rfl
  have hp : methodCallPos true o env apos pos = pure pos := by
    unfold methodCallPos
    rw [if_pos (by rw [hln]; rfl)]
  unfold methodCall calleeOf
  rw [hk]
  have hf' : methodCallForm (args.length + ([] : List Keyword).length) (backTo pos (starEach args env)) [] = true := hf
  rw [hf', hp]
  rfl

theorem initRun (T : XT prog K mg B nw ini bmB C f fld) {x t0 : Addr} {v : Value} (X : K.In s.heap) (lim : s.heap.NoLimit) (gl : s.heap.Ns mainGlobals mg) (bl : ∃ mb, s.heap.Ns builtinsNs mb ∧ mb "super" = some (.type "super"))
    (hx : s.heap.get? x = some (excObj C t0 none .none)) (hnx : K.lookup x = none) (ngl : mainGlobals ≠ x) (nbl : builtinsNs ≠ x) (room : A.depth < recursionLimit) {args : Args} (ha : args = ⟨[.ref x, v], []⟩ ∨ args = ⟨[.ref x], [(fld, v)]⟩)
    (hq : ∀ h' tk dx t1, (∀ b o, b ≠ x → s.heap.get? b = some o → h'.get? b = some o) → s.heap.objs.size ≤ dx → dx ≠ x → h'.get? x = some (excObj C t1 (some dx) .none) →
      h'.Ns1 dx (fun y => if y = fld then some v else none) → R (.ok (.ret .none)) { s with heap := h', toks := tk }) :
    codeAny (model prog w) A (.call (.ref f) args) R s := by
  obtain ⟨oc, doc, pm, ct, od, an, osl, cda, cc, qual, msg, p1, p2, q1, q2, q3, q4, q5, q6, q7, q8, q9, q10, ho, hcd, ⟨ccl, cdd, vs, ccs, file, tf, hcode, hvs, hfile⟩, ⟨cl, cld, csl, hcell⟩, hln⟩ := T.fn
  obtain ⟨mb, hbl, hbs⟩ := bl
  rcases T.nm with rfl | rfl | rfl | rfl | rfl
  all_goals
    refine ks_codeAny_call_defAt (body := xBody _ msg q1 q2 q3 q4 q5 q6 q7 q8 q9 q10) (binds := [(("self" : Str), .ref x), (_, v)]) room (X _ _ ho) rfl lim (codeRec_of X hcd) rfl
      (by rcases ha with rfl | rfl <;> exact BindsTo.of_eq (by first | rfl | with_unfolding_all rfl)) (fun y hy => ?_) (fun y hy => ?_) (fun h1 hns hk1 => ?_) rfl rfl rfl
    · rcases List.mem_cons.mp hy with rfl | hy
      · intro z; cases z
      rcases List.mem_cons.mp hy with rfl | hy
      · intro z; cases z
      rcases List.mem_cons.mp hy with rfl | hy
      · intro z; cases z
      rcases List.mem_cons.mp hy with rfl | hy
      · intro z; cases z
      · cases hy
    · simp only [List.mem_cons, List.not_mem_nil, or_false] at hy
      rcases hy with rfl | rfl
      · rfl
      · rfl
    have hxs : x < s.heap.objs.size := Heap.lt_size hx
    have hL : s.heap.objs.size < h1.objs.size := hns.lt
    have X1 : K.In h1 := X.keeps hk1
    have hx1 := hk1 _ _ hx
    have I1 : W.InstAt h1 x (excObj C t0 none .none) C none := ⟨hx1, rfl, rfl, trivial⟩
    have hsub : W.Looks (model prog w) h1 (isInstance (.ref x) (.type B)) true := I1.type.andThen (looks_subIn X1 T.sB)
    show wpAt _ _ _ (execs (xBody _ msg q1 q2 q3 q4 q5 q6 q7 q8 q9 q10) _) _ _ _
    unfold xBody
    refine ks_wpAt_execs_cons (ks_wpAt_Expr_any (ks_wpAt_MethodCall ?_ (mcall hln rfl)))
    obtain ⟨cd, hclsIn⟩ : ∃ cd, clsIn K C = some cd := by
      have z := T.su
      unfold ks_superIn at z
      cases e : clsIn K C with
      | none => rw [e] at z; cases z
      | some cd => exact ⟨cd, rfl⟩
    have hcf : W.Looks (model prog w) h1 (mroOf (.ref C)) cd.mro := (looks_clsIn X1 hclsIn).andThen .now
    have hal : alongIn K "__init__" ((cd.mro.dropWhile (· != .ref C)).drop 1) = some (some (.builtin ini)) := by
      have z := T.su
      unfold ks_superIn at z
      rw [hclsIn] at z
      exact z
    obtain ⟨oD, hD1, hD2⟩ : ∃ oD, h1.get? C = some oD ∧ oD.data = .cls cd := by
      have z := hclsIn
      unfold clsIn at z
      split at z
      · rename_i c d cd' sl ho'
        cases z
        exact ⟨_, X1 _ _ ho', rfl⟩
      · cases z
    have hxC : x ≠ C := by
      intro z
      rw [z] at hnx
      unfold clsIn at hclsIn
      rw [hnx] at hclsIn
      cases hclsIn
    have hgl := nsKeep (x := x) gl ngl fun b o _ e => hk1 b o e
    have hbl1 := nsKeep (x := x) hbl nbl fun b o _ e => hk1 b o e
    -- super()
    refine ks_wpAt_super_base rfl rfl rfl rfl (X1 _ _ ho) rfl rfl rfl (X1 _ _ hcode) rfl hvs hfile T.top ?_
    refine ks_loadName_global rfl rfl (loadGlobal_builtin hgl T.gs hbl1 hbs ⟨rfl, ?_⟩)
    refine wpAny_loadName_free rfl rfl rfl ⟨_, X1 _ _ hcell, rfl⟩ ?_
    refine wpAny_loadName_local rfl rfl hns (by rfl) ?_
    refine ks_wpAny_isType_cls hD1 hD2 ⟨rfl, ?_⟩
    refine ks_wpAny_call_super hD1 hD2 hx1 rfl (fun c e => ?_) (looks_mroIn X1 T.mr) (fun h2 hso hk2 => ?_)
    · cases e
    -- .__init__
    have X2 : K.In h2 := X1.keeps hk2
    have hx2 := hk2 _ _ hx1
    refine kxs_getMethod T.KF hso (looks_opaque X2 T.op) (hcf.keeps hk2) rfl X2 hal (hsub.keeps hk2) hxC rfl ?_
    have hk3 : ∀ b o, h2.get? b = some o → (h2.push (kxs_mw ini x)).get? b = some o := fun b o e => Heap.get?_push_of_some _ e
    have hmw : (h2.push (kxs_mw ini x)).get? h2.objs.size = some (kxs_mw ini x) := Heap.get?_push_size h2 rfl
    have X3 : K.In (h2.push (kxs_mw ini x)) := X2.keeps hk3
    -- (text)
    refine kxs_callWith (i := ini) (x := x) rfl (evalArgs_plain (spliced_cons (wpAny_Constant_str (k := 0) (pos := q4) (spliced_nil ⟨hmw, ?_⟩))))
    obtain ⟨nm, N', qn, bs, bm, hdct, sn, sub, ab, col, dd, k0, k1, k2, k3, k5, hC, hT⟩ := excInit_of X3 T.exi
    refine wrapRun T.FB hC (hk3 _ _ hx2) hmw (by show 1 ≤ sizeLine; rw [sizeLine_eq]; omega) fun h4 hk4 hx4 => ?_
    -- self.fld = fld
    have kOld : ∀ b o, b ≠ x → s.heap.get? b = some o → h4.get? b = some o := fun b o ne e => hk4 b o ne (hk3 _ _ (hk2 _ _ (hk1 _ _ e)))
    have X4 : K.In h4 := fun a o e => hk4 a o (fun z => by rw [z, hnx] at e; cases e) (X3 a o e)
    have hns4 : h4.Ns s.heap.objs.size _ := nsKeep (x := x) hns (Nat.ne_of_gt hxs) fun b o ne e => hk4 b o ne (hk3 _ _ (hk2 _ _ e))
    refine ks_wpAt_execs_cons (ks_wpAt_Assign_Attr (wpAt_of_wpAny ?_))
    refine' wpAny_Name ?_ ?hd1
    case hd1 => decide
    refine wpAny_loadName_local rfl rfl hns4 (by rfl) ?_
    refine' wpAny_Name ?_ ?hd2
    case hd2 => decide
    refine wpAny_loadName_local rfl rfl hns4 (by rfl) ?_
    refine fieldRun T.SF X4 hx4 T.over T.tk T.hd T.sa fun h5 tk5 dx hk5 hbig hdx hx5 hfs => ?_
    refine wpAt_of_wpAny (wpAny_execs_nil (hq h5 _ dx _ (fun b o ne e => hk5 b o ne (kOld b o ne e)) ?_ hdx hx5 hfs))
    exact Nat.le_trans (Nat.le_of_lt hns4.lt) hbig

/-- such a class called: the new object, its dict with the one field -/
theorem makeRun (T : XT prog K mg B nw ini bmB C f fld) {v : Value} {a : Args} (ha : a = ⟨[v], []⟩ ∨ a = ⟨[], [(fld, v)]⟩) (X : K.In s.heap) (lim : s.heap.NoLimit) (gl : s.heap.Ns mainGlobals mg) (bl : ∃ mb, s.heap.Ns builtinsNs mb ∧ mb "super" = some (.type "super"))
    (room : A.depth + 1 < recursionLimit)
    (hq : ∀ h' tk e dx t1, (∀ b o, s.heap.get? b = some o → h'.get? b = some o) → s.heap.objs.size ≤ e → s.heap.objs.size ≤ dx → dx ≠ e → h'.get? e = some (excObj C t1 (some dx) .none) →
      h'.Ns1 dx (fun y => if y = fld then some v else none) → R (.ok (.ret (.ref e))) { s with heap := h', toks := tk }) :
    codeAny (model prog w) A (.call (.ref C) a) R s := by
  obtain ⟨nm, N', qn, bs, bm, hdct, sn, sub, ab, col, dd, k0, k1, k2, k3, k5, hC, hT⟩ := excInit_of X T.exi
  obtain ⟨oI, hoI, hcI⟩ : ∃ oI, s.heap.get? f = some oI ∧ oI.cls = .type "function" := by
    obtain ⟨o, ho, hc⟩ := Option.map_eq_some_iff.mp (show (K.lookup f).map (·.cls) = some (.type "function") from beq_iff_eq.mp T.iF)
    exact ⟨o, X _ _ ho, hc⟩
  have li : W.Looks (model prog w) s.heap (typeLookup (.ref C) "__init__") (some (.ref f)) := looks_findIn X T.iC
  obtain ⟨mb, hbl, hbs⟩ := bl
  obtain ⟨hp, g, d, tk0, os⟩ := s
  have go : ∀ (rest : List Value) (kw : List (Str × Value)), rest.length ≤ sizeLine → (∀ self, (⟨self :: rest, kw⟩ : Args) = ⟨[self, v], []⟩ ∨ (⟨self :: rest, kw⟩ : Args) = ⟨[self], [(fld, v)]⟩) →
      (∀ {Q' : Unit → Shared → Prop} {A' : Around} {E' : Value → Shared → Prop}, Q' () ⟨hp, g, d, tk0, os⟩ → wpAny (model prog w) A' (checkBuiltinCall nw ⟨.ref C :: rest, kw⟩) Q' E' ⟨hp, g, d, tk0, os⟩) →
      codeAny (model prog w) A (.call (.ref C) ⟨rest, kw⟩) R ⟨hp, g, d, tk0, os⟩ := by
    intro rest kw few hsh chk
    have kp : ∀ b o, hp.get? b = some o → ((hp.push (excTup rest)).push (excObj C hp.objs.size none .none)).get? b = some o := fun b o e => Heap.get?_push_of_some _ (Heap.get?_push_of_some _ e)
    have here : ((hp.push (excTup rest)).push (excObj C hp.objs.size none .none)).get? (hp.objs.size + 1) = some (excObj C hp.objs.size none .none) := by heap_get
    have newK : K.lookup (hp.objs.size + 1) = none := by
      cases e : K.lookup (hp.objs.size + 1) with
      | none => rfl
      | some o =>
        have z : hp.get? (hp.objs.size + 1) = some o := X _ _ e
        exact absurd (Nat.lt_of_succ_lt (Heap.lt_size z)) (Nat.lt_irrefl _)
    have far : ∀ {L : Addr} {m : Str → Option Value}, hp.Ns L m → L ≠ hp.objs.size + 1 := fun hn z => by
      have y := hn.lt
      rw [z] at y
      exact absurd (Nat.lt_of_succ_lt y) (Nat.lt_irrefl _)
    have keepNs : ∀ {L : Addr} {m : Str → Option Value}, hp.Ns L m → ((hp.push (excTup rest)).push (excObj C hp.objs.size none .none)).Ns L m := fun {L m} hn => by
      obtain ⟨o, es, ep, e, r⟩ := hn
      exact ⟨o, es, ep, kp _ _ e, r⟩
    refine classRun T.FB hT chk hC few li (fun self => exc_bind hoI hcI self) ?_
    refine initRun (s := ⟨(hp.push (excTup rest)).push (excObj C hp.objs.size none .none), g, d, tk0, os⟩) T (X.keeps kp) (lim.keeps kp) (keepNs gl) ⟨mb, keepNs hbl, hbs⟩ here newK (far gl) (far hbl) ?_ (hsh _) fun h' tk dx t1 k' big ne hx hn => ?_
    · show A.depth + 1 < recursionLimit
      exact room
    · have old : ∀ b o, hp.get? b = some o → h'.get? b = some o := fun b o e => k' b o (Nat.ne_of_lt (Nat.lt_succ_of_lt (Heap.lt_size e))) (kp b o e)
      have z : hp.objs.size + 1 + 1 ≤ dx := by
        have q := big
        rw [Heap.size_push, Heap.size_push] at q
        exact q
      exact ⟨rfl, hq h' tk (hp.objs.size + 1) dx t1 old (Nat.le_succ _) (Nat.le_trans (Nat.le_trans (Nat.le_succ _) (Nat.le_succ _)) z) ne hx hn⟩
  rcases ha with rfl | rfl
  · exact go [v] [] (by show 1 ≤ sizeLine; rw [sizeLine_eq]; omega) (fun self => .inl rfl) fun q => HandSPX.check_new_own T.FB hT hC q
  · exact go [] [(fld, v)] (Nat.zero_le _) (fun self => .inr rfl) fun q => newChk T.FB hT hC q
end
end Fx

set_option maxRecDepth 100000
set_option maxHeartbeats 4000000
namespace Fx
open PySem PySem.Spec PyProof.Rows L2
open PySem.W (Frag excObj InstAt)
/-- at a: an exception of the class at C, its dict at d, if it has one -/
def ExA (C : Addr) (d : Option Addr) (a : Addr) : HO := .ext fun h => ∃ t1 : Addr, h.get? a = some (excObj C t1 d .none)
theorem exA_ok {P : Program} {w : World} {H : Hp} {h : Heap} {C a t1 : Addr} {d : Option Addr} (e : h.get? a = some (excObj C t1 d .none)) : ObjOk P w H h a (ExA C d a) :=
  ⟨⟨t1, e⟩, ⟨_, e⟩, fun h1 h2 ⟨t, q⟩ k => ⟨t, k _ q⟩⟩
theorem exA_at {P : Program} {w : World} {H : Hp} {h : Heap} {C a : Addr} {d : Option Addr} (ok : HOk P w H h) (e : H a = some (ExA C d a)) : ∃ t1 : Addr, h.get? a = some (excObj C t1 d .none) := by
  have x : ObjOk P w H h a (.ext fun h => ∃ t1 : Addr, h.get? a = some (excObj C t1 d .none)) := ok a _ e
  exact x.1
section
variable {X : Cx} {pins : List (Addr × Obj)} {σ : L2.St} {H : Hp} {s : Shared}
/-- two new objects are laid and tracked -/
theorem laidTwo {h' : Heap} {a b : Addr} {oa ob : HO} {t' : Nat} (I : Inv X pins σ H s) (k : ∀ c u, s.heap.get? c = some u → h'.get? c = some u) (ha : s.heap.objs.size ≤ a) (hb : s.heap.objs.size ≤ b) (ne : b ≠ a)
    (na : ObjOk X.prog X.w (upd (upd H b ob) a oa) h' a oa) (nb : ObjOk X.prog X.w (upd (upd H b ob) a oa) h' b ob) : Inv X pins σ (upd (upd H b ob) a oa) { s with heap := h', toks := t' } := by
  have fa : H a = none := I.hok.fresh ha
  have fb : H b = none := I.hok.fresh hb
  have old : ∀ {c : Addr} {u : Obj}, s.heap.get? c = some u → c ≠ a ∧ c ≠ b := fun {c u} q => ⟨Nat.ne_of_lt (Nat.lt_of_lt_of_le (Heap.lt_size q) ha), Nat.ne_of_lt (Nat.lt_of_lt_of_le (Heap.lt_size q) hb)⟩
  have up : ∀ {c : Addr} {o : HO}, H c = some o → upd (upd H b ob) a oa c = some o := fun {c o} q => by
    rw [upd_ne (ne_of_none q fa), upd_ne (ne_of_none q fb)]
    exact q
  refine I.un (t' := t') ⟨fun c u q _ _ _ => k c u q, fun c u q _ _ _ => ⟨u.slots, k c u q⟩, fun c u q n _ => ?_, fun c u q _ => ⟨u, k c u q⟩, fun c xs q => up q, fun c o u q => up q, fun c ps q => ⟨#[], by rw [up q]; simp⟩⟩ fun c u q => ?_
  · rw [upd_ne (old q).1, upd_ne (old q).2]
    exact n
  · by_cases ca : c = a
    · subst ca
      rw [upd_same] at q
      cases q
      exact na
    · rw [upd_ne ca] at q
      by_cases cb : c = b
      · subst cb
        rw [upd_same] at q
        cases q
        exact nb
      · rw [upd_ne cb] at q
        exact (I.hok c u q).stay (fun c' v _ r => k c' v r) (fun c' r => up r) fun c' xs r => up r
end
/-- what isinstance and a field's reading ask of the class -/
structure XI (K : Frag) (C : Addr) : Prop where
  ga : PySem.W.findIn K (.ref C) "__getattribute__" = some (some (.builtin "BaseException.__getattribute__"))
  gg : PySem.W.findIn K (.ref C) "__getattr__" = some none
  sb : PySem.W.subIn K (.ref C) (.type "BaseException") = some true
  hd : PySem.W.hasDictIn K C = true
  cl : PySem.W.findIn K (.ref C) "__class__" = some (some (.builtin "object.__class__"))
  sp : PySem.W.specialIn K (.builtin "object.__class__") "__get__" = some (some (.builtin "getset_descriptor.__get__"))
  tk : PySem.W.takesIn K (.builtin "object.__class__") = some true
  mr : PySem.W.mroIn K C (.type "object") = some true
theorem XI.isCls {K : Frag} {C : Addr} (T : XI K C) : (PySem.W.clsIn K C).isSome = true := by
  obtain ⟨cd, e, _⟩ := PySem.W.any_some T.hd
  rw [e]
  rfl
section
variable {X : Cx} {B nw ini : String} {bmB : List Value} {C f : Addr} {fld x : Str} {e : Expr} {ta : TE} {p pos : Pos} {k : Nat}
/-- the reading of C(e): the new object at a, its dict at dx -/
def tMk (C : Addr) (fld : Str) (ta : TE) : TE := fun σ H Q => ta σ H fun v H1 => ∀ a dx, H1 a = none → H1 dx = none → dx ≠ a → Q (.ref a) (upd (upd H1 dx (.xd [(fld, v)])) a (ExA C (some dx) a))
theorem lookup_one {f g : Str} {v : V} {u : Value} (r : RelV v u) : RelO (List.lookup g [(f, v)]) (if g = f then some u else none) := by
  by_cases h : g = f
  · subst h
    rw [if_pos rfl]
    have q : List.lookup g [(g, v)] = some v := by simp [List.lookup]
    rw [q]
    exact r
  · rw [if_neg h]
    have qw : (g == f) = false := by simpa using h
    have q2 : List.lookup g [(f, v)] = none := by simp [List.lookup, qw]
    rw [q2]
    trivial
theorem made {pins : List (Addr × Obj)} {σ : L2.St} {H : Hp} {s : Shared} {Q : VK} {v : V} {u : Value} (T : XT X.prog X.K X.mg B nw ini bmB C f fld) (hr : Room k X.A) (I : Inv X pins σ H s) (r : RelV v u)
    (h : ∀ a dx, H a = none → H dx = none → dx ≠ a → Q (.ref a) (upd (upd H dx (.xd [(fld, v)])) a (ExA C (some dx) a))) {pa : List Value} {kw : List (Str × Value)} (hs : (⟨pa, kw⟩ : Args) = ⟨[u], []⟩ ∨ (⟨pa, kw⟩ : Args) = ⟨[], [(fld, u)]⟩) :
    wpAny (model X.prog X.w) X.A (call (.ref C) pa kw) (EP X pins σ Q) X.xe s := by
  obtain ⟨mb, hb, hbb⟩ := I.mod.blt
  obtain ⟨hp, g, d, tk, os⟩ := s
  refine wpAny_call (makeRun T hs I.kIn I.nolimit (I.mod.glob.keeps I.bk) ⟨mb, hb.keeps I.bk, (hbb _ (by decide)).trans (by decide +kernel)⟩ (by have := hr.dp; omega) fun h' tk' e dx t1 old ebig dbig ne he hn => ?_)
  have fa : H e = none := I.hok.fresh ebig
  have fd : H dx = none := I.hok.fresh dbig
  refine ⟨.ref e, _, laidTwo (t' := tk') (ob := .xd [(fld, v)]) (oa := ExA C (some dx) e) I old ebig dbig ne (exA_ok he) ⟨_, hn, fun g => lookup_one r⟩, rfl, h e dx fa fd ne⟩
theorem pe_mk (T : XT X.prog X.K X.mg B nw ini bmB C f fld) (hr : Room k X.A) (gC : X.mg x = some (.ref C)) (kC : PySem.W.keepIn X.K (.ref C) = true) (ha : PE X e ta) (hg : Gl X x := by rfl)
    (hs : starEach [e] X.env = (false, eval e X.env) :: starEach [] X.env := by rfl) (hdb : (x == ("__debug__" : Str)) = false := by decide) : PE X (.Call (.Name x p) [e] [] pos) (tMk C fld ta) := by
  refine ⟨fun pins s σ H Q I h => ?_⟩
  refine wpAny_Call_Name_kw (ld_glob I hg gC ?_ hdb)
  refine PySem.W.callWith_K (h₀ := X.base) I.ok.mod.kin kC ?_ hs (by rfl)
  rw [hs]
  show wpAny _ _ (spliced ((false, eval e X.env) :: backTo pos (starEach [] X.env))) _ _ s
  refine Calls.spliced_cons (thn (ha.run pins s σ H _ I h) fun u s1 ⟨v, H1, I1, r1, q1⟩ => ?_)
  refine Calls.spliced_nil ⟨I1.kIn, ?_⟩
  exact made T hr I1 r1 q1 (.inl rfl)
theorem pe_mkK {tk : TA} {kws : List Keyword} (T : XT X.prog X.K X.mg B nw ini bmB C f fld) (hr : Room k X.A) (gC : X.mg x = some (.ref C)) (kC : PySem.W.keepIn X.K (.ref C) = true) (hkw : PK X kws tk) (hg : Gl X x := by rfl)
    (hks : (backToKw pos (keywordEach kws X.env)).filterMap (·.1) = [fld] := by rfl) (hall : (backToKw pos (keywordEach kws X.env)).all (·.1.isSome) = true := by rfl) (hdb : (x == ("__debug__" : Str)) = false := by decide)
    (hpl : ((backTo pos (starEach [] X.env)).any (·.1) || (backToKw pos (keywordEach kws X.env)).any (·.1.isNone)) = false := by rfl) :
    PE X (.Call (.Name x p) [] kws pos) (fun σ H Q => tk σ H fun zs H1 => ∃ v, zs = [v] ∧ tMk C fld (fun _ H2 Q2 => Q2 v H2) σ H1 Q) := by
  refine ⟨fun pins s σ H Q I h => ?_⟩
  refine wpAny_Call_Name_kw (ld_glob I hg gC ?_ hdb)
  refine PySem.W.callWith_KW0 (h₀ := X.base) I.ok.mod.kin kC hall (thn (hkw.run pos pins s σ H _ I h) fun ws s1 ⟨zs, H1, I1, rz, v, ez, q⟩ => ⟨I1.kIn, ?_⟩) hpl
  subst ez
  rw [hks]
  cases rz with
  | cons r1 r2 =>
    cases r2
    exact made T hr I1 r1 q (.inr rfl)
end
/-! ### a field, and isinstance, of such an object that is held as a value -/
/-- the reading of e.n, e one of these exceptions -/
def tFx (K : Frag) (n : Str) (te : TE) : TE := fun σ H Q => te σ H fun x H1 => ∃ (a C d : Addr) (fs : List (Str × V)) (v : V), x = .ref a ∧ H1 a = some (ExA C (some d) a) ∧ H1 d = some (.xd fs) ∧ fs.lookup n = some v ∧
  XI K C ∧ PySem.W.findIn K (.ref C) n = some none ∧ Q v H1
theorem instOf {P : Program} {w : World} {H : Hp} {h : Heap} {a C d : Addr} {fs : List (Str × V)} (ok : HOk P w H h) (ha : H a = some (ExA C (some d) a)) (hd : H d = some (.xd fs)) :
    ∃ (t1 : Addr) (mA : Str → Option Value) (od : Obj), InstAt h a (excObj C t1 (some d) .none) C (some od) ∧ (∀ f, RelO (fs.lookup f) (mA f)) ∧ ∀ y, PySem.W.lookIn y od = some (mA y) := by
  obtain ⟨t1, e⟩ := exA_at ok ha
  have hx : ObjOk P w H h d (.xd fs) := ok d _ hd
  obtain ⟨mA, hns, hr⟩ := hx
  obtain ⟨od, ho, hl⟩ := lookIn_ns hns
  exact ⟨t1, mA, od, ⟨e, rfl, rfl, ho⟩, hr, hl⟩
theorem pe_fx {X : Cx} {e : Expr} {te : TE} {pos : Pos} {n : Str} (he : PE X e te) (hb : attributeBase e n X.env (eval e X.env) = eval e X.env := by rfl) : PE X (.Attribute e n pos) (tFx X.K n te) := by
  refine ⟨fun pins s σ H Q I h => ?_⟩
  refine attr_of hb (thn (he.run pins s σ H _ I h) fun u s1 hh => ?_)
  obtain ⟨x, H1, I1, rx, a, C, d, fs, v, ex, ea, ed, l, T, hno, q⟩ := hh
  subst ex
  obtain rfl : u = Value.ref a := rx
  obtain ⟨t1, mA, od, J, hr, hl⟩ := instOf I1.hok ea ed
  obtain ⟨u, hu, ru⟩ := RelO.some_of (v := v) (o := mA n) (by rw [← l]; exact hr n)
  exact HandSPX.exc_get I1.kIn J T.ga T.gg T.sb (PySem.W.findObj_own T.hd hno rfl (by rw [hl, hu])) (handed_of ru) ⟨v, H1, I1.tok _, ru, q⟩
/-- isinstance(e, c) of such an object -/
def rIsx (K : Frag) : List V → Hp → VK → Prop := fun xs H Q => ∃ (a C : Addr) (d : Option Addr) (c : V) (u : Value) (b : Bool), xs = [.ref a, c] ∧ H a = some (ExA C d a) ∧ (∀ dx, d = some dx → ∃ fs, H dx = some (.xd fs)) ∧ XI K C ∧ ClsV c u ∧
  PySem.W.kitOne K (.ref C) u = some b ∧ Q (.bl b) H
def rIsxT (K : Frag) : List V → Hp → VK → Prop := fun xs H Q => ∃ (a C : Addr) (d : Option Addr) (tp : Addr) (cs : List V) (us : List Value) (b : Bool), xs = [.ref a, .ref tp] ∧ H a = some (ExA C d a) ∧ (∀ dx, d = some dx → ∃ fs, H dx = some (.xd fs)) ∧ XI K C ∧
  H tp = some (.tup cs) ∧ Paired ClsV cs us ∧ PySem.W.kitAny K (.ref C) us = some b ∧ Q (.bl b) H
theorem instAny {P : Program} {w : World} {H : Hp} {h : Heap} {a C : Addr} {d : Option Addr} (ok : HOk P w H h) (ha : H a = some (ExA C d a)) (hd : ∀ dx, d = some dx → ∃ fs, H dx = some (.xd fs)) :
    ∃ (ox : Obj) (od : Option Obj), InstAt h a ox C od := by
  cases d with
  | none =>
    obtain ⟨t1, e⟩ := exA_at ok ha
    exact ⟨_, none, e, rfl, rfl, trivial⟩
  | some dx =>
    obtain ⟨fs, e⟩ := hd dx rfl
    obtain ⟨t1, mA, od, J, _, _⟩ := instOf ok ha e
    exact ⟨_, _, J⟩
section
variable {X : Cx}
theorem call_isx : CallR X (.builtin "isinstance") (rIsx X.K) := by
  intro pins s σ H xs us Q I r h
  obtain ⟨a, C, d, c, u, b, rfl, ha, hd, T, k, e, q⟩ := h
  obtain ⟨u1, u2, rfl, r1, r2⟩ := vals2 r
  cases (show u1 = Value.ref a from r1)
  have e2 := k.eq r2
  subst e2
  obtain ⟨ox, od, J⟩ := instAny I.hok ha hd
  exact PySem.W.kia_one (PySem.W.kitx_exc T.isCls T.ga T.gg T.sb T.cl T.sp T.tk T.mr) I.kIn J e (fun z => nomatch z) fun tk => ⟨.bl b, H, I.tok tk, rfl, q⟩
theorem call_isxT : CallR X (.builtin "isinstance") (rIsxT X.K) := by
  intro pins s σ H xs us Q I r h
  obtain ⟨a, C, d, tp, cs, ws, b, rfl, ha, hd, T, hT, k, e, q⟩ := h
  obtain ⟨u1, u2, rfl, r1, r2⟩ := vals2 r
  cases (show u1 = Value.ref a from r1)
  cases (show u2 = Value.ref tp from r2)
  obtain ⟨ox, od, J⟩ := instAny I.hok ha hd
  obtain ⟨_, its, rv, o, h1, h2, n, h3⟩ := (show ObjOk X.prog X.w H s.heap tp (.tup cs) from I.hok tp _ hT)
  have e3 := ClsV.all k rv
  subst e3
  obtain ⟨oc, odd, dt, sl⟩ := o
  simp only at h2 h3
  subst h2 h3
  exact PySem.W.kia_tup (PySem.W.kitx_exc T.isCls T.ga T.gg T.sb T.cl T.sp T.tk T.mr) I.kIn J h1 e (fun z => nomatch z) fun tk => ⟨.bl b, H, I.tok tk, rfl, q⟩
end
/-! ### C(), a class of these without an __init__ of its own -/
section
variable {X : Cx} {B nw ini : String} {bmB : List Value} {C : Addr} {x : Str} {p pos : Pos}
theorem pe_mk0 (FB : ExcBaseFacts B nw ini bmB) (hi : PySem.W.findIn X.K (.ref C) "__init__" = some (some (.builtin ini))) (q : PySem.W.excInitIn X.K C bmB nw = true) (gC : X.mg x = some (.ref C)) (kC : PySem.W.keepIn X.K (.ref C) = true) (hg : Gl X x := by rfl) (hdb : (x == ("__debug__" : Str)) = false := by decide) :
    PE X (.Call (.Name x p) [] [] pos) (fun _ H Q => ∀ a, H a = none → Q (.ref a) (upd H a (ExA C none a))) := by
  refine ⟨fun pins s σ H Q I h => ?_⟩
  refine wpAny_Call_Name_kw (ld_glob I hg gC ?_ hdb)
  refine PySem.W.callWith_K0 I.kIn kC ?_
  obtain ⟨nm, N', qn, bs, bm, hdct, sn, sub, ab, col, dd, k0, k1, k2, k3, k5, hC, hT⟩ := PySem.W.excInit_of I.kIn q
  have li : PySem.W.Looks (model X.prog X.w) s.heap (typeLookup (.ref C) "__init__") (some (.builtin ini)) := PySem.W.looks_findIn I.kIn hi
  obtain ⟨hp, g, d, tk, os⟩ := s
  refine PySem.W.call_B FB hT hC li (Nat.zero_le _) fun h' k he ht => ?_
  have n0 : hp.get? (hp.objs.size + 1) = none := Heap.get?_none_of_le (Nat.le_succ _)
  have fa : H (hp.objs.size + 1) = none := I.hok.fresh (Nat.le_succ _)
  exact ⟨.ref (hp.objs.size + 1), _, I.laid (t' := tk) k (Nat.le_succ _) (exA_ok he), rfl, h _ fa⟩
end
end Fx

set_option maxRecDepth 100000
set_option maxHeartbeats 4000000
namespace Fx
open PySem PySem.Spec PyProof.Rows L2
open PySem.W (Frag)
/-! ### repr of data; {} among them -/
mutual
inductive Dz (K : Frag) (H : Hp) : V → PyData → Prop
  | non : Dz K H .non .none
  | bl (b : Bool) : Dz K H (.bl b) (.bool b)
  | int (i : Int) : Dz K H (.int i) (.int i)
  | str (x : Str) : Dz K H (.str x) (.str x)
  | lst {a : Addr} {xs : List V} {ds : List PyData} : SqL K H a xs → DzAll K H xs ds → Dz K H (.ref a) (.list ds)
  | tup {a : Addr} {xs : List V} {ds : List PyData} : SqT K H a xs → DzAll K H xs ds → Dz K H (.ref a) (.tuple ds)
  | dct {a : Addr} : H a = some (.dK []) → Dz K H (.ref a) (.dict [])
inductive DzAll (K : Frag) (H : Hp) : List V → List PyData → Prop
  | nil : DzAll K H [] []
  | cons {v : V} {vs : List V} {d : PyData} {ds : List PyData} : Dz K H v d → DzAll K H vs ds → DzAll K H (v :: vs) (d :: ds)
end
mutual
def noLst : PyData → Bool
  | .list _ => false
  | .tuple xs => noLsts xs
  | _ => true
def noLsts : List PyData → Bool
  | [] => true
  | x :: xs => noLst x && noLsts xs
end
section
variable {X : Cx} {pins : List (Addr × Obj)} {σ : L2.St} {H : Hp} {s : Shared}
mutual
theorem Dz.reads (I : Inv X pins σ H s) : ∀ (d : PyData) (v : V) (u : Value), Dz X.K H v d → RelV v u → ∃ as, Reads s.heap u d as ∧ (noLst d = true → sysModules ∉ as)
  | .none, _, _, h, r => by
    cases h
    cases r
    exact ⟨_, Reads.none, fun _ h => nomatch h⟩
  | .bool b, _, _, h, r => by
    cases h
    cases r
    exact ⟨_, Reads.bool b, fun _ h => nomatch h⟩
  | .int i, _, _, h, r => by
    cases h
    obtain ⟨t, rfl⟩ := r
    exact ⟨_, Reads.int i t, fun _ h => nomatch h⟩
  | .str x, _, _, h, r => by
    cases h
    obtain ⟨t, rfl⟩ := r
    exact ⟨_, Reads.str x t, fun _ h => nomatch h⟩
  | .list ds, _, _, h, r => by
    cases h with
    | lst hs ha =>
      cases r
      obtain ⟨its, rv, ⟨o, n, ho, hc, _, hd⟩, _⟩ := I.list hs
      obtain ⟨as, hr, hm⟩ := Dz.readsAll I ds _ its ha rv
      exact ⟨_, Reads.list ho hc hd hr, fun z => by simp [noLst] at z⟩
  | .tuple ds, _, _, h, r => by
    cases h with
    | tup hs ha =>
      cases r
      obtain ⟨its, rv, ⟨o, ho, hc, n, hd⟩, _⟩ := I.tuple hs
      obtain ⟨as, hr, hm⟩ := Dz.readsAll I ds _ its ha rv
      exact ⟨_, Reads.tuple ho hc hd hr, fun z => hm (by simpa [noLst] using z)⟩
  | .dict [], _, _, h, r => by
    cases h with
    | @dct a0 e =>
      cases r
      have ok : ObjOk X.prog X.w H s.heap a0 (.dK []) := I.hok a0 _ e
      obtain ⟨_, hno, vs, rv, o, es, ep, h1, h2, h3, h4, h5, _⟩ := ok
      cases rv
      have e0 : es.toList = [] := by
        cases q : es.toList with
        | nil => rfl
        | cons y ys =>
          rw [q] at h5
          cases h5
      refine ⟨_, Reads.dict h1 h2.1 h3 (as := []) (bs := []) (by rw [e0]; exact ReadsAll.nil) (by rw [e0]; exact ReadsAll.nil), fun _ hm => ?_⟩
      simp only [List.append_nil, List.mem_singleton] at hm
      rw [← hm] at hno
      exact absurd hno (by decide)
  | .dict (_ :: _), _, _, h, _ => by cases h
theorem Dz.readsAll (I : Inv X pins σ H s) : ∀ (ds : List PyData) (vs : List V) (us : List Value), DzAll X.K H vs ds → Vals vs us → ∃ as, ReadsAll s.heap us ds as ∧ (noLsts ds = true → sysModules ∉ as)
  | [], _, _, h, r => by
    cases h
    cases r
    exact ⟨_, ReadsAll.nil, fun _ h => nomatch h⟩
  | d :: ds, _, _, h, r => by
    cases h with
    | cons h1 h2 =>
      cases r with
      | cons r1 r2 =>
        obtain ⟨as, q1, m1⟩ := Dz.reads I d _ _ h1 r1
        obtain ⟨bs, q2, m2⟩ := Dz.readsAll I ds _ _ h2 r2
        refine ⟨_, ReadsAll.cons q1 q2, fun z h => ?_⟩
        obtain ⟨z1, z2⟩ := Bool.and_eq_true_iff.mp (show (noLst d && noLsts ds) = true by simpa [noLsts] using z)
        rcases List.mem_append.mp h with h | h
        · exact m1 z1 h
        · exact m2 z2 h
end
end
/-- repr(x): the text of x's data -/
def rRepr (K : Frag) : List V → Hp → VK → Prop := fun xs H Q => ∃ (x : V) (d : PyData), xs = [x] ∧ Dz K H x d ∧ d.showable = true ∧ (d.hasDict = false ∨ noLst d = true) ∧ d.depth ≤ 60 ∧ d.shown.length ≤ sizeLine ∧ Q (.str d.shown) H
theorem call_repr {X : Cx} {k : Nat} (hg : X.A.guards = some []) (hr : Room k X.A) : CallR X (.builtin "repr") (rRepr X.K) := by
  intro pins s σ H xs us Q I r h
  obtain ⟨x, d, rfl, hd, hs, hq, hdp, hz, q⟩ := h
  obtain ⟨u, rfl, rx⟩ := vals1 r
  have hu := hr.units
  have big : ∀ {a : Addr}, u = .ref a → wpAny (model X.prog X.w) X.A (call (.builtin "repr") [u]) (EP X pins σ Q) X.xe s := fun {a} eu => by
    subst eu
    obtain ⟨as, rd, no⟩ := Dz.reads I d x _ hd rx
    refine repr_of_reads' rd hs (fun z => ?_) hg (by omega) (fun _ _ e => e) (fun h' tk1 tk kp => ?_) hz
    · rcases hq with hq | hq
      · rw [hq] at z
        cases z
      · exact no hq
    · exact ⟨.str d.shown, H, I.kept (t' := tk) kp, ⟨_, rfl⟩, q⟩
  cases hd with
  | non =>
    obtain rfl : u = Value.none := rx
    exact P.repr_of_none ⟨.str _, H, I.tok _, ⟨_, rfl⟩, q⟩
  | bl b =>
    obtain rfl : u = Value.bool b := rx
    exact P.repr_of_bool ⟨.str _, H, I.tok _, ⟨_, rfl⟩, q⟩
  | int i =>
    obtain ⟨t, rfl⟩ := rx
    exact P.repr_of_int (by simpa [PyData.showable] using hs) ⟨.str _, H, I.tok _, ⟨_, rfl⟩, q⟩
  | str x =>
    obtain ⟨t, rfl⟩ := rx
    exact P.repr_of_str ⟨.str _, H, I.tok _, ⟨_, rfl⟩, q⟩ (by simpa [PyData.shown] using hz)
  | lst _ _ => exact big rx
  | tup _ _ => exact big rx
  | dct _ => exact big rx
/-! ### defs that ask for repr: no repr is under way around them -/
structure FnG (P : Program) (w : World) (K : Frag) (mg : Str → Option Value) (base : Heap) (CX : CXT) (k : Nat) (f : Addr) (fd : FuncData) (ps : List Str) (sp : Sp) : Prop where
  len : ∀ vs H Q E, sp vs H Q E → vs.length = ps.length
  run : ∀ (A : Around) (outer : List Env) (s : Shared) (H : Hp) (args : Args) (us : List Value) (vs : List V) (Q : VK) (E : XK), A.guards = some [] → Room k A → Env0 P w K mg base A outer s H → BindsTo s fd args (ps.zip us) → Vals vs us → sp vs H Q E →
    codeAny (model P w) A (.call (.ref f) args) (CR CX outer P w H s Q E) s
theorem fnG_of {CX : CXT} {P : Program} {w : World} {K : Frag} {mg : Str → Option Value} {base : Heap} {k : Nat} {f : Addr} {name qual : Str} {params : Arguments} {body : List Stmt} {scope : Scope} {dV kV doc pm cdv ct oc : Value} {an od : Option Addr}
    {osl : Array (Option Value)} {N ps : List Str} {sp : Sp} (lk : K.lookup f = some ⟨oc, od, .func (PySem.W.fnOf name qual params body scope dV kV doc pm an cdv ct), osl⟩) (hcd : PySem.W.codeIn K cdv qual = true) (S : FnScope N ps scope)
    (len : ∀ vs H Q E, sp vs H Q E → vs.length = ps.length)
    (hbody : ∀ (A : Around) (outer : List Env) (s : Shared) (H : Hp) (vs : List V) (Q : VK) (E : XK), (A.deeper (envOfC qual scope s.heap.objs.size f cdv)).guards = some [] → Room k (A.deeper (envOfC qual scope s.heap.objs.size f cdv)) → sp vs H Q E →
      ∃ t, PSs (cxOf CX P w K mg base N qual scope f cdv A outer s H E) body t ∧ t { nx := fun _ H' => Q .non H', rt := Q } (start N vs) H) :
    FnG P w K mg base CX (k + 1) f (PySem.W.fnOf name qual params body scope dV kV doc pm an cdv ct) ps sp := by
  refine ⟨len, fun A outer s H args us vs Q E hgd hr e0 hb r hsp => ?_⟩
  have hl := len _ _ _ _ hsp
  have KX : K.In s.heap := e0.mod.kin.keeps fun b o e => (e0.bs b o e).1
  have lim : s.heap.NoLimit := e0.mod.nolimit.keeps fun b o e => (e0.bs b o e).1
  have kinds : ∀ y ∈ ps.zip us, scope.names.lookup y.1 = some .local ∨ (scope.names.lookup y.1 = some .cell ∧ ((cellsFrom (s.heap.objs.size + 1) scope.names []).lookup y.1).isSome = true) := fun ⟨n, v⟩ hy => by
    rcases S.par n (List.of_mem_zip hy).1 with q | q
    · exact .inl q
    · exact .inr ⟨q, PySem.W.cellsFrom_some _ _ _ (.inl q)⟩
  refine codeAny_call_function hr.depth (KX _ _ lk) rfl S.co S.gen rfl (PySem.W.codeRec_of KX hcd) (hb _ _ _ _ ?_)
  refine wpAny_newFunctionEnv_cells S.kind kinds fun env he s1 x => ?_
  subst he
  refine ⟨lim.keeps x.toInCall.keep, codeAny_func ?_⟩
  obtain ⟨t, ht, hq⟩ := hbody A outer s H vs Q E (by first | exact hgd | simpa [Around.deeper] using hgd) (hr.deeper _) hsp
  have I : Inv (cxOf CX P w K mg base N qual scope f cdv A outer s H E) [] (start N vs) H s1 := inv_start S hr.hd e0 hl r x
  refine wpAny_mono (ht.run [] s1 (start N vs) H _ I hq) (fun fl s' hs => ?_) fun e s' hs => hs
  cases fl with
  | ret u =>
    obtain ⟨v, σ', H', J, rv, q⟩ := hs
    exact ⟨v, H', J.os, J.bare, J.base, J.hok, rv, q⟩
  | next =>
    obtain ⟨σ', H', J, q⟩ := hs
    exact ⟨V.non, H', J.os, J.bare, J.base, J.hok, rfl, q⟩
  | brk =>
    obtain ⟨_, _, _, q⟩ := hs
    exact False.elim q
  | cont =>
    obtain ⟨_, _, _, q⟩ := hs
    exact False.elim q
end Fx

set_option maxRecDepth 100000
set_option maxHeartbeats 4000000
namespace Fx
open PySem PySem.Spec PyProof.Rows L2
open PySem.W (Frag)
theorem intVals : ∀ {vs : List Value} {ns : List Int}, IntsAre vs ns → Vals (ns.map V.int) vs
  | _, _, .nil => .nil
  | _, _, .cons n t h => .cons ⟨t, rfl⟩ (intVals h)
/-- the law's call at the heap behind the top, for a promise of the second kind -/
theorem lawCallG {P : Program} {w : World} {K : Frag} {mg mb : Str → Option Value} {k : Nat} {fa a : Addr} {fd : FuncData} {x : Str} {sp : Sp} {s1 : Shared} {vs : List Value} {ns : List Int}
    (KX : K.In s1.heap) (gl : s1.heap.Ns mainGlobals mg) (bl : s1.heap.Ns builtinsNs mb) (blb : ∀ x : Str, x ≠ "__name__" → mb x = bootBuiltins x) (lim : s1.heap.NoLimit) (hg : s1.gens = #[])
    (ha : s1.heap.get? a = some { cls := .type "list", data := .seq vs.toArray }) (hi : IntsAre vs ns) (hl : ns.length ≤ sizeLine) (hr : Room k callerA)
    (F : ∀ base : Heap, K.In base → base.Ns mainGlobals mg → FnG P w K mg base CX0 k fa fd [x] sp) (hbind : ∀ (s : Shared) (u : Value), BindsTo s fd ⟨[u], []⟩ [(x, u)])
    (hsp : ∀ H : Hp, Only H → SqL K H a (ns.map V.int) → sp [.ref a] H (fun v _ => v = .bl true) fun _ _ _ => False) :
    codeAny (model P w) callerA (.call (.ref fa) ⟨[.ref a], []⟩) (fun r s' => r = .ok (.ret (.bool true)) ∧ OldK s1.heap s'.heap ∧ s'.os = s1.os ∧ AllBare s'.gens) s1 := by
  have rv := intVals hi
  have go : ∀ H : Hp, Only H → SqL K H a (ns.map V.int) → HOk P w H s1.heap → (∀ b, H b ≠ none → b = a) → (H a ≠ none → K.lookup a = none) →
      codeAny (model P w) callerA (.call (.ref fa) ⟨[.ref a], []⟩) (fun r s' => r = .ok (.ret (.bool true)) ∧ OldK s1.heap s'.heap ∧ s'.os = s1.os ∧ AllBare s'.gens) s1 := by
    intro H only seq ok own nok
    have noA : ∀ {b : Addr} {o : Obj} {es : Array DictEntry} {ep : Nat}, s1.heap.get? b = some o → o.data = .dict es ep → H b = none := fun {b o es ep} e d => by
      cases q : H b with
      | none => rfl
      | some u =>
        obtain rfl : b = a := own b (by rw [q]; simp)
        rw [ha] at e
        cases e
        exact nomatch d
    have nsK : ∀ {b : Addr} {m : Str → Option Value}, s1.heap.Ns b m → (hidT s1.heap H).Ns b m := fun {b m} ⟨o, es, ep, e, d, r⟩ => ⟨o, es, ep, hidT_get e (noA e d), d, r⟩
    have KB : K.In (hidT s1.heap H) := fun b o e => hidT_get (KX b o e) (by
      cases q : H b with
      | none => rfl
      | some u =>
        obtain rfl : b = a := own b (by rw [q]; simp)
        rw [nok (by rw [q]; simp)] at e
        cases e)
    have md : Mod K mg (hidT s1.heap H) := ⟨KB, nsK gl, ⟨mb, nsK bl, blb⟩, let ⟨mc, h1, h2⟩ := lim; ⟨mc, nsK h1, h2⟩⟩
    have e0 : Env0 P w K mg (hidT s1.heap H) callerA [] s1 H := ⟨rfl, md, fun b o e => of_hidT e, Nat.le_of_eq (hidT_size _ _), trivial, fun b hb => absurd (show b ∈ ([] : List Addr) from hb) (by simp), ok, .of_eq hg⟩
    refine codeAny_mono ((F _ KB (nsK gl)).run callerA [] s1 H ⟨[.ref a], []⟩ [.ref a] [.ref a] _ _ rfl hr e0 (hbind s1 (.ref a)) (.cons rfl .nil) (hsp H only seq)) fun r s' h => ?_
    cases r with
    | error e => exact False.elim h
    | ok fl =>
      cases fl with
      | next => exact False.elim h
      | brk => exact False.elim h
      | cont => exact False.elim h
      | ret u =>
        obtain ⟨v, H', os, bare, un, ok', r', q⟩ := h
        obtain rfl : v = .bl true := q
        obtain rfl : u = Value.bool true := r'
        refine ⟨rfl, OldK.of_keep fun b o e => ?_, os, bare⟩
        cases q : H b with
        | none => exact un.keep b o e q (fun z => absurd (show b ∈ ([] : List Addr) from z) (by simp)) (by simp)
        | some u =>
          rcases only b with z | ⟨ob, xs, z⟩
          · rw [q] at z
            cases z
          · obtain ⟨e1, _⟩ := ok b _ z
            obtain ⟨e2, _⟩ := ok' b _ (un.frzs b ob _ z)
            rw [e] at e1
            cases e1
            exact e2
  cases hk : K.lookup a with
  | some o =>
    have e := KX a o hk
    rw [ha] at e
    cases e
    refine go (fun _ => none) (fun _ => .inl rfl) (.inr ⟨_, vs.toArray, _, hk, rfl, rfl, rfl, by rw [List.size_toArray, hi.length]; exact hl, by simpa using rv⟩) (fun b u z => by cases z) (fun b z => absurd rfl z) fun z => absurd rfl z
  | none =>
    refine go (fun b => if b = a then some (.frz { cls := .type "list", data := .seq vs.toArray } (.lst (ns.map V.int))) else none) (fun b => ?_) (.inl (.inr ⟨{ cls := .type "list", data := .seq vs.toArray }, if_pos rfl⟩)) (fun b u z => ?_) (fun b z => ?_) fun _ => hk
    · by_cases hb : b = a
      · exact .inr ⟨_, _, if_pos hb⟩
      · exact .inl (if_neg hb)
    · by_cases hb : b = a
      · have y := (if_pos hb).symm.trans z
        cases y
        subst hb
        exact ⟨ha, by rw [List.length_map]; exact hl, vs, _, rv, ha⟩
      · have y := (if_neg hb).symm.trans z
        cases y
    · by_cases hb : b = a
      · exact hb
      · exact absurd (if_neg hb) z
/-- the goal that k_head leaves, from the law's promise -/
theorem walkG {l : PySem.W.OpenLaw} {n k : Nat} {q : Program} {loose : List Str} {XP : (Str → Option Value) → Heap → Prop} {YP : World → Heap → Prop} {d : DefRec} {K : Params → Frag} {sp : World → Sp} {x : Str}
    (hn : l.most = some n) (hn2 : n ≤ sizeLine) (hdf : d.params.defaults = []) (hr : Room k callerA) (hY : ∀ (w : World) (h : Heap), YP w h → (K w.params).In h)
    (F : ∀ (w : World) (mg : Str → Option Value) (fa : Addr) (h : Heap), (K w.params).In h → h.Ns mainGlobals mg → mg d.name = some (.ref fa) →
      ∃ fd : FuncData, (∀ (s : Shared) (u : Value), BindsTo s fd ⟨[u], []⟩ [(x, u)]) ∧ ∀ base : Heap, (K w.params).In base → base.Ns mainGlobals mg → FnG l.prog w (K w.params) mg base CX0 k fa fd [x] (sp w))
    (hsp : ∀ (w : World) (H : Hp) (a : Addr) (ns : List Int), ns.length ≤ n → Only H → SqL (K w.params) H a (ns.map V.int) → sp w [.ref a] H (fun v _ => v = .bl true) fun _ _ _ => False) :
    PySem.W.WalkO q loose XP YP l.row.toRowW d [] (fun f vs => PySem.call f vs) := by
  refine Att.attach_call hn hdf fun w s0 s1 mg mb fa o pm cd doc a vs ns G Y ho hd hcd hmg hobj hints hlen hg => ?_
  have KX := hY w _ Y
  obtain ⟨fd, hb, hF⟩ := F w mg fa _ KX G.T.g hmg
  exact lawCallG KX G.T.g G.T.b G.T.builtins G.T.nolimit hg hobj hints (Nat.le_trans hlen hn2) hr hF hb fun H hO hS => hsp w H a ns hlen hO hS
end Fx

set_option maxRecDepth 100000
set_option maxHeartbeats 4000000
namespace Fx
open PySem PySem.Spec PyProof.Rows L2
open PySem.W (Frag)
def top (i : Nat) : Stmt := PySem.Challenge.pw_loopcuts_k70_errors.main.body.getD i (.Pass ⟨0, 0, 0, 0⟩)
abbrev sBegun : Stmt := top 12
abbrev sNext : Stmt := top 13
def kCells : Key := .inr "cells"
def kLeft : Key := .inr "left"
def kAt : Key := .inr "at"
def mKvs (c l : Addr) (z : Int) : List (Key × V) := [(kCells, .ref c), (kLeft, .ref l), (kAt, .int z)]
theorem kcl : ¬ kCells = kLeft := by decide +kernel
theorem kca : ¬ kCells = kAt := by decide +kernel
theorem kla : ¬ kLeft = kAt := by decide +kernel
theorem mKvs_cells (c l : Addr) (z : Int) : valV (mKvs c l z) kCells = some (.ref c) := valV_pos rfl
theorem mKvs_left (c l : Addr) (z : Int) : valV (mKvs c l z) kLeft = some (.ref l) := by
  unfold mKvs
  rw [valV_neg kcl, valV_pos rfl]
theorem mKvs_at (c l : Addr) (z : Int) : valV (mKvs c l z) kAt = some (.int z) := by
  unfold mKvs
  rw [valV_neg kca, valV_neg kla, valV_pos rfl]
theorem mKvs_putLeft (c l l' : Addr) (z : Int) : putK (mKvs c l z) kLeft (.ref l') = mKvs c l' z := by
  unfold putK mKvs
  simp [kcl, kca, kla, Ne.symm kcl, Ne.symm kca, Ne.symm kla]
theorem mKvs_putAt (c l : Addr) (z z' : Int) : putK (mKvs c l z) kAt (.int z') = mKvs c l z' := by
  unfold putK mKvs
  simp [kcl, kca, kla, Ne.symm kcl, Ne.symm kca, Ne.symm kla]
theorem mKvs_merge (c l : Addr) (z : Int) : mergeK [] (mKvs c l z) = mKvs c l z := by
  unfold mergeK mKvs putK
  simp [kcl, kca, kla, Ne.symm kcl, Ne.symm kca, Ne.symm kla]
/-- the state of the draws: the dict at m, its lists; apart from what G tells -/
def MSx (H G : Hp) (m : Addr) (n : Nat) (c l : Addr) (z : Int) (ns ls : List Int) : Prop :=
  H m = some (.dK (mKvs c l z)) ∧ H c = some (.lst (ns.map V.int)) ∧ H l = some (.lst (ls.map V.int)) ∧ c ≠ l ∧ 0 ≤ z ∧ z ≤ (n : Int) ∧ ns.length ≤ 63 ∧ ls.length ≤ 63 ∧ G m = none ∧ G c = none ∧ G l = none
structure MS (H G : Hp) (m : Addr) (n : Nat) : Prop where
  ex : ∃ (c l : Addr) (z : Int) (ns ls : List Int), MSx H G m n c l z ns ls
  sub : Same G H
theorem MS.new {H G : Hp} {m p : Addr} {n : Nat} {o : HO} (M : MS H G m n) (hp : H p = none) : MS (upd H p o) (upd G p o) m n := by
  obtain ⟨⟨c, l, z, ns, ls, h1, h2, h3, r⟩, s⟩ := M
  have n1 := ne_of_none h1 hp
  have n2 := ne_of_none h2 hp
  have n3 := ne_of_none h3 hp
  refine ⟨⟨c, l, z, ns, ls, by rw [upd_ne n1]; exact h1, by rw [upd_ne n2]; exact h2, by rw [upd_ne n3]; exact h3, r.1, r.2.1, r.2.2.1, r.2.2.2.1, r.2.2.2.2.1, by rw [upd_ne n1]; exact r.2.2.2.2.2.1, by rw [upd_ne n2]; exact r.2.2.2.2.2.2.1, by rw [upd_ne n3]; exact r.2.2.2.2.2.2.2⟩, fun b u e => ?_⟩
  by_cases hb : b = p
  · subst hb
    rw [upd_same] at e ⊢
    exact e
  · rw [upd_ne hb] at e ⊢
    exact s b u e
theorem MS.put {H G : Hp} {m p : Addr} {n : Nat} {o u : HO} (M : MS H G m n) (hp : G p = some u) : MS (upd H p o) (upd G p o) m n := by
  obtain ⟨⟨c, l, z, ns, ls, h1, h2, h3, r⟩, s⟩ := M
  have n1 : m ≠ p := (ne_of_none hp r.2.2.2.2.2.1).symm
  have n2 : c ≠ p := (ne_of_none hp r.2.2.2.2.2.2.1).symm
  have n3 : l ≠ p := (ne_of_none hp r.2.2.2.2.2.2.2).symm
  refine ⟨⟨c, l, z, ns, ls, by rw [upd_ne n1]; exact h1, by rw [upd_ne n2]; exact h2, by rw [upd_ne n3]; exact h3, r.1, r.2.1, r.2.2.1, r.2.2.2.1, r.2.2.2.2.1, by rw [upd_ne n1]; exact r.2.2.2.2.2.1, by rw [upd_ne n2]; exact r.2.2.2.2.2.2.1, by rw [upd_ne n3]; exact r.2.2.2.2.2.2.2⟩, fun b u e => ?_⟩
  by_cases hb : b = p
  · subst hb
    rw [upd_same] at e ⊢
    exact e
  · rw [upd_ne hb] at e ⊢
    exact s b u e
theorem MS.mono {H G : Hp} {m : Addr} {n k : Nat} (M : MS H G m n) (h : n ≤ k) : MS H G m k := by
  obtain ⟨⟨c, l, z, ns, ls, h1, h2, h3, r1, r2, r3, r⟩, s⟩ := M
  exact ⟨⟨c, l, z, ns, ls, h1, h2, h3, r1, r2, by omega, r⟩, s⟩
theorem MS.less {H G G' : Hp} {m : Addr} {n : Nat} (M : MS H G m n) (h : Same G' G) : MS H G' m n := by
  obtain ⟨⟨c, l, z, ns, ls, h1, h2, h3, r1, r2, r3, r4, r5, r6, r7, r8⟩, s⟩ := M
  exact ⟨⟨c, l, z, ns, ls, h1, h2, h3, r1, r2, r3, r4, r5, h.free r6, h.free r7, h.free r8⟩, h.trans s⟩
theorem intAt {ns : List Int} {i : Nat} {y : V} (h : (ns.map V.int)[i]? = some y) : ∃ u, y = V.int u := by
  rw [List.getElem?_map] at h
  cases e : ns[i]? with
  | none =>
    rw [e] at h
    cases h
  | some u =>
    rw [e] at h
    exact ⟨u, (Option.some.inj h).symm⟩
def spBegun (K : Frag) : Sp := fun vs H Q _ => ∃ (a : Addr) (ns : List Int), vs = [.ref a] ∧ SqL K H a (ns.map V.int) ∧ ns.length ≤ 63 ∧ ∀ m H', MS H' H m 0 → Q (.ref m) H'
structure Blt (mg : Str → Option Value) : Prop where
  len : mg "len" = none
  int : mg "int" = none
  list : mg "list" = none
section
variable {P : Program} {w : World} {K : Frag} {mg : Str → Option Value} {base : Heap}
theorem scBegun : FnScope ["script", "cell"] ["script"] (defScope sBegun) := ⟨rfl, rfl, rfl, by decide +kernel, rfl, by decide +kernel, by decide +kernel⟩
theorem ok_begun {f : Addr} {fd : FuncData} (F : Fun K "_law_begun" "_law_begun" sBegun f fd) (B : Blt mg) : FnOk P w K mg base CX0 1 f fd ["script"] (spBegun K) := by
  refine F.ok scBegun (fun vs H Q E h => ?_) (fun cdv A outer s H vs Q E hr h => ?_)
  · obtain ⟨a, ns, rfl, _⟩ := h
    rfl
  · obtain ⟨a, ns, rfl, hS, hlen, k⟩ := h
    have hu := hu_of hr
    refine ⟨_, pss_one (ps_ret (pe_disp (pps_cons pe_str (pe_callTy call_list_of (by rfl) B.list (by decide +kernel) (pa_cons (pv 0) pa_nil))
      (pps_cons pe_str (pe_lc (own := [("cell", 1)]) (g := gName 1) rfl scBegun.nd (pi_list (pv 0)) (blkOk_by (own := [("cell", 1)]) (N := ["script", "cell"]) (sc := defScope sBegun) (by decide +kernel)) (fun _ _ _ _ _ => pg_name (i := 1) scBegun.nd rfl (Or.inl rfl))
        (fun _ _ _ _ _ => pts_one (pt_cmpR op_ge (pv 1) (pe_op op_pow pe_int pe_int) (nomark _))) (fun _ _ _ _ _ => pv 1))
      (pps_cons pe_str pe_int pps_nil))) (by rfl) (by rfl) (fun z => by cases z) (by decide))), ?_⟩
    intro p np
    have s1 : Same H (upd H p (.dK [])) := fun b o e => by
      rw [upd_ne (ne_of_none e np)]
      exact e
    refine ⟨_, rfl, a, _, rfl, .inl (s1.seq hS), fun c hc => ?_⟩
    have npc : p ≠ c := fun z => by
      rw [z, upd_same] at hc
      cases hc
    have hc0 : H c = none := by
      rw [upd_ne npc.symm] at hc
      exact hc
    have s2 : Same H (upd (upd H p (.dK [])) c (.lst (ns.map V.int))) := fun b o e => by
      rw [upd_ne (ne_of_none e hc0), upd_ne (ne_of_none e np)]
      exact e
    refine ⟨_, rfl, a, rfl, ⟨_, s2.seq hS⟩, fun l hl => ?_⟩
    have nl : l ≠ p ∧ l ≠ c ∧ H l = none := by
      refine ⟨fun z => ?_, fun z => ?_, s2.free hl⟩
      · rw [z, upd_ne npc, upd_same] at hl
        cases hl
      · rw [z, upd_same] at hl
        cases hl
    have s3 : ∀ o, Same H (upd (upd (upd H p (.dK [])) c (.lst (ns.map V.int))) l o) := fun o b u e => by
      rw [upd_ne (ne_of_none e nl.2.2)]
      exact s2 b u e
    refine lc_list (K := K) (a := a) (xs := ns.map V.int) (fun i H' => ∃ ls : List Int, ls.length ≤ i ∧ H' = upd (upd (upd H p (.dK [])) c (.lst (ns.map V.int))) l (.lst (ls.map V.int))) ⟨[], Nat.le_refl _, rfl⟩ (fun i H' _ ⟨ls, _, e⟩ => ?_) ?_ ?_
    · subst e
      exact (s3 _).seq hS
    · rintro i y H' hi ⟨ls, hll, rfl⟩
      obtain ⟨u, rfl⟩ := intAt hi
      have hlt : i < ns.length := by
        have q := (List.getElem?_eq_some_iff.mp hi).1
        rwa [List.length_map] at q
      refine ⟨rfl, _, rfl, _, _, rfl, rfl, ⟨by decide, by decide, by decide⟩, _, _, rfl, rfl, _, rfl, ?_⟩
      by_cases c18 : (10 : Int) ^ (18 : Int).toNat ≤ u
      · rw [decide_eq_true c18]
        refine iteT ⟨_, rfl, _, upd_same, ?_, ls ++ [u], ?_, ?_⟩
        · rw [List.length_map]
          exact small1000 (by omega)
        · rw [List.length_append, List.length_singleton]
          omega
        · rw [upd_upd, List.map_append]
          rfl
      · rw [decide_eq_false c18]
        exact iteF ⟨ls, by omega, rfl⟩
    · rintro H' ⟨ls, hll, rfl⟩
      rw [List.length_map] at hll
      have hp3 : upd (upd (upd H p (.dK [])) c (.lst (ns.map V.int))) l (.lst (ls.map V.int)) p = some (.dK []) := by
        rw [upd_ne nl.1.symm, upd_ne npc, upd_same]
      refine ⟨hp3, mKvs c l 0, rfl, (by show 3 ≤ 15; decide), k p _ ⟨⟨c, l, 0, ns, ls, ?_, ?_, ?_, nl.2.1.symm, Int.le_refl _, by omega, hlen, by omega, np, hc0, nl.2.2⟩, fun b o e => ?_⟩⟩
      · rw [upd_same]
        exact congrArg some (congrArg HO.dK (mKvs_merge c l 0))
      · rw [upd_ne npc.symm, upd_ne nl.2.1.symm, upd_same]
      · rw [upd_ne nl.1, upd_same]
      · rw [upd_ne (ne_of_none e np)]
        exact s3 _ b o e
/-- a draw below many -/
def spNext : Sp := fun vs H Q _ => ∃ (G : Hp) (m : Addr) (n : Nat) (many : Int), vs = [.ref m, .int many] ∧ MS H G m n ∧ n < 2 ^ 60 ∧ 1 ≤ many ∧ many < 1073741824 ∧ ∀ (r : Int) (H' : Hp), 0 ≤ r → r < many → MS H' G m (n + 1) → Q (.int r) H'
theorem dpInts {K : Frag} {H : Hp} : ∀ ns : List Int, DpAll K H (ns.map V.int) (ns.map PyData.int)
  | [] => .nil
  | n :: ns => .cons (.int n) (dpInts ns)
theorem layInts : ∀ ns : List Int, PyData.canLayAll0 (ns.map PyData.int) = true
  | [] => rfl
  | n :: ns => by
    rw [List.map_cons]
    simp [PyData.canLayAll0, PyData.canLay0, layInts ns]
theorem depthInts : ∀ ns : List Int, PyData.depthAll (ns.map PyData.int) ≤ 0
  | [] => by simp [PyData.depthAll]
  | n :: ns => by
    have h := depthInts ns
    rw [List.map_cons]
    simp only [PyData.depthAll, PyData.depth]
    omega
theorem shapeInts (ns : List Int) : SeqAt.shaped (.list (ns.map PyData.int)) = true := by
  have h := depthInts ns
  have h2 : (PyData.list (ns.map PyData.int)).depth ≤ 64 := by
    simp only [PyData.depth]
    omega
  unfold SeqAt.shaped
  rw [decide_eq_true h2]
  simp only [PyData.canLay0, layInts ns, Bool.and_self]
theorem eqvInts (ns : List Int) : PyData.eqv (.list (ns.map PyData.int)) (.list []) = ns.isEmpty := by
  cases ns <;> simp [PyData.eqv, PyData.eqvAll]
theorem ixN0 {n : Nat} (h : 0 < n) : ixN n 0 = some 0 := by
  unfold ixN
  rw [if_pos (Int.le_refl 0), if_pos (by omega)]
  rfl
theorem cutTail (v : V) (xs : List V) : cutV (v :: xs) (some 1) none = xs := by
  have e : HT.sIx (v :: xs).length 0 (some 1) = 1 := by
    simp [HT.sIx]
  have e2 : HT.sIx (v :: xs).length (v :: xs).length none = (v :: xs).length := by
    simp [HT.sIx]
  unfold cutV
  rw [e, e2]
  simp
theorem MSx.left {H G : Hp} {m c l : Addr} {n : Nat} {z : Int} {ns ls : List Int} (X : MSx H G m n c l z ns ls) : DGet H m (.str "left") (some (.ref l)) := by
  have q := DGet.k (k := kLeft) X.1
  rw [mKvs_left] at q
  exact q
theorem MSx.cells {H G : Hp} {m c l : Addr} {n : Nat} {z : Int} {ns ls : List Int} (X : MSx H G m n c l z ns ls) : DGet H m (.str "cells") (some (.ref c)) := by
  have q := DGet.k (k := kCells) X.1
  rw [mKvs_cells] at q
  exact q
theorem MSx.at_ {H G : Hp} {m c l : Addr} {n : Nat} {z : Int} {ns ls : List Int} (X : MSx H G m n c l z ns ls) : DGet H m (.str "at") (some (.int z)) := by
  have q := DGet.k (k := kAt) X.1
  rw [mKvs_at] at q
  exact q
theorem MSx.junk {H G : Hp} {m c l p : Addr} {n : Nat} {z : Int} {ns ls : List Int} {o : HO} (X : MSx H G m n c l z ns ls) (hp : H p = none) : MSx (upd H p o) G m n c l z ns ls := by
  obtain ⟨h1, h2, h3, r⟩ := X
  exact ⟨by rw [upd_ne (ne_of_none h1 hp)]; exact h1, by rw [upd_ne (ne_of_none h2 hp)]; exact h2, by rw [upd_ne (ne_of_none h3 hp)]; exact h3, r⟩
theorem sameNew {G H : Hp} {p : Addr} {o : HO} (s : Same G H) (hp : H p = none) : Same G (upd H p o) := fun b u e => by
  rw [upd_ne (ne_of_none (s b u e) hp)]
  exact s b u e
theorem samePut {G H : Hp} {p : Addr} {o : HO} (s : Same G H) (hp : G p = none) : Same G (upd H p o) := fun b u e => by
  rw [upd_ne (ne_of_none e hp)]
  exact s b u e
theorem MSx.setLeft {H G : Hp} {m c l l' : Addr} {n : Nat} {z : Int} {ns ls ls' : List Int} (X : MSx H G m n c l z ns ls) (h : H l' = some (.lst (ls'.map V.int))) (hc : c ≠ l') (hG : G l' = none) (hl : ls'.length ≤ 63) :
    MSx (upd H m (.dK (putK (mKvs c l z) kLeft (.ref l')))) G m n c l' z ns ls' := by
  obtain ⟨h1, h2, h3, r1, r2, r3, r4, r5, r6, r7, r8⟩ := X
  have n1 : c ≠ m := ne_of h2 h1 (by intro q; cases q)
  have n2 : l' ≠ m := ne_of h h1 (by intro q; cases q)
  exact ⟨by rw [upd_same, mKvs_putLeft], by rw [upd_ne n1]; exact h2, by rw [upd_ne n2]; exact h, hc, r2, r3, r4, hl, r6, r7, hG⟩
theorem MSx.setAt {H G : Hp} {m c l : Addr} {n : Nat} {z : Int} {ns ls : List Int} (X : MSx H G m n c l z ns ls) : MSx (upd H m (.dK (putK (mKvs c l z) kAt (.int (z + 1))))) G m (n + 1) c l (z + 1) ns ls := by
  obtain ⟨h1, h2, h3, r1, r2, r3, r4, r5, r6, r7, r8⟩ := X
  have n1 : c ≠ m := ne_of h2 h1 (by intro q; cases q)
  have n2 : l ≠ m := ne_of h3 h1 (by intro q; cases q)
  exact ⟨by rw [upd_same, mKvs_putAt], by rw [upd_ne n1]; exact h2, by rw [upd_ne n2]; exact h3, r1, by omega, by omega, r4, r5, r6, r7, r8⟩
abbrev nNext : List Str := ["m", "many", "rest", "at", "bits", "cell", "blend"]
theorem scNext : FnScope nNext ["m", "many"] (defScope sNext) := ⟨rfl, rfl, rfl, by decide +kernel, rfl, by decide +kernel, by decide +kernel⟩
theorem ok_next {f : Addr} {fd : FuncData} (F : Fun K "_law_next" "_law_next" sNext f fd) (B : Blt mg) : FnOk P w K mg base CX0 1 f fd ["m", "many"] spNext := by
  refine F.ok scNext (fun vs H Q E h => ?_) (fun cdv A outer s H vs Q E hr h => ?_)
  · obtain ⟨G, m, n, many, rfl, _⟩ := h
    rfl
  · obtain ⟨G, m, n, many, rfl, M, hn, h1, h2, k⟩ := h
    have hu := hu_of hr
    refine ⟨_, C8.pss_cut (ps_while PassesOwn.never
          (PW.pt (pw_and (pt_cmpR (op_neD hr.units) (pe_dget hu (pv 0) pe_str (fun _ _ => rfl)) (pe_lst pa_nil) (nomark _))
            (pw_and1 (pt_cmpR op_eq (pe_ix ix_list (pe_dget hu (pv 0) pe_str (fun _ _ => rfl)) pe_int (fun _ _ => rfl)) pe_int (nomark _)))))
          (pss_one (ps_dput hu (pv 0) pe_str (pe_slice sl_list (pe_dget hu (pv 0) pe_str (fun _ _ => rfl)) (po_some pe_int) po_none) rfl)))
      (pss_cons (ps_if (pt_cmpR (op_neD hr.units) (pe_dget hu (pv 0) pe_str (fun _ _ => rfl)) (pe_lst pa_nil) (nomark _))
          (pss_cons (ps_set (i := 2) scNext.nd rfl (Or.inl rfl) (pe_ix ix_list (pe_dget hu (pv 0) pe_str (fun _ _ => rfl)) pe_int (fun _ _ => rfl)))
            (pss_cons (ps_asg (pe_op op_fdivN (pv 2) (pv 1)) (pg_sub (pe_dget hu (pv 0) pe_str (fun _ _ => rfl)) pe_int set_list))
              (pss_one (ps_ret (pe_op op_modN (pe_callTy call_int1 (by rfl) B.int (by decide +kernel) (pa_cons (pv 2) pa_nil)) (pv 1)))))) pss_nil)
      (pss_cons (ps_par rfl scNext.nd (i := 3) (j := 4) rfl rfl (by decide) rfl rfl (pa_cons (pe_op op_add (pe_dget hu (pv 0) pe_str (fun _ _ => rfl)) pe_int) (pa_cons (pe_dget hu (pv 0) pe_str (fun _ _ => rfl)) pa_nil)) (by rfl))
      (pss_cons (ps_dput hu (pv 0) pe_str (pv 3) rfl)
      (C8.pss_cut (ps_set (i := 5) scNext.nd rfl (Or.inl rfl) (pe_ifExp (pt_cmpR (op_neD hr.units) (pv 4) (pe_lst pa_nil) (nomark _))
          (pe_callTy call_int1 (by rfl) B.int (by decide +kernel) (pa_cons (pe_ix ix_list (pv 4) (pe_op op_modN (pe_callTy call_int1 (by rfl) B.int (by decide +kernel) (pa_cons (pe_op op_add (pe_op op_mul (pv 3) (pv 3)) (pe_op op_fdiv (pv 3) pe_int)) pa_nil)) (pe_callB call_len_seq (by rfl) B.len PySem.boot_len (pa_cons (pv 4) pa_nil))) (fun _ _ => rfl)) pa_nil)) pe_int))
      (pss_cons (ps_set (i := 6) scNext.nd rfl (Or.inl rfl) (pe_op op_mod (pe_callTy call_int1 (by rfl) B.int (by decide +kernel) (pa_cons (pe_op op_add (pe_op op_add (pe_op op_mul (pv 5) pe_int) (pe_op op_mul (pv 3) pe_int)) (pe_op op_mul (pe_op op_mul pe_int (pv 3)) (pv 3))) pa_nil)) pe_int))
      (pss_one (ps_ret (pe_op op_modN (pe_callTy call_int1 (by rfl) B.int (by decide +kernel) (pa_cons (pe_op op_fdiv (pe_op op_mod (pe_callTy call_int1 (by rfl) B.int (by decide +kernel) (pa_cons (pe_op op_add (pe_op op_mul (pv 6) pe_int) (pe_op op_mul pe_int (pv 3))) pa_nil)) pe_int) pe_int) pa_nil)) (pv 1))))))))), ?_⟩
    refine ⟨fun σ' H' => σ' = [some (.ref m), some (.int many), none, none, none, none, none] ∧ MS H' G m n, ?_, ?_⟩
    · obtain ⟨⟨c0, l0, z0, ns0, ls0, X0⟩, s0⟩ := M
      refine ⟨fun j σ' H' => σ' = [some (.ref m), some (.int many), none, none, none, none, none] ∧ Same G H' ∧ ∃ (c l : Addr) (z : Int) (ns ls : List Int), MSx H' G m n c l z ns ls ∧ ls.length = j, ⟨_, rfl, s0, c0, l0, z0, ns0, ls0, X0, rfl⟩, ?_⟩
      rintro j σ' H' ⟨rfl, sG, c, l, z, ns, ls, X, rfl⟩
      refine ⟨_, rfl, m, _, rfl, X.left, Nat.zero_le _, fun p np => ⟨_, _, .lst (SqL.of (X.junk np).2.2.1) (dpInts ls), .lst (SqL.of upd_same) .nil, shapeInts ls, shapeInts [], _, rfl, ?_⟩⟩
      rw [eqvInts]
      have X1 := X.junk (o := .lst []) np
      have sG1 : Same G (upd H' p (.lst [])) := sameNew sG np
      cases ls with
      | nil => exact iteF (iteF ⟨rfl, ⟨c, l, z, ns, [], X1⟩, sG1⟩)
      | cons v rs =>
        refine iteT ⟨_, rfl, m, _, rfl, X1.left, l, _, _, _, rfl, rfl, SqL.of X1.2.2.1, atI_nat (j := 0) rfl, rfl, _, rfl, ?_⟩
        by_cases hv : V.int v = V.int 0
        · rw [decide_eq_true hv]
          refine iteT ⟨fun σ2 H2 => σ2 = [some (.ref m), some (.int many), none, none, none, none, none] ∧ Same G H2 ∧ ∃ (c l : Addr) (z : Int) (ns ls : List Int), MSx H2 G m n c l z ns ls ∧ ls.length = rs.length, fun σ2 H2 h => ⟨rs.length, by simp, h⟩, ?_⟩
          refine ⟨_, rfl, m, _, rfl, X1.left, _, rfl, l, _, rfl, SqL.of X1.2.2.1, fun p2 np2 => ?_⟩
          have X2 := X1.junk (o := .lst (cutV (((v :: rs) : List Int).map V.int) (some 1) none)) np2
          have e2 : cutV (((v :: rs) : List Int).map V.int) (some 1) none = rs.map V.int := cutTail _ _
          refine ⟨_, rfl, m, _, rfl, DPut.k (k := kLeft) X2.1 (by show 3 < sizeLine; decide), rfl, ?_, c, p2, z, ns, rs, X2.setLeft (by rw [upd_same, e2]) (ne_of_none X1.2.1 np2) (sG1.free np2) ?_, rfl⟩
          · exact samePut (sameNew sG1 np2) X.2.2.2.2.2.2.2.2.1
          · have q := X.2.2.2.2.2.2.2.1
            rw [List.length_cons] at q
            omega
        · rw [decide_eq_false hv]
          exact iteF ⟨rfl, ⟨c, l, z, ns, v :: rs, X1⟩, sG1⟩
    · rintro σ' H' ⟨rfl, ⟨c, l, z, ns, ls, X⟩, sG⟩
      have M0 : G m = none ∧ G c = none ∧ G l = none := X.2.2.2.2.2.2.2.2
      refine ⟨_, rfl, m, _, rfl, X.left, Nat.zero_le _, fun p np => ⟨_, _, .lst (SqL.of (X.junk np).2.2.1) (dpInts ls), .lst (SqL.of upd_same) .nil, shapeInts ls, shapeInts [], _, rfl, ?_⟩⟩
      rw [eqvInts]
      have X1 := X.junk (o := .lst []) np
      have sG1 : Same G (upd H' p (.lst [])) := sameNew sG np
      cases ls with
      | cons v rs =>
        refine iteT ⟨_, rfl, m, _, rfl, X1.left, l, _, _, _, rfl, rfl, SqL.of X1.2.2.1, atI_nat (j := 0) rfl, ?_⟩
        refine ⟨_, rfl, _, rfl, _, _, rfl, rfl, ⟨by omega, by omega⟩, _, rfl, m, _, rfl, X1.left, l, _, _, _, rfl, rfl, X1.2.2.1, ixN0 (by simp), ?_⟩
        refine ⟨_, rfl, .inl ⟨_, rfl, _, rfl, _, _, rfl, rfl, by omega, ?_⟩⟩
        have e := Int.fmod_eq_emod_of_nonneg v (b := many) (by omega)
        refine k _ _ (by rw [e]; exact Int.emod_nonneg _ (by omega)) (by rw [e]; exact Int.emod_lt_of_pos _ (by omega)) ⟨⟨c, l, z, ns, v.fdiv many :: rs, ?_⟩, samePut sG1 M0.2.2⟩
        obtain ⟨g1, g2, g3, g4, g5, g6, g7, g8, g9⟩ := X1
        have n1 : m ≠ l := ne_of g1 g3 (by intro q; cases q)
        exact ⟨by rw [upd_ne n1]; exact g1, by rw [upd_ne g4]; exact g2, upd_same, g4, g5, by omega, g7, g8, g9⟩
      | nil =>
        refine iteF ?_
        refine ⟨_, rfl, m, _, rfl, X1.at_, _, _, rfl, rfl, _, rfl, m, _, rfl, X1.cells, _, _, rfl, ?_⟩
        refine ⟨_, rfl, _, rfl, m, _, rfl, DPut.k (k := kAt) X1.1 (by show 3 < sizeLine; decide), ?_⟩
        have X2 := X1.setAt
        have hz : 0 ≤ z ∧ z ≤ (n : Int) := ⟨X1.2.2.2.2.1, X1.2.2.2.2.2.1⟩
        have zs : (-(2 ^ 64) : Int) < z + 1 ∧ z + 1 < 2 ^ 64 := by omega
        have sG2 : Same G (upd (upd H' p (.lst [])) m (.dK (putK (mKvs c l z) kAt (.int (z + 1))))) := samePut sG1 M0.1
        refine ⟨fun σ3 H3 => ∃ cell : Int, σ3 = [some (.ref m), some (.int many), none, some (.int (z + 1)), some (.ref c), some (.int cell), none] ∧ MS H3 G m (n + 1), ?_, ?_⟩
        · refine ⟨_, rfl, Nat.zero_le _, fun p2 np2 => ⟨_, _, .lst (SqL.of (X2.junk np2).2.1) (dpInts ns), .lst (SqL.of upd_same) .nil, shapeInts ns, shapeInts [], _, rfl, ?_⟩⟩
          rw [eqvInts]
          have X3 := X2.junk (o := .lst []) np2
          have sG3 := sameNew (o := .lst []) sG2 np2
          cases ns with
          | nil => exact iteF ⟨5, rfl, ⟨c, l, _, _, _, X3⟩, sG3⟩
          | cons y ys =>
            have hlen : (0 : Int) < (((y :: ys) : List Int).map V.int).length := by
              rw [List.length_map, List.length_cons]
              omega
            refine iteT ⟨_, rfl, _, rfl, _, rfl, _, _, rfl, rfl, .inl zs, _, rfl, _, _, rfl, rfl, ⟨by decide, by decide⟩, _, _, rfl, rfl, .inl ⟨_, rfl, _, rfl, c, _, rfl, .inl (SqL.of X3.2.1), _, _, rfl, rfl, by omega, ?_⟩⟩
            obtain ⟨j, hj, hj2⟩ : ∃ j : Nat, ((z + 1) * (z + 1) + (z + 1) / 2).fmod ((((y :: ys) : List Int).map V.int).length : Int) = (j : Int) ∧ j < (y :: ys).length := by
              have e := Int.fmod_eq_emod_of_nonneg ((z + 1) * (z + 1) + (z + 1) / 2) (b := ((((y :: ys) : List Int).map V.int).length : Int)) (by omega)
              have q1 := Int.emod_nonneg ((z + 1) * (z + 1) + (z + 1) / 2) (b := ((((y :: ys) : List Int).map V.int).length : Int)) (by omega)
              have q2 := Int.emod_lt_of_pos ((z + 1) * (z + 1) + (z + 1) / 2) (b := ((((y :: ys) : List Int).map V.int).length : Int)) hlen
              rw [List.length_map] at *
              exact ⟨_, by rw [e]; exact (Int.toNat_of_nonneg q1).symm, by omega⟩
            have ha : atI (((y :: ys) : List Int).map V.int) (((z + 1) * (z + 1) + (z + 1) / 2).fmod ((((y :: ys) : List Int).map V.int).length : Int)) = some (V.int ((y :: ys)[j]'hj2)) := by
              rw [hj]
              exact atI_nat (by rw [List.getElem?_map, List.getElem?_eq_getElem hj2]; rfl)
            refine ⟨c, _, _, _, rfl, rfl, SqL.of X3.2.1, ha, ?_⟩
            exact .inl ⟨_, rfl, _, rfl, ⟨c, l, _, _, _, X3⟩, sG3⟩
        · rintro σ3 H3 ⟨cell, rfl, M3⟩
          refine ⟨_, rfl, _, _, rfl, rfl, .inr ⟨by decide, by decide⟩, _, rfl, _, _, rfl, rfl, .inl zs, _, _, rfl, rfl, _, rfl, _, _, rfl, rfl, .inl ⟨by decide, by decide⟩, _, rfl, _, _, rfl, rfl, .inr zs, _, _, rfl, rfl, .inl ⟨_, rfl, _, _, rfl, rfl, (by show (0 : Int) < 2147483399; decide), ?_⟩⟩
          refine ⟨_, rfl, _, _, rfl, rfl, .inr ⟨by decide, by decide⟩, _, rfl, _, _, rfl, rfl, .inl ⟨by decide, by decide⟩, _, _, rfl, rfl, .inl ⟨_, rfl, _, _, rfl, rfl, (by show (0 : Int) < 2147483647; decide), _, _, rfl, rfl, ⟨by decide, by decide⟩, .inl ⟨_, rfl, _, rfl, _, _, rfl, rfl, by omega, ?_⟩⟩⟩
          have e := fun x : Int => Int.fmod_eq_emod_of_nonneg x (b := many) (by omega)
          exact k _ _ (by rw [e]; exact Int.emod_nonneg _ (by omega)) (by rw [e]; exact Int.emod_lt_of_pos _ (by omega)) M3
end
end Fx

set_option maxRecDepth 100000
set_option maxHeartbeats 4000000
namespace Fx
open PySem PySem.Spec PyProof.Rows L2
open PySem.W (Frag)
abbrev sValue : Stmt := top 14
abbrev sKinds : Stmt := top 15
abbrev sField : Stmt := top 16
abbrev sLaw : Stmt := top 17
/-- a value that repr can show, known to G -/
structure QOk (K : Frag) (G : Hp) (q : V) (d : PyData) : Prop where
  at_ : Dz K G q d
  show_ : d.showable = true
  sys : d.hasDict = false ∨ noLst d = true
  deep : d.depth ≤ 60
  size : d.shown.length ≤ sizeLine
def spValue (K : Frag) : Sp := fun vs H Q _ => ∃ (G : Hp) (m : Addr) (n : Nat), vs = [.ref m] ∧ MS H G m n ∧ n < 2 ^ 59 ∧ ∀ (q : V) (d : PyData) (H' G' : Hp), Same G G' → MS H' G' m (n + 1) → QOk K G' q d → Q q H'
structure BltV (mg : Str → Option Value) (fN : Addr) : Prop extends Blt mg where
  next : mg "_law_next" = some (.ref fN)
section
variable {P : Program} {w : World} {K : Frag} {mg : Str → Option Value} {base : Heap}
theorem scValue : FnScope ["m"] ["m"] (defScope sValue) := ⟨rfl, rfl, rfl, by decide +kernel, rfl, by decide +kernel, by decide +kernel⟩
theorem ok_value {f fN : Addr} {fd fdN : FuncData} (F : Fun K "_law_value" "_law_value" sValue f fd) (B : BltV mg fN) (FN : Fun K "_law_next" "_law_next" sNext fN fdN) (bN : Binds K fdN ["m", "many"] []) : FnOk P w K mg base CX0 2 f fd ["m"] (spValue K) := by
  have GN : FnOk P w K mg base CX0 1 fN fdN ["m", "many"] spNext := ok_next FN B.toBlt
  refine F.ok scValue (fun vs H Q E h => ?_) (fun cdv A outer s H vs Q E hr h => ?_)
  · obtain ⟨G, m, n, rfl, _⟩ := h
    rfl
  · obtain ⟨G, m, n, rfl, M, hn, k⟩ := h
    refine ⟨_, pss_one (ps_ret (pe_ix ix_list (pe_lst (pa_cons pe_non (pa_cons pe_int (pa_cons pe_int (pa_cons (pe_un un_neg pe_int) (pa_cons pe_str (pa_cons pe_str (pa_cons (pe_tup pa_nil) (pa_cons (pe_tup (pa_cons pe_int (pa_cons pe_int pa_nil)))
      (pa_cons (pe_lst pa_nil) (pa_cons pe_dnewK (pa_cons pe_bl (pa_cons (pe_op op_pow pe_int pe_int) pa_nil)))))))))))))
      (pe_call GN hr rfl B.next FN.kp bN .nil pass0 (pa_cons (pv 0) (pa_cons pe_int pa_nil))) (fun _ _ => rfl))), ?_⟩
    refine ⟨_, rfl, Nat.zero_le _, fun t0 h0 => ?_⟩
    refine ⟨by show 2 ≤ sizeLine; decide, fun t1 h1 => ⟨Nat.zero_le _, fun l0 hl => ?_⟩⟩
    intro d0 hd
    refine ⟨_, _, rfl, rfl, ⟨by decide, by decide, by decide⟩, by show 12 ≤ sizeLine; decide, fun L hL => ?_⟩
    have M1 := M.new (o := .tup []) h0
    have M2 := M1.new (o := .tup [.int 1, .int 2]) h1
    have M3 := M2.new (o := .lst []) hl
    have M4 := M3.new (o := .dK []) hd
    have M5 := M4.new (o := .lst [.non, .int 0, .int 5, .int (-1), .str "a", .str "", .ref t0, .ref t1, .ref l0, .ref d0, .bl true, .int (10 ^ (30 : Int).toNat)]) hL
    have s5 := sameNew (o := .lst [.non, .int 0, .int 5, .int (-1), .str "a", .str "", .ref t0, .ref t1, .ref l0, .ref d0, .bl true, .int (10 ^ (30 : Int).toNat)]) (Same.refl _) (M4.sub.free hL)
    have s4 := (sameNew (o := .dK []) (Same.refl _) (M3.sub.free hd)).trans s5
    have s3 := (sameNew (o := .lst []) (Same.refl _) (M2.sub.free hl)).trans s4
    have s2 := (sameNew (o := .tup [.int 1, .int 2]) (Same.refl _) (M1.sub.free h1)).trans s3
    have s1 := (sameNew (o := .tup []) (Same.refl G) (M.sub.free h0)).trans s2
    refine ⟨_, rfl, _, m, n, 12, rfl, M5, by omega, by decide, by decide, fun r H' r0 r1 M' => ?_⟩
    obtain ⟨j, rfl⟩ : ∃ j : Nat, r = (j : Int) := ⟨r.toNat, (Int.toNat_of_nonneg r0).symm⟩
    have e0 := s2 t0 _ upd_same
    have e1 := s3 t1 _ upd_same
    have e2 := s4 l0 _ upd_same
    have e3 := s5 d0 _ upd_same
    have fin : ∀ (v : V) (d : PyData), atI ([.non, .int 0, .int 5, .int (-1), .str "a", .str "", .ref t0, .ref t1, .ref l0, .ref d0, .bl true, .int (10 ^ (30 : Int).toNat)] : List V) (j : Int) = some v → QOk K _ v d → _ := fun v d ha hq =>
      (⟨L, _, _, v, rfl, rfl, SqL.of (M'.sub L _ upd_same), ha, k v d H' _ s1 M' hq⟩ : rIxL K (.ref L) (.int j) H' Q)
    have j12 : j = 0 ∨ j = 1 ∨ j = 2 ∨ j = 3 ∨ j = 4 ∨ j = 5 ∨ j = 6 ∨ j = 7 ∨ j = 8 ∨ j = 9 ∨ j = 10 ∨ j = 11 := by omega
    rcases j12 with rfl | rfl | rfl | rfl | rfl | rfl | rfl | rfl | rfl | rfl | rfl | rfl
    · exact fin _ _ (atI_nat rfl) ⟨.non, by decide +kernel, .inl rfl, by decide +kernel, by decide +kernel⟩
    · exact fin _ _ (atI_nat rfl) ⟨.int 0, by decide +kernel, .inl rfl, by decide +kernel, by decide +kernel⟩
    · exact fin _ _ (atI_nat rfl) ⟨.int 5, by decide +kernel, .inl rfl, by decide +kernel, by decide +kernel⟩
    · exact fin _ _ (atI_nat rfl) ⟨.int (-1), by decide +kernel, .inl rfl, by decide +kernel, by decide +kernel⟩
    · exact fin _ _ (atI_nat rfl) ⟨.str "a", by decide +kernel, .inl rfl, by decide +kernel, by decide +kernel⟩
    · exact fin _ _ (atI_nat rfl) ⟨.str "", by decide +kernel, .inl rfl, by decide +kernel, by decide +kernel⟩
    · exact fin _ _ (atI_nat rfl) ⟨.tup (SqT.of e0) .nil, by decide +kernel, .inl rfl, by decide +kernel, by decide +kernel⟩
    · exact fin _ _ (atI_nat rfl) ⟨.tup (SqT.of e1) (.cons (.int 1) (.cons (.int 2) .nil)), by decide +kernel, .inl rfl, by decide +kernel, by decide +kernel⟩
    · exact fin _ _ (atI_nat rfl) ⟨.lst (SqL.of e2) .nil, by decide +kernel, .inl rfl, by decide +kernel, by decide +kernel⟩
    · exact fin _ _ (atI_nat rfl) ⟨.dct e3, by decide +kernel, .inr rfl, by decide +kernel, by decide +kernel⟩
    · exact fin _ _ (atI_nat rfl) ⟨.bl true, by decide +kernel, .inl rfl, by decide +kernel, by decide +kernel⟩
    · exact fin _ _ (atI_nat rfl) ⟨.int (10 ^ (30 : Int).toNat), by decide +kernel, .inl rfl, by decide +kernel, by decide +kernel⟩
end
end Fx

set_option maxRecDepth 100000
set_option maxHeartbeats 4000000
namespace Fx
open PySem PySem.Spec PyProof.Rows L2
open PySem.W (Frag)
/-- the i-th exception's field -/
def fldOf : Nat → Str
  | 0 => "place" | 1 => "value" | 2 => "value" | 3 => "value" | 4 => "value" | 5 => "place" | 6 => "line" | 7 => "paper" | _ => "loop"
def nameOf : Nat → Str
  | 0 => "BadCode" | 1 => "BadLot" | 2 => "BadLoop" | 3 => "BadRun" | 4 => "BadNumber" | 5 => "BadPaper" | 6 => "BadText" | 7 => "SeveralDoors" | _ => "NoCut"
/-- what the classes tell of one another -/
structure KTab (K : Frag) (mg : Str → Option Value) (cs : Nat → Addr) (L : Addr) : Prop where
  one : ∀ i j, i < 9 → j < 9 → PySem.W.kitOne K (.ref (cs i)) (.ref (cs j)) = some (decide (i = j))
  xi : ∀ i, i < 9 → XI K (cs i)
  no : ∀ i, i < 9 → PySem.W.findIn K (.ref (cs i)) (fldOf i) = some none
  nm : ∀ i, i < 9 → mg (nameOf i) = some (.ref (cs i))
  le : ∀ i, i < 9 → PySem.W.kitOne K (.ref (cs i)) (.ref L) = some (decide (i < 7))
  ve : ∀ i, i < 9 → PySem.W.kitOne K (.ref (cs i)) (.type "ValueError") = some (decide (i < 7))
  lk : ∀ i, i < 9 → PySem.W.kitOne K (.ref (cs i)) (.type "LookupError") = some (decide (6 < i))
  ke : ∀ i, i < 9 → PySem.W.kitOne K (.ref (cs i)) (.type "KeyError") = some false
  ie : ∀ i, i < 9 → PySem.W.kitOne K (.ref (cs i)) (.type "IndexError") = some false
  lv : PySem.W.kitOne K (.ref L) (.type "ValueError") = some true
  lx : XI K L
  gl : mg "LoopError" = some (.ref L)
  isi : mg "isinstance" = none
/-- at a: the i-th exception, its field v -/
def XAt (cs : Nat → Addr) (H : Hp) (a : Addr) (i : Nat) (v : V) : Prop := ∃ d, H a = some (ExA (cs i) (some d) a) ∧ H d = some (.xd [(fldOf i, v)])
theorem XAt.keep {cs : Nat → Addr} {H H' : Hp} {a : Addr} {i : Nat} {v : V} (x : XAt cs H a i v) (s : Same H H') : XAt cs H' a i v := by
  obtain ⟨d, h1, h2⟩ := x
  exact ⟨d, s _ _ h1, s _ _ h2⟩
def spKinds (cs : Nat → Addr) : Sp := fun vs H Q _ => ∃ (a : Addr) (i : Nat) (v : V), vs = [.ref a] ∧ i < 9 ∧ XAt cs H a i v ∧ ∀ (p : Addr) (H' : Hp), Same H H' → H p = none → H' p = some (.lst ((List.range 9).map fun k => .bl (decide (i = k)))) → Q (.ref p) H'
def spField (cs : Nat → Addr) : Sp := fun vs H Q _ => ∃ (a : Addr) (i : Nat) (v : V), vs = [.ref a] ∧ i < 9 ∧ XAt cs H a i v ∧ ∀ H' : Hp, Same H H' → Q v H'
section
variable {P : Program} {w : World} {K : Frag} {mg : Str → Option Value} {base : Heap} {cs : Nat → Addr} {L : Addr}
theorem XAt.raw {cs : Nat → Addr} {H : Hp} {a : Addr} {i : Nat} {v : V} (x : XAt cs H a i v) : ∃ d : Addr, H a = some (ExA (cs i) (some d) a) ∧ ∀ dx, (some d : Option Addr) = some dx → ∃ fs, H dx = some (.xd fs) := by
  obtain ⟨d, h1, h2⟩ := x
  exact ⟨d, h1, fun dx e => by cases e; exact ⟨_, h2⟩⟩
theorem scKinds : FnScope ["one", "found"] ["one"] (defScope sKinds) := ⟨rfl, rfl, rfl, by decide +kernel, rfl, by decide +kernel, by decide +kernel⟩
theorem ok_kinds {f : Addr} {fd : FuncData} (F : Fun K "_law_kinds" "_law_kinds" sKinds f fd) (T : KTab K mg cs L) : FnOk P w K mg base CX0 1 f fd ["one"] (spKinds cs) := by
  refine F.ok scKinds (fun vs H Q E h => ?_) (fun cdv A outer s H vs Q E hr h => ?_)
  · obtain ⟨a, i, v, rfl, _⟩ := h
    rfl
  · obtain ⟨a, i, v, rfl, hi, x, k⟩ := h
    refine ⟨_, pss_cons (ps_set (i := 1) scKinds.nd rfl (Or.inl rfl) (pe_lst
        (pa_cons (pe_callB call_isx (by rfl) T.isi (by decide +kernel) (pa_cons (pv 0) (pa_cons (pe_glob (by rfl) (T.nm 0 (by decide)) (v := .ref (cs 0)) rfl) pa_nil)))
        (pa_cons (pe_callB call_isx (by rfl) T.isi (by decide +kernel) (pa_cons (pv 0) (pa_cons (pe_glob (by rfl) (T.nm 1 (by decide)) (v := .ref (cs 1)) rfl) pa_nil)))
        (pa_cons (pe_callB call_isx (by rfl) T.isi (by decide +kernel) (pa_cons (pv 0) (pa_cons (pe_glob (by rfl) (T.nm 2 (by decide)) (v := .ref (cs 2)) rfl) pa_nil)))
        (pa_cons (pe_callB call_isx (by rfl) T.isi (by decide +kernel) (pa_cons (pv 0) (pa_cons (pe_glob (by rfl) (T.nm 3 (by decide)) (v := .ref (cs 3)) rfl) pa_nil))) pa_nil))))))
      (pss_cons (ps_set (i := 1) scKinds.nd rfl (Or.inl rfl) (pe_op op_cat (pv 1) (pe_lst
        (pa_cons (pe_callB call_isx (by rfl) T.isi (by decide +kernel) (pa_cons (pv 0) (pa_cons (pe_glob (by rfl) (T.nm 4 (by decide)) (v := .ref (cs 4)) rfl) pa_nil)))
        (pa_cons (pe_callB call_isx (by rfl) T.isi (by decide +kernel) (pa_cons (pv 0) (pa_cons (pe_glob (by rfl) (T.nm 5 (by decide)) (v := .ref (cs 5)) rfl) pa_nil)))
        (pa_cons (pe_callB call_isx (by rfl) T.isi (by decide +kernel) (pa_cons (pv 0) (pa_cons (pe_glob (by rfl) (T.nm 6 (by decide)) (v := .ref (cs 6)) rfl) pa_nil))) pa_nil))))))
      (pss_one (ps_ret (pe_op op_cat (pv 1) (pe_lst
        (pa_cons (pe_callB call_isx (by rfl) T.isi (by decide +kernel) (pa_cons (pv 0) (pa_cons (pe_glob (by rfl) (T.nm 7 (by decide)) (v := .ref (cs 7)) rfl) pa_nil)))
        (pa_cons (pe_callB call_isx (by rfl) T.isi (by decide +kernel) (pa_cons (pv 0) (pa_cons (pe_glob (by rfl) (T.nm 8 (by decide)) (v := .ref (cs 8)) rfl) pa_nil))) pa_nil))))))), ?_⟩
    obtain ⟨d, g1, gx⟩ := x.raw
    refine ⟨_, rfl, a, cs i, some d, _, _, _, rfl, g1, gx, T.xi i hi, .own _, T.one i 0 hi (by decide), _, rfl, a, cs i, some d, _, _, _, rfl, g1, gx, T.xi i hi, .own _, T.one i 1 hi (by decide), _, rfl, a, cs i, some d, _, _, _, rfl, g1, gx, T.xi i hi, .own _, T.one i 2 hi (by decide), _, rfl, a, cs i, some d, _, _, _, rfl, g1, gx, T.xi i hi, .own _, T.one i 3 hi (by decide), by show 4 ≤ sizeLine; decide, fun p0 h0 => ?_⟩
    have s0 := sameNew (o := .lst [.bl (decide (i = 0)), .bl (decide (i = 1)), .bl (decide (i = 2)), .bl (decide (i = 3))]) (Same.refl H) h0
    obtain ⟨d0, k1, kx⟩ := (x.keep s0).raw
    refine ⟨_, rfl, _, rfl, a, cs i, some d0, _, _, _, rfl, k1, kx, T.xi i hi, .own _, T.one i 4 hi (by decide), _, rfl, a, cs i, some d0, _, _, _, rfl, k1, kx, T.xi i hi, .own _, T.one i 5 hi (by decide), _, rfl, a, cs i, some d0, _, _, _, rfl, k1, kx, T.xi i hi, .own _, T.one i 6 hi (by decide), by show 3 ≤ sizeLine; decide, fun p1 h1 => ?_⟩
    have n1 : p0 ≠ p1 := fun z => by
      rw [z, upd_same] at h1
      cases h1
    refine ⟨p0, p1, _, _, rfl, rfl, by rw [upd_ne n1]; exact upd_same, upd_same, by show 7 ≤ sizeLine; decide, fun p2 h2 => ?_⟩
    have s1 := s0.trans (sameNew (o := .lst [.bl (decide (i = 4)), .bl (decide (i = 5)), .bl (decide (i = 6))]) (Same.refl _) h1)
    have s2 := s1.trans (sameNew (o := .lst ([.bl (decide (i = 0)), .bl (decide (i = 1)), .bl (decide (i = 2)), .bl (decide (i = 3))] ++ [.bl (decide (i = 4)), .bl (decide (i = 5)), .bl (decide (i = 6))])) (Same.refl _) h2)
    obtain ⟨d2, m1, mx⟩ := (x.keep s2).raw
    refine ⟨_, rfl, _, rfl, a, cs i, some d2, _, _, _, rfl, m1, mx, T.xi i hi, .own _, T.one i 7 hi (by decide), _, rfl, a, cs i, some d2, _, _, _, rfl, m1, mx, T.xi i hi, .own _, T.one i 8 hi (by decide), by show 2 ≤ sizeLine; decide, fun p3 h3 => ?_⟩
    have n3 : p2 ≠ p3 := fun z => by
      rw [z, upd_same] at h3
      cases h3
    refine ⟨p2, p3, _, _, rfl, rfl, by rw [upd_ne n3]; exact upd_same, upd_same, by show 9 ≤ sizeLine; decide, fun p4 h4 => ?_⟩
    have s3 := s2.trans (sameNew (o := .lst [.bl (decide (i = 7)), .bl (decide (i = 8))]) (Same.refl _) h3)
    exact k p4 _ (sameNew s3 h4) (s3.free h4) upd_same
/-! ### the field -/
theorem kit2 (T : KTab K mg cs L) {i j k : Nat} (hi : i < 9) (hj : j < 9) (hk : k < 9) : PySem.W.kitAny K (.ref (cs i)) [.ref (cs j), .ref (cs k)] = some (decide (i = j) || decide (i = k)) := by
  unfold PySem.W.kitAny
  rw [T.one i j hi hj]
  by_cases c : i = j
  · rw [decide_eq_true c]
    rfl
  · rw [decide_eq_false c]
    show PySem.W.kitAny K (.ref (cs i)) [.ref (cs k)] = _
    unfold PySem.W.kitAny
    rw [T.one i k hi hk]
    by_cases c2 : i = k
    · rw [decide_eq_true c2]
      rfl
    · rw [decide_eq_false c2]
      rfl
theorem kit4 (T : KTab K mg cs L) {i j k p q : Nat} (hi : i < 9) (hj : j < 9) (hk : k < 9) (hp : p < 9) (hq : q < 9) :
    PySem.W.kitAny K (.ref (cs i)) [.ref (cs j), .ref (cs k), .ref (cs p), .ref (cs q)] = some (decide (i = j) || (decide (i = k) || (decide (i = p) || decide (i = q)))) := by
  unfold PySem.W.kitAny
  rw [T.one i j hi hj]
  by_cases c : i = j
  · rw [decide_eq_true c]
    rfl
  · rw [decide_eq_false c]
    show PySem.W.kitAny K (.ref (cs i)) [.ref (cs k), .ref (cs p), .ref (cs q)] = _
    unfold PySem.W.kitAny
    rw [T.one i k hi hk]
    by_cases c2 : i = k
    · rw [decide_eq_true c2]
      rfl
    · rw [decide_eq_false c2]
      exact kit2 T hi hp hq
theorem fxRaw {H : Hp} {a : Addr} {i : Nat} {v : V} {n : Str} {Q : VK} (T : KTab K mg cs L) (hi : i < 9) (x : XAt cs H a i v) (hn : fldOf i = n) (q : Q v H) :
    ∃ (a' C d : Addr) (fs : List (Str × V)) (u : V), V.ref a = .ref a' ∧ H a' = some (ExA C (some d) a') ∧ H d = some (.xd fs) ∧ fs.lookup n = some u ∧ XI K C ∧ PySem.W.findIn K (.ref C) n = some none ∧ Q u H := by
  subst hn
  obtain ⟨d, h1, h2⟩ := x
  exact ⟨a, cs i, d, _, v, rfl, h1, h2, by simp [List.lookup], T.xi i hi, T.no i hi, q⟩
theorem scField : FnScope ["one"] ["one"] (defScope sField) := ⟨rfl, rfl, rfl, by decide +kernel, rfl, by decide +kernel, by decide +kernel⟩
theorem ok_field {f : Addr} {fd : FuncData} (F : Fun K "_law_field" "_law_field" sField f fd) (T : KTab K mg cs L) : FnOk P w K mg base CX0 1 f fd ["one"] (spField cs) := by
  refine F.ok scField (fun vs H Q E h => ?_) (fun cdv A outer s H vs Q E hr h => ?_)
  · obtain ⟨a, i, v, rfl, _⟩ := h
    rfl
  · obtain ⟨a, i, v, rfl, hi, x, k⟩ := h
    refine ⟨_, pss_cons (ps_if (pt_val (pe_callB call_isxT (by rfl) T.isi (by decide +kernel) (pa_cons (pv 0) (pa_cons (pe_tup (pa_cons (pe_glob (by rfl) (T.nm 0 (by decide)) (v := .ref (cs 0)) rfl) (pa_cons (pe_glob (by rfl) (T.nm 5 (by decide)) (v := .ref (cs 5)) rfl) pa_nil))) pa_nil)))) (pss_one (ps_ret (pe_fx (pv 0)))) pss_nil)
      (pss_cons (ps_if (pt_val (pe_callB call_isxT (by rfl) T.isi (by decide +kernel) (pa_cons (pv 0) (pa_cons (pe_tup (pa_cons (pe_glob (by rfl) (T.nm 1 (by decide)) (v := .ref (cs 1)) rfl) (pa_cons (pe_glob (by rfl) (T.nm 2 (by decide)) (v := .ref (cs 2)) rfl)
          (pa_cons (pe_glob (by rfl) (T.nm 3 (by decide)) (v := .ref (cs 3)) rfl) (pa_cons (pe_glob (by rfl) (T.nm 4 (by decide)) (v := .ref (cs 4)) rfl) pa_nil))))) pa_nil)))) (pss_one (ps_ret (pe_fx (pv 0)))) pss_nil)
      (pss_cons (ps_if (pt_val (pe_callB call_isx (by rfl) T.isi (by decide +kernel) (pa_cons (pv 0) (pa_cons (pe_glob (by rfl) (T.nm 6 (by decide)) (v := .ref (cs 6)) rfl) pa_nil)))) (pss_one (ps_ret (pe_fx (pv 0)))) pss_nil)
      (pss_one (ps_ret (pe_ifExp (pt_val (pe_callB call_isx (by rfl) T.isi (by decide +kernel) (pa_cons (pv 0) (pa_cons (pe_glob (by rfl) (T.nm 7 (by decide)) (v := .ref (cs 7)) rfl) pa_nil)))) (pe_fx (pv 0)) (pe_fx (pv 0))))))), ?_⟩
    refine ⟨_, rfl, by show 2 ≤ sizeLine; decide, fun t1 h1 => ?_⟩
    have s1 := sameNew (o := .tup [.ref (cs 0), .ref (cs 5)]) (Same.refl H) h1
    have x1 := x.keep s1
    obtain ⟨d1, g1, gx⟩ := x1.raw
    refine ⟨a, cs i, some d1, t1, _, _, _, rfl, g1, gx, T.xi i hi, upd_same, .cons (.own _) (.cons (.own _) .nil), kit2 T hi (by decide) (by decide), _, rfl, ?_⟩
    by_cases c1 : i = 0 ∨ i = 5
    · have e : (decide (i = 0) || decide (i = 5)) = true := by simpa using c1
      rw [e]
      exact iteT ⟨_, rfl, fxRaw T hi x1 (by rcases c1 with rfl | rfl <;> rfl) (k _ s1)⟩
    have e : (decide (i = 0) || decide (i = 5)) = false := by simpa using c1
    rw [e]
    refine iteF ?_
    refine ⟨_, rfl, by show 4 ≤ sizeLine; decide, fun t2 h2 => ?_⟩
    have s2 := s1.trans (sameNew (o := .tup [.ref (cs 1), .ref (cs 2), .ref (cs 3), .ref (cs 4)]) (Same.refl _) h2)
    have x2 := x.keep s2
    obtain ⟨d2, g2, gx2⟩ := x2.raw
    refine ⟨a, cs i, some d2, t2, _, _, _, rfl, g2, gx2, T.xi i hi, upd_same, .cons (.own _) (.cons (.own _) (.cons (.own _) (.cons (.own _) .nil))), kit4 T hi (by decide) (by decide) (by decide) (by decide), _, rfl, ?_⟩
    by_cases c2 : i = 1 ∨ i = 2 ∨ i = 3 ∨ i = 4
    · have e : (decide (i = 1) || (decide (i = 2) || (decide (i = 3) || decide (i = 4)))) = true := by simpa using c2
      rw [e]
      exact iteT ⟨_, rfl, fxRaw T hi x2 (by rcases c2 with rfl | rfl | rfl | rfl <;> rfl) (k _ s2)⟩
    have e : (decide (i = 1) || (decide (i = 2) || (decide (i = 3) || decide (i = 4)))) = false := by simpa using c2
    rw [e]
    refine iteF ?_
    refine ⟨_, rfl, a, cs i, some d2, _, _, _, rfl, g2, gx2, T.xi i hi, .own _, T.one i 6 hi (by decide), _, rfl, ?_⟩
    by_cases c3 : i = 6
    · rw [decide_eq_true c3]
      exact iteT ⟨_, rfl, fxRaw T hi x2 (by rw [c3]; rfl) (k _ s2)⟩
    rw [decide_eq_false c3]
    refine iteF ?_
    refine ⟨_, rfl, a, cs i, some d2, _, _, _, rfl, g2, gx2, T.xi i hi, .own _, T.one i 7 hi (by decide), _, rfl, ?_⟩
    by_cases c4 : i = 7
    · rw [decide_eq_true c4]
      exact iteT ⟨_, rfl, fxRaw T hi x2 (by rw [c4]; rfl) (k _ s2)⟩
    rw [decide_eq_false c4]
    obtain rfl : i = 8 := by omega
    exact iteF ⟨_, rfl, fxRaw T hi x2 rfl (k _ s2)⟩
end
end Fx

set_option maxRecDepth 100000
set_option maxHeartbeats 4000000
namespace Fx
open PySem PySem.Spec PyProof.Rows L2
open PySem.W (Frag)
abbrev veMro : List Value := [.type "ValueError", .type "Exception", .type "BaseException", .type "object"]
abbrev lkMro : List Value := [.type "LookupError", .type "Exception", .type "BaseException", .type "object"]
structure TL (prog : Program) (K : Frag) (mg : Str → Option Value) (cs fs : Nat → Addr) (L : Addr) : Prop where
  tab : KTab K mg cs L
  x0 : XT prog K mg "ValueError" "ValueError.__new__" "ValueError.__init__" veMro (cs 0) (fs 0) "place"
  x1 : XT prog K mg "ValueError" "ValueError.__new__" "ValueError.__init__" veMro (cs 1) (fs 1) "value"
  x2 : XT prog K mg "ValueError" "ValueError.__new__" "ValueError.__init__" veMro (cs 2) (fs 2) "value"
  x3 : XT prog K mg "ValueError" "ValueError.__new__" "ValueError.__init__" veMro (cs 3) (fs 3) "value"
  x4 : XT prog K mg "ValueError" "ValueError.__new__" "ValueError.__init__" veMro (cs 4) (fs 4) "value"
  x5 : XT prog K mg "ValueError" "ValueError.__new__" "ValueError.__init__" veMro (cs 5) (fs 5) "place"
  x6 : XT prog K mg "ValueError" "ValueError.__new__" "ValueError.__init__" veMro (cs 6) (fs 6) "line"
  x7 : XT prog K mg "LookupError" "LookupError.__new__" "LookupError.__init__" lkMro (cs 7) (fs 7) "paper"
  x8 : XT prog K mg "LookupError" "LookupError.__new__" "LookupError.__init__" lkMro (cs 8) (fs 8) "loop"
  kp : ∀ i, i < 9 → PySem.W.keepIn K (.ref (cs i)) = true
  li : PySem.W.findIn K (.ref L) "__init__" = some (some (.builtin "ValueError.__init__"))
  le : PySem.W.excInitIn K L veMro "ValueError.__new__" = true
  lk : PySem.W.keepIn K (.ref L) = true
  range : mg "range" = none
  min : mg "min" = none
  enum : mg "enumerate" = none
  repr : mg "repr" = none
  ve : mg "ValueError" = none
  lu : mg "LookupError" = none
  ke : mg "KeyError" = none
  ie : mg "IndexError" = none
/-- one more exception -/
theorem stepX {cs : Nat → Addr} {H G : Hp} {m a dx : Addr} {n i : Nat} {v : V} (M : MS H G m n) (ha : H a = none) (hd : H dx = none) (ne : dx ≠ a) {f : Str} (hf : fldOf i = f) :
    MS (upd (upd H dx (.xd [(f, v)])) a (ExA (cs i) (some dx) a)) G m n ∧ Same H (upd (upd H dx (.xd [(f, v)])) a (ExA (cs i) (some dx) a)) ∧ XAt cs (upd (upd H dx (.xd [(f, v)])) a (ExA (cs i) (some dx) a)) a i v := by
  subst hf
  have s : Same H (upd (upd H dx (.xd [(fldOf i, v)])) a (ExA (cs i) (some dx) a)) := fun b o e => by
    rw [upd_ne (ne_of_none e ha), upd_ne (ne_of_none e hd)]
    exact e
  obtain ⟨⟨c, l, z, ns, ls, X⟩, sG⟩ := M
  obtain ⟨h1, h2, h3, r⟩ := X
  exact ⟨⟨⟨c, l, z, ns, ls, s _ _ h1, s _ _ h2, s _ _ h3, r⟩, sG.trans s⟩, s, dx, upd_same, by rw [upd_ne ne, upd_same]⟩
theorem MS.keep {H H' G : Hp} {m : Addr} {n : Nat} (M : MS H G m n) (s : Same H H') : MS H' G m n := by
  obtain ⟨⟨c, l, z, ns, ls, h1, h2, h3, r⟩, sG⟩ := M
  exact ⟨⟨c, l, z, ns, ls, s _ _ h1, s _ _ h2, s _ _ h3, r⟩, sG.trans s⟩
theorem sqtKeep {K : Frag} {H H' : Hp} {a : Addr} {xs : List V} (e : Same H H') (h : SqT K H a xs) : SqT K H' a xs := by
  rcases h with (h | ⟨o, h⟩) | h
  · exact .inl (.inl (e _ _ h))
  · exact .inl (.inr ⟨o, e _ _ h⟩)
  · exact .inr h
mutual
theorem Dz.keep {K : Frag} {H H' : Hp} (s : Same H H') : ∀ (d : PyData) (v : V), Dz K H v d → Dz K H' v d
  | .none, _, h => by cases h; exact .non
  | .bool b, _, h => by cases h; exact .bl b
  | .int i, _, h => by cases h; exact .int i
  | .str x, _, h => by cases h; exact .str x
  | .list ds, _, h => by
    cases h with
    | lst a b => exact .lst (s.seq a) (Dz.keepAll s ds _ b)
  | .tuple ds, _, h => by
    cases h with
    | tup a b => exact .tup (sqtKeep s a) (Dz.keepAll s ds _ b)
  | .dict [], _, h => by
    cases h with
    | dct e => exact .dct (s _ _ e)
  | .dict (_ :: _), _, h => by cases h
theorem Dz.keepAll {K : Frag} {H H' : Hp} (s : Same H H') : ∀ (ds : List PyData) (vs : List V), DzAll K H vs ds → DzAll K H' vs ds
  | [], _, h => by cases h; exact .nil
  | d :: ds, _, h => by
    cases h with
    | cons a b => exact .cons (Dz.keep s d _ a) (Dz.keepAll s ds _ b)
end
theorem XAt.put {cs : Nat → Addr} {H : Hp} {a s : Addr} {i : Nat} {v : V} {xs : List V} {o : HO} (x : XAt cs H a i v) (h : H s = some (.lst xs)) : XAt cs (upd H s o) a i v := by
  obtain ⟨d, h1, h2⟩ := x
  have n1 : a ≠ s := ne_of h1 h (by intro z; cases z)
  have n2 : d ≠ s := ne_of h2 h (by intro z; cases z)
  exact ⟨d, by rw [upd_ne n1]; exact h1, by rw [upd_ne n2]; exact h2⟩
/-- a list of truth values -/
theorem dpBools {K : Frag} {H : Hp} : ∀ bs : List Bool, DpAll K H (bs.map V.bl) (bs.map PyData.bool)
  | [] => .nil
  | b :: bs => .cons (.bl b) (dpBools bs)
theorem layBools : ∀ bs : List Bool, PyData.canLayAll0 (bs.map PyData.bool) = true
  | [] => rfl
  | b :: bs => by
    rw [List.map_cons]
    simp [PyData.canLayAll0, PyData.canLay0, layBools bs]
theorem depthBools : ∀ bs : List Bool, PyData.depthAll (bs.map PyData.bool) ≤ 0
  | [] => by simp [PyData.depthAll]
  | b :: bs => by
    have h := depthBools bs
    rw [List.map_cons]
    simp only [PyData.depthAll, PyData.depth]
    omega
theorem shapeBools (bs : List Bool) : SeqAt.shaped (.list (bs.map PyData.bool)) = true := by
  have h := depthBools bs
  have h2 : (PyData.list (bs.map PyData.bool)).depth ≤ 64 := by
    simp only [PyData.depth]
    omega
  unfold SeqAt.shaped
  rw [decide_eq_true h2]
  simp only [PyData.canLay0, layBools bs, Bool.and_self]
theorem eqvBools (bs : List Bool) : PyData.eqv (.list (bs.map PyData.bool)) (.list (bs.map PyData.bool)) = true :=
  SeqAt.eqv_refl _ (SeqAt.canLay_of_shaped (shapeBools bs))
/-- what a turn has made -/
structure IF9 (K : Frag) (cs : Nat → Addr) (H G : Hp) (m s fr : Addr) (n : Nat) (as bs : Nat → Addr) (q : V) (d : PyData) : Prop where
  ms : MS H G m n
  hs : H s = some (.lst ((List.range 9).map fun i => V.ref (as i)))
  hf : H fr = some (.lst ((List.range 9).map fun i => V.ref (bs i)))
  xa : ∀ i, i < 9 → XAt cs H (as i) i q
  xb : ∀ i, i < 9 → XAt cs H (bs i) i q
  dz : Dz K H q d
theorem IF9.keep {K : Frag} {cs : Nat → Addr} {H H' G : Hp} {m s fr : Addr} {n : Nat} {as bs : Nat → Addr} {q : V} {d : PyData} (I : IF9 K cs H G m s fr n as bs q d) (e : Same H H') : IF9 K cs H' G m s fr n as bs q d :=
  ⟨I.ms.keep e, e _ _ I.hs, e _ _ I.hf, fun i h => (I.xa i h).keep e, fun i h => (I.xb i h).keep e, Dz.keep e d q I.dz⟩
def pick (a0 a1 a2 a3 a4 a5 a6 a7 a8 : Addr) : Nat → Addr
  | 0 => a0 | 1 => a1 | 2 => a2 | 3 => a3 | 4 => a4 | 5 => a5 | 6 => a6 | 7 => a7 | _ => a8
def spLaw (K : Frag) : Sp := fun vs H Q _ => ∃ (a : Addr) (ns : List Int), vs = [.ref a] ∧ SqL K H a (ns.map V.int) ∧ ns.length ≤ 63 ∧ ∀ H', Q (.bl true) H'
section
variable {P : Program} {w : World} {K : Frag} {mg : Str → Option Value} {base : Heap} {cs fs : Nat → Addr} {L : Addr}
/-- the rule for a def of the second kind -/
theorem funOkG {x qual : Str} {st : Stmt} {f : Addr} {fd : FuncData} {N ps : List Str} {k : Nat} {sp : Sp} (F : Fun K x qual st f fd) (S : FnScope N ps (defScope st)) (len : ∀ vs H Q E, sp vs H Q E → vs.length = ps.length)
    (hbody : ∀ (cdv : Value) (A : Around) (outer : List Env) (s : Shared) (H : Hp) (vs : List V) (Q : VK) (E : XK), (A.deeper (envOfC qual (defScope st) s.heap.objs.size f cdv)).guards = some [] → Room k (A.deeper (envOfC qual (defScope st) s.heap.objs.size f cdv)) → sp vs H Q E →
      ∃ t, PSs (cxOf CX0 P w K mg base N qual (defScope st) f cdv A outer s H E).nox (defBody st) t ∧ t { nx := fun _ H' => Q .non H', rt := Q } (start N vs) H) : FnG P w K mg base CX0 (k + 1) f fd ps sp := by
  obtain ⟨oc, od, kV, doc, pm, an, cdv, ct, osl, rfl, lk, hcd⟩ := F.ex
  refine fnG_of lk hcd S len fun A outer s H vs Q E hg hr hsp => ?_
  obtain ⟨t, h, q⟩ := hbody cdv A outer s H vs Q E hg hr hsp
  exact ⟨t, h.nox, q⟩
abbrev nLaw : List Str := ["script", "m", "turn", "q", "some", "far", "at", "one", "told", "k"]
theorem scLaw : FnScope nLaw ["script"] (defScope sLaw) := ⟨rfl, rfl, rfl, by decide +kernel, rfl, by decide +kernel, by decide +kernel⟩
theorem ok_law {f fB fN fV fK fF : Addr} {fd fdB fdN fdV fdK fdF : FuncData} (F : Fun K "law" "law" sLaw f fd) (T : TL P K mg cs fs L) (B : BltV mg fN)
    (FB : Fun K "_law_begun" "_law_begun" sBegun fB fdB) (bB : Binds K fdB ["script"] []) (gB : mg "_law_begun" = some (.ref fB))
    (FN : Fun K "_law_next" "_law_next" sNext fN fdN) (bN : Binds K fdN ["m", "many"] [])
    (FV : Fun K "_law_value" "_law_value" sValue fV fdV) (bV : Binds K fdV ["m"] []) (gV : mg "_law_value" = some (.ref fV))
    (FK : Fun K "_law_kinds" "_law_kinds" sKinds fK fdK) (bK : Binds K fdK ["one"] []) (gK : mg "_law_kinds" = some (.ref fK))
    (FF : Fun K "_law_field" "_law_field" sField fF fdF) (bF : Binds K fdF ["one"] []) (gF : mg "_law_field" = some (.ref fF)) : FnG P w K mg base CX0 3 f fd ["script"] (spLaw K) := by
  have GB : FnOk P w K mg base CX0 1 fB fdB ["script"] (spBegun K) := ok_begun FB B.toBlt
  have GV : FnOk P w K mg base CX0 2 fV fdV ["m"] (spValue K) := ok_value FV B FN bN
  have GK : FnOk P w K mg base CX0 1 fK fdK ["one"] (spKinds cs) := ok_kinds FK T.tab
  have GF : FnOk P w K mg base CX0 1 fF fdF ["one"] (spField cs) := ok_field FF T.tab
  refine funOkG F scLaw (fun vs H Q E h => ?_) (fun cdv A outer s H vs Q E hg hr h => ?_)
  · obtain ⟨a, ns, rfl, _⟩ := h
    rfl
  · obtain ⟨a, ns, rfl, hS, hlen, k⟩ := h
    have hr1 : Room 1 _ := hr.mono (by decide)
    have nd := scLaw.nd
    refine ⟨_, pss_cons (ps_set (i := 1) nd rfl (Or.inl rfl) (pe_call GB hr1 rfl gB FB.kp bB .nil pass0 (pa_cons (pv 0) pa_nil)))
      (pss_cons (ps_for PassesOwn.never rfl (pi_range1 rfl T.range (pa_cons (pe_op op_add pe_int (pe_callB (call_min2 rfl) (by rfl) T.min (by decide +kernel) (pa_cons (pe_callB call_len_seq (by rfl) B.len PySem.boot_len (pa_cons (pv 0) pa_nil)) (pa_cons pe_int pa_nil)))) pa_nil)) (pg_name (i := 2) nd rfl (Or.inl rfl))
        (pss_cons (ps_set (i := 3) nd rfl (Or.inl rfl) (pe_call GV hr rfl gV FV.kp bV .nil pass0 (pa_cons (pv 1) pa_nil)))
        (pss_cons (ps_set (i := 4) nd rfl (Or.inl rfl) (pe_lst (pa_cons (pe_mk T.x0 hr (T.tab.nm 0 (by decide)) (T.kp 0 (by decide)) (pv 3)) (pa_cons (pe_mk T.x1 hr (T.tab.nm 1 (by decide)) (T.kp 1 (by decide)) (pv 3)) (pa_cons (pe_mk T.x2 hr (T.tab.nm 2 (by decide)) (T.kp 2 (by decide)) (pv 3)) (pa_cons (pe_mk T.x3 hr (T.tab.nm 3 (by decide)) (T.kp 3 (by decide)) (pv 3)) (pa_cons (pe_mk T.x4 hr (T.tab.nm 4 (by decide)) (T.kp 4 (by decide)) (pv 3)) (pa_cons (pe_mk T.x5 hr (T.tab.nm 5 (by decide)) (T.kp 5 (by decide)) (pv 3)) (pa_cons (pe_mk T.x6 hr (T.tab.nm 6 (by decide)) (T.kp 6 (by decide)) (pv 3)) (pa_cons (pe_mk T.x7 hr (T.tab.nm 7 (by decide)) (T.kp 7 (by decide)) (pv 3)) pa_nil))))))))))
        (pss_cons (ps_expr (pe_bm PySem.F.plainAttrs_list PySem.F.slot_list_append PySem.F.type_list_append mt_append (pv 4) (pa_cons (pe_mk T.x8 hr (T.tab.nm 8 (by decide)) (T.kp 8 (by decide)) (pv 3)) pa_nil)))
        (pss_cons (ps_set (i := 5) nd rfl (Or.inl rfl) (pe_lst (pa_cons (pe_mkK T.x0 hr (T.tab.nm 0 (by decide)) (T.kp 0 (by decide)) (pk_cons (pv 3) pk_nil)) (pa_cons (pe_mkK T.x1 hr (T.tab.nm 1 (by decide)) (T.kp 1 (by decide)) (pk_cons (pv 3) pk_nil)) (pa_cons (pe_mkK T.x2 hr (T.tab.nm 2 (by decide)) (T.kp 2 (by decide)) (pk_cons (pv 3) pk_nil)) (pa_cons (pe_mkK T.x3 hr (T.tab.nm 3 (by decide)) (T.kp 3 (by decide)) (pk_cons (pv 3) pk_nil)) (pa_cons (pe_mkK T.x4 hr (T.tab.nm 4 (by decide)) (T.kp 4 (by decide)) (pk_cons (pv 3) pk_nil)) pa_nil)))))))
        (C8.pss_cut (ps_set (i := 5) nd rfl (Or.inl rfl) (pe_op op_cat (pv 5) (pe_lst (pa_cons (pe_mkK T.x5 hr (T.tab.nm 5 (by decide)) (T.kp 5 (by decide)) (pk_cons (pv 3) pk_nil)) (pa_cons (pe_mkK T.x6 hr (T.tab.nm 6 (by decide)) (T.kp 6 (by decide)) (pk_cons (pv 3) pk_nil)) (pa_cons (pe_mkK T.x7 hr (T.tab.nm 7 (by decide)) (T.kp 7 (by decide)) (pk_cons (pv 3) pk_nil)) (pa_cons (pe_mkK T.x8 hr (T.tab.nm 8 (by decide)) (T.kp 8 (by decide)) (pk_cons (pv 3) pk_nil)) pa_nil)))))))
        (pss_one (ps_for PassesOwn.never rfl (pi_enum (by rfl) T.enum (pa_cons (pv 4) pa_nil)) (pg_tup rfl (pgs_cons (pg_name (i := 6) nd rfl (Or.inr rfl)) (pgs_cons (pg_name (i := 7) nd rfl (Or.inl rfl)) pgs_nil)))
          (pss_cons (ps_if (PW.pt (pw_or (pt_cmpR op_ne (pe_callB (call_repr hg hr) (by rfl) T.repr (by decide +kernel) (pa_cons (pe_call GF hr1 rfl gF FF.kp bF .nil pass0 (pa_cons (pv 7) pa_nil)) pa_nil)) (pe_callB (call_repr hg hr) (by rfl) T.repr (by decide +kernel) (pa_cons (pv 3) pa_nil)) (nomark _)) (pw_or1 (pt_cmpR op_ne (pe_callB (call_repr hg hr) (by rfl) T.repr (by decide +kernel) (pa_cons (pe_call GF hr1 rfl gF FF.kp bF .nil pass0 (pa_cons (pe_ix ix_list (pv 5) (pv 6) (fun _ _ => rfl)) pa_nil)) pa_nil)) (pe_callB (call_repr hg hr) (by rfl) T.repr (by decide +kernel) (pa_cons (pv 3) pa_nil)) (nomark _))))) (pss_one (ps_ret pe_bl)) pss_nil)
            (pss_cons (ps_if (PW.pt (pw_or (pt_cmpR (op_neD hr.units) (pe_call GK hr1 rfl gK FK.kp bK .nil pass0 (pa_cons (pv 7) pa_nil)) (pe_lc (own := [("k", 9)]) (g := gName 9) (tt := tYes) rfl nd (pi_range1 rfl T.range (pa_cons pe_int pa_nil)) (blkOk_by (own := [("k", 9)]) (N := nLaw) (sc := defScope sLaw) (by decide +kernel)) (fun _ _ _ _ _ => pg_name (i := 9) nd rfl (Or.inl rfl)) (fun _ _ _ _ _ => pts_nil) (fun _ _ _ _ _ => pe_cmpR op_eq (pv 9) (pv 6) (nomark _))) (nomark _)) (pw_or1 (pt_cmpR (op_neD hr.units) (pe_call GK hr1 rfl gK FK.kp bK .nil pass0 (pa_cons (pe_ix ix_list (pv 5) (pv 6) (fun _ _ => rfl)) pa_nil)) (pe_call GK hr1 rfl gK FK.kp bK .nil pass0 (pa_cons (pv 7) pa_nil)) (nomark _))))) (pss_one (ps_ret pe_bl)) pss_nil)
            (pss_cons (ps_set (i := 8) nd rfl (Or.inl rfl) (pe_lst (pa_cons (pe_callB call_isx (by rfl) T.tab.isi (by decide +kernel) (pa_cons (pv 7) (pa_cons (pe_glob (by rfl) T.tab.gl (v := .ref L) rfl) pa_nil))) (pa_cons (pe_callB call_isx (by rfl) T.tab.isi (by decide +kernel) (pa_cons (pv 7) (pa_cons (pe_bltn (v := .ty "ValueError") (by rfl) T.ve (by decide +kernel) rfl) pa_nil))) (pa_cons (pe_callB call_isx (by rfl) T.tab.isi (by decide +kernel) (pa_cons (pv 7) (pa_cons (pe_bltn (v := .ty "LookupError") (by rfl) T.lu (by decide +kernel) rfl) pa_nil))) pa_nil)))))
            (pss_one (ps_if (pt_cmpR (op_neD hr.units) (pe_op op_cat (pv 8) (pe_lst (pa_cons (pe_callB call_isxT (by rfl) T.tab.isi (by decide +kernel) (pa_cons (pv 7) (pa_cons (pe_tup (pa_cons (pe_bltn (v := .ty "KeyError") (by rfl) T.ke (by decide +kernel) rfl) (pa_cons (pe_bltn (v := .ty "IndexError") (by rfl) T.ie (by decide +kernel) rfl) pa_nil))) pa_nil))) pa_nil))) (pe_lst (pa_cons (pe_cmpR op_lt (pv 6) pe_int (nomark _)) (pa_cons (pe_cmpR op_lt (pv 6) pe_int (nomark _)) (pa_cons (pe_cmpR op_gt (pv 6) pe_int (nomark _)) (pa_cons pe_bl pa_nil))))) (nomark _)) (pss_one (ps_ret pe_bl)) pss_nil)))))))))))))
      (pss_one (ps_ret (pe_callB call_isx (by rfl) T.tab.isi (by decide +kernel) (pa_cons (pe_mk0 PySem.F.excBase_ValueError T.li T.le T.tab.gl T.lk) (pa_cons (pe_bltn (v := .ty "ValueError") (by rfl) T.ve (by decide +kernel) rfl) pa_nil)))))), ?_⟩
    refine ⟨_, rfl, a, ns, rfl, hS, hlen, fun m H0 M0 => ?_⟩
    have lenN : ((ns.map V.int).length : Int) = ns.length := by rw [List.length_map]
    refine ⟨_, rfl, a, _, rfl, .inl (M0.sub.seq hS), _, _, rfl, _, _, rfl, rfl, _, rfl, by split <;> omega, by split <;> omega, for_range (lo := 0) (n := _) (fun i σ H' => (∃ x2 x3 x4 x5 x6 x7 x8 x9 : Option V, σ = [some (.ref a), some (.ref m), x2, x3, x4, x5, x6, x7, x8, x9]) ∧ MS H' H m i) ⟨⟨_, _, _, _, _, _, _, _, rfl⟩, M0⟩ ?_ ?_⟩
    · rintro i σ1 H1 hi ⟨⟨x2, x3, x4, x5, x6, x7, x8, x9, rfl⟩, M1⟩
      have hi8 : i < 8 := by
        revert hi
        split <;> omega
      refine ⟨_, rfl, H, m, i, rfl, M1, by omega, fun q d H2 G2 sG M2 hq => ?_⟩
      refine ⟨_, rfl, fun a0 d0 ha0 hd0 ne0 => ⟨_, rfl, fun a1 d1 ha1 hd1 ne1 => ⟨_, rfl, fun a2 d2 ha2 hd2 ne2 => ⟨_, rfl, fun a3 d3 ha3 hd3 ne3 => ⟨_, rfl, fun a4 d4 ha4 hd4 ne4 => ⟨_, rfl, fun a5 d5 ha5 hd5 ne5 => ⟨_, rfl, fun a6 d6 ha6 hd6 ne6 => ⟨_, rfl, fun a7 d7 ha7 hd7 ne7 => ⟨by show 8 ≤ sizeLine; decide, fun s hs => ?_⟩⟩⟩⟩⟩⟩⟩⟩⟩
      obtain ⟨MA0, SA0, XA0⟩ := stepX (cs := cs) (i := 0) (v := q) M2 ha0 hd0 ne0 rfl
      obtain ⟨MA1, SA1, XA1⟩ := stepX (cs := cs) (i := 1) (v := q) MA0 ha1 hd1 ne1 rfl
      obtain ⟨MA2, SA2, XA2⟩ := stepX (cs := cs) (i := 2) (v := q) MA1 ha2 hd2 ne2 rfl
      obtain ⟨MA3, SA3, XA3⟩ := stepX (cs := cs) (i := 3) (v := q) MA2 ha3 hd3 ne3 rfl
      obtain ⟨MA4, SA4, XA4⟩ := stepX (cs := cs) (i := 4) (v := q) MA3 ha4 hd4 ne4 rfl
      obtain ⟨MA5, SA5, XA5⟩ := stepX (cs := cs) (i := 5) (v := q) MA4 ha5 hd5 ne5 rfl
      obtain ⟨MA6, SA6, XA6⟩ := stepX (cs := cs) (i := 6) (v := q) MA5 ha6 hd6 ne6 rfl
      obtain ⟨MA7, SA7, XA7⟩ := stepX (cs := cs) (i := 7) (v := q) MA6 ha7 hd7 ne7 rfl
      have MS0 := MA7.new (o := .lst [.ref a0, .ref a1, .ref a2, .ref a3, .ref a4, .ref a5, .ref a6, .ref a7]) hs
      have SS := sameNew (o := .lst [.ref a0, .ref a1, .ref a2, .ref a3, .ref a4, .ref a5, .ref a6, .ref a7]) (Same.refl _) hs
      refine ⟨_, rfl, .inl ⟨rfl, _, SqL.of upd_same⟩, _, rfl, fun a8 d8 ha8 hd8 ne8 => ?_⟩
      obtain ⟨MA8, SA8, XA8⟩ := stepX (cs := cs) (i := 8) (v := q) MS0 ha8 hd8 ne8 rfl
      have hL8 := SA8 s _ upd_same
      refine ⟨s, _, _, rfl, rfl, hL8, by show 8 < sizeLine; decide, ?_⟩
      have MP := MA8.put (o := .lst ([.ref a0, .ref a1, .ref a2, .ref a3, .ref a4, .ref a5, .ref a6, .ref a7] ++ [.ref a8])) (upd_same)
      have TA8 := SS.trans SA8
      have TA7 := SA7.trans TA8
      have TA6 := SA6.trans TA7
      have TA5 := SA5.trans TA6
      have TA4 := SA4.trans TA5
      have TA3 := SA3.trans TA4
      have TA2 := SA2.trans TA3
      have TA1 := SA1.trans TA2
      have TQ := SA0.trans TA1
      have YA0 := (XA0.keep TA1).put (o := .lst ([.ref a0, .ref a1, .ref a2, .ref a3, .ref a4, .ref a5, .ref a6, .ref a7] ++ [.ref a8])) hL8
      have YA1 := (XA1.keep TA2).put (o := .lst ([.ref a0, .ref a1, .ref a2, .ref a3, .ref a4, .ref a5, .ref a6, .ref a7] ++ [.ref a8])) hL8
      have YA2 := (XA2.keep TA3).put (o := .lst ([.ref a0, .ref a1, .ref a2, .ref a3, .ref a4, .ref a5, .ref a6, .ref a7] ++ [.ref a8])) hL8
      have YA3 := (XA3.keep TA4).put (o := .lst ([.ref a0, .ref a1, .ref a2, .ref a3, .ref a4, .ref a5, .ref a6, .ref a7] ++ [.ref a8])) hL8
      have YA4 := (XA4.keep TA5).put (o := .lst ([.ref a0, .ref a1, .ref a2, .ref a3, .ref a4, .ref a5, .ref a6, .ref a7] ++ [.ref a8])) hL8
      have YA5 := (XA5.keep TA6).put (o := .lst ([.ref a0, .ref a1, .ref a2, .ref a3, .ref a4, .ref a5, .ref a6, .ref a7] ++ [.ref a8])) hL8
      have YA6 := (XA6.keep TA7).put (o := .lst ([.ref a0, .ref a1, .ref a2, .ref a3, .ref a4, .ref a5, .ref a6, .ref a7] ++ [.ref a8])) hL8
      have YA7 := (XA7.keep TA8).put (o := .lst ([.ref a0, .ref a1, .ref a2, .ref a3, .ref a4, .ref a5, .ref a6, .ref a7] ++ [.ref a8])) hL8
      have YA8 := XA8.put (o := .lst ([.ref a0, .ref a1, .ref a2, .ref a3, .ref a4, .ref a5, .ref a6, .ref a7] ++ [.ref a8])) hL8
      refine ⟨_, rfl, _, rfl, fun b0 e0 hb0 he0 nf0 => ⟨_, rfl, _, rfl, fun b1 e1 hb1 he1 nf1 => ⟨_, rfl, _, rfl, fun b2 e2 hb2 he2 nf2 => ⟨_, rfl, _, rfl, fun b3 e3 hb3 he3 nf3 => ⟨_, rfl, _, rfl, fun b4 e4 hb4 he4 nf4 => ⟨by show 5 ≤ sizeLine; decide, fun f5 hf5 => ?_⟩⟩⟩⟩⟩⟩
      obtain ⟨MB0, SB0, XB0⟩ := stepX (cs := cs) (i := 0) (v := q) MP hb0 he0 nf0 rfl
      obtain ⟨MB1, SB1, XB1⟩ := stepX (cs := cs) (i := 1) (v := q) MB0 hb1 he1 nf1 rfl
      obtain ⟨MB2, SB2, XB2⟩ := stepX (cs := cs) (i := 2) (v := q) MB1 hb2 he2 nf2 rfl
      obtain ⟨MB3, SB3, XB3⟩ := stepX (cs := cs) (i := 3) (v := q) MB2 hb3 he3 nf3 rfl
      obtain ⟨MB4, SB4, XB4⟩ := stepX (cs := cs) (i := 4) (v := q) MB3 hb4 he4 nf4 rfl
      have S5 := sameNew (o := .lst [.ref b0, .ref b1, .ref b2, .ref b3, .ref b4]) (Same.refl _) hf5
      have M5 := MB4.keep S5
      have g0 : G2 s = none := MA7.sub.free hs
      have SG : Same G2 (upd (upd G2 s (.lst [.ref a0, .ref a1, .ref a2, .ref a3, .ref a4, .ref a5, .ref a6, .ref a7])) s (.lst ([.ref a0, .ref a1, .ref a2, .ref a3, .ref a4, .ref a5, .ref a6, .ref a7] ++ [.ref a8]))) := samePut (sameNew (Same.refl _) g0) g0
      refine ⟨fun σ' H' => ∃ (fr : Addr) (GG : Hp) (as bs : Nat → Addr), σ' = [some (.ref a), some (.ref m), some (.int (0 + (i : Int))), some q, some (.ref s), some (.ref fr), x6, x7, x8, x9] ∧ Same H GG ∧ IF9 K cs H' GG m s fr (i + 1) as bs q d, ?_, ?_⟩
      rotate_left
      · rintro σ2 HF ⟨fr, GG, as, bs, rfl, sH, IH⟩
        clear MP MB0 MB1 MB2 MB3 MB4 M5
        clear MA0 MA1 MA2 MA3 MA4 MA5 MA6 MA7 MA8
        refine ⟨_, rfl, s, _, rfl, SqL.of IH.hs, for_it walk_enum (fun j σ' H' => (∃ y6 y7 y8 y9 : Option V, σ' = [some (.ref a), some (.ref m), some (.int (0 + (i : Int))), some q, some (.ref s), some (.ref fr), y6, y7, y8, y9]) ∧ IF9 K cs H' GG m s fr (i + 1) as bs q d) ⟨⟨_, _, _, _, rfl⟩, IH⟩ (fun j σ' H' _ P => SqL.of P.2.hs) ?_ ?_⟩
        · rintro j x σ' H' H'' hj ⟨⟨y6, y7, y8, y9, rfl⟩, I⟩ ⟨Tp, z1, z2, rfl, hT, rfl, z3, z4⟩
          have hj9 : j < 9 := by simpa using hj
          cases z3
          obtain rfl : z2 = .ref (as j) := by
            have z4 : ((List.range 9).map fun i => V.ref (as i))[j]? = some z2 := z4
            rw [List.getElem?_map, List.getElem?_range hj9] at z4
            exact (Option.some.inj z4).symm
          have I1 := I.keep (sameNew (o := .tup [.int (j : Nat), .ref (as j)]) (Same.refl _) hT)
          have far : ((List.range 9).map fun i => V.ref (bs i))[j]? = some (.ref (bs j)) := by
            rw [List.getElem?_map, List.getElem?_range hj9]
            rfl
          have same : (!decide (V.str d.shown = V.str d.shown)) = false := by simp
          refine ⟨Tp, _, rfl, SqT.of upd_same, rfl, _, _, rfl, _, _, rfl, rfl, ?_⟩
          refine ⟨_, rfl, as j, j, q, rfl, hj9, I1.xa j hj9, fun H3 s3 => ⟨q, d, rfl, (I1.keep s3).dz, hq.show_, hq.sys, hq.deep, hq.size, _, rfl, q, d, rfl, (I1.keep s3).dz, hq.show_, hq.sys, hq.deep, hq.size, rfl, _, rfl, ?_⟩⟩
          have I3 := I1.keep s3
          rw [same]
          refine iteF ?_
          refine ⟨_, rfl, _, rfl, fr, _, _, _, rfl, rfl, SqL.of I3.hf, atI_nat far, bs j, j, q, rfl, hj9, I3.xb j hj9, fun H4 s4 => ⟨q, d, rfl, (I3.keep s4).dz, hq.show_, hq.sys, hq.deep, hq.size, _, rfl, q, d, rfl, (I3.keep s4).dz, hq.show_, hq.sys, hq.deep, hq.size, rfl, _, rfl, ?_⟩⟩
          have I4 := I3.keep s4
          rw [same]
          refine iteF ?_
          refine ⟨_, rfl, as j, j, q, rfl, hj9, I4.xa j hj9, fun p1 H5 s5 _ e5 => ?_⟩
          have I5 := I4.keep s5
          refine ⟨9, rfl, by decide, by decide, fun D hD => lc_range (lo := 0) (n := 9) (fun r H' => H' = upd H5 D (.lst ((List.range r).map fun c => V.bl (decide (j = c))))) rfl ?_ ?_⟩
          · rintro r H' hr9 rfl
            refine ⟨rfl, ?_⟩
            unfold tYes
            refine iteT ?_
            refine ⟨_, rfl, _, rfl, rfl, _, upd_same, ?_, ?_⟩
            · rw [List.length_map, List.length_range]
              exact small1000 (by omega)
            · have e : decide (V.int (0 + (r : Int)) = V.int (j : Nat)) = decide (j = r) := by
                refine decide_eq_decide.mpr ⟨fun z => ?_, fun z => ?_⟩
                · have := V.int.inj z
                  omega
                · rw [z]
                  simp
              rw [upd_upd, List.range_succ, List.map_append, e]
              rfl
          · rintro H' rfl
            have n1 : p1 ≠ D := ne_of_none e5 hD
            have s6 := sameNew (o := .lst ((List.range 9).map fun c => V.bl (decide (j = c)))) (Same.refl H5) hD
            have I6 := I5.keep s6
            refine ⟨_, _, .lst (SqL.of (xs := ((List.range 9).map fun c => decide (j = c)).map V.bl) (s6 _ _ e5)) (dpBools _), .lst (SqL.of (xs := ((List.range 9).map fun c => decide (j = c)).map V.bl) upd_same) (dpBools _), shapeBools _, shapeBools _, _, rfl, ?_⟩
            rw [eqvBools]
            refine iteF ?_
            refine ⟨_, rfl, _, rfl, fr, _, _, _, rfl, rfl, SqL.of I6.hf, atI_nat far, bs j, j, q, rfl, hj9, I6.xb j hj9, fun p2 H7 s7 _ e7 => ⟨_, rfl, as j, j, q, rfl, hj9, (I6.keep s7).xa j hj9, fun p3 H8 s8 _ e8 =>
              ⟨_, _, .lst (SqL.of (xs := ((List.range 9).map fun c => decide (j = c)).map V.bl) (s8 _ _ e7)) (dpBools _), .lst (SqL.of (xs := ((List.range 9).map fun c => decide (j = c)).map V.bl) e8) (dpBools _), shapeBools _, shapeBools _, _, rfl, ?_⟩⟩⟩
            have I8 := (I6.keep s7).keep s8
            rw [eqvBools]
            refine iteF ?_
            obtain ⟨dd, g1, gx⟩ := (I8.xa j hj9).raw
            refine ⟨_, rfl, as j, cs j, some dd, _, _, _, rfl, g1, gx, T.tab.xi j hj9, .own _, T.tab.le j hj9, _, rfl, as j, cs j, some dd, _, _, _, rfl, g1, gx, T.tab.xi j hj9, .ty _, T.tab.ve j hj9, _, rfl, as j, cs j, some dd, _, _, _, rfl, g1, gx, T.tab.xi j hj9, .ty _, T.tab.lk j hj9, by show 3 ≤ sizeLine; decide, fun t1 ht1 => ?_⟩
            have s9 := sameNew (o := .lst [.bl (decide (j < 7)), .bl (decide (j < 7)), .bl (decide (6 < j))]) (Same.refl H8) ht1
            refine ⟨_, rfl, _, rfl, by show 2 ≤ sizeLine; decide, fun u hu => ?_⟩
            have s10 := s9.trans (sameNew (o := .tup [.ty "KeyError", .ty "IndexError"]) (Same.refl _) hu)
            obtain ⟨dd2, g2, gx2⟩ := ((I8.keep s10).xa j hj9).raw
            have ka : PySem.W.kitAny K (.ref (cs j)) [.type "KeyError", .type "IndexError"] = some false := by
              unfold PySem.W.kitAny
              rw [T.tab.ke j hj9]
              show PySem.W.kitAny K (.ref (cs j)) [.type "IndexError"] = _
              unfold PySem.W.kitAny
              rw [T.tab.ie j hj9]
              rfl
            refine ⟨as j, cs j, some dd2, u, _, _, _, rfl, g2, gx2, T.tab.xi j hj9, upd_same, .cons (.ty _) (.cons (.ty _) .nil), ka, by show 1 ≤ sizeLine; decide, fun t2 ht2 => ?_⟩
            have s11 := sameNew (o := .lst [.bl false]) (Same.refl _) ht2
            refine ⟨t1, t2, _, _, rfl, rfl, s11 _ _ (sameNew (o := .tup [.ty "KeyError", .ty "IndexError"]) (Same.refl _) hu t1 _ upd_same), upd_same, by show 4 ≤ sizeLine; decide, fun t3 ht3 => ?_⟩
            have s12 := sameNew (o := .lst ([.bl (decide (j < 7)), .bl (decide (j < 7)), .bl (decide (6 < j))] ++ [.bl false])) (Same.refl _) ht3
            refine ⟨_, rfl, _, _, rfl, rfl, _, rfl, _, _, rfl, rfl, _, rfl, _, _, rfl, rfl, by show 4 ≤ sizeLine; decide, fun t4 ht4 => ?_⟩
            have s13 := sameNew (o := .lst [.bl (decide ((j : Int) < 7)), .bl (decide ((j : Int) < 7)), .bl (decide (6 < (j : Int))), .bl false]) (Same.refl _) ht4
            refine ⟨_, _, .lst (SqL.of (xs := [decide (j < 7), decide (j < 7), decide (6 < j), false].map V.bl) (s13 _ _ upd_same)) (dpBools _), .lst (SqL.of (xs := [decide ((j : Int) < 7), decide ((j : Int) < 7), decide (6 < (j : Int)), false].map V.bl) upd_same) (dpBools _), shapeBools _, shapeBools _, _, rfl, ?_⟩
            have c1 : decide ((j : Int) < 7) = decide (j < 7) := decide_eq_decide.mpr (by omega)
            have c2 : decide (6 < (j : Int)) = decide (6 < j) := decide_eq_decide.mpr (by omega)
            rw [c1, c2, eqvBools]
            exact iteF ⟨⟨_, _, _, _, rfl⟩, (I8.keep s10).keep (s11.trans (s12.trans s13))⟩
        · rintro σ' H' ⟨⟨y6, y7, y8, y9, rfl⟩, I⟩
          exact ⟨⟨_, _, _, _, _, _, _, _, rfl⟩, I.ms.less sH⟩
      refine ⟨_, rfl, _, rfl, _, rfl, fun b5 e5 hb5 he5 nf5 => ⟨_, rfl, _, rfl, fun b6 e6 hb6 he6 nf6 => ⟨_, rfl, _, rfl, fun b7 e7 hb7 he7 nf7 => ⟨_, rfl, _, rfl, fun b8 e8 hb8 he8 nf8 => ⟨by show 4 ≤ sizeLine; decide, fun f4 hf4 => ?_⟩⟩⟩⟩⟩
      obtain ⟨MB5, SB5, XB5⟩ := stepX (cs := cs) (i := 5) (v := q) M5 hb5 he5 nf5 rfl
      obtain ⟨MB6, SB6, XB6⟩ := stepX (cs := cs) (i := 6) (v := q) MB5 hb6 he6 nf6 rfl
      obtain ⟨MB7, SB7, XB7⟩ := stepX (cs := cs) (i := 7) (v := q) MB6 hb7 he7 nf7 rfl
      obtain ⟨MB8, SB8, XB8⟩ := stepX (cs := cs) (i := 8) (v := q) MB7 hb8 he8 nf8 rfl
      have S4 := sameNew (o := .lst [.ref b5, .ref b6, .ref b7, .ref b8]) (Same.refl _) hf4
      have M4 := MB8.keep S4
      have U5 := SB5.trans (SB6.trans (SB7.trans (SB8.trans S4)))
      refine ⟨f5, f4, _, _, rfl, rfl, U5 f5 _ upd_same, upd_same, by show 9 ≤ sizeLine; decide, fun fr hfr => ?_⟩
      have S9 := sameNew (o := .lst ([.ref b0, .ref b1, .ref b2, .ref b3, .ref b4] ++ [.ref b5, .ref b6, .ref b7, .ref b8])) (Same.refl _) hfr
      have V8 := S4.trans S9
      have V7 := SB8.trans V8
      have V6 := SB7.trans V7
      have V5 := SB6.trans V6
      have V4 := S5.trans (SB5.trans V5)
      have V3 := SB4.trans V4
      have V2 := SB3.trans V3
      have V1 := SB2.trans V2
      have V0 := SB1.trans V1
      have VV := SB0.trans V0
      have MF := M4.keep S9
      refine ⟨fr, _, pick a0 a1 a2 a3 a4 a5 a6 a7 a8, pick b0 b1 b2 b3 b4 b5 b6 b7 b8, rfl, sG.trans SG, MF, VV s _ upd_same, upd_same, fun j hj => ?_, fun j hj => ?_, Dz.keep VV d q (Dz.keep MP.sub d q (Dz.keep SG d q hq.at_))⟩
      · have j9 : j = 0 ∨ j = 1 ∨ j = 2 ∨ j = 3 ∨ j = 4 ∨ j = 5 ∨ j = 6 ∨ j = 7 ∨ j = 8 := by omega
        rcases j9 with rfl | rfl | rfl | rfl | rfl | rfl | rfl | rfl | rfl
        · exact YA0.keep VV
        · exact YA1.keep VV
        · exact YA2.keep VV
        · exact YA3.keep VV
        · exact YA4.keep VV
        · exact YA5.keep VV
        · exact YA6.keep VV
        · exact YA7.keep VV
        · exact YA8.keep VV
      · have j9 : j = 0 ∨ j = 1 ∨ j = 2 ∨ j = 3 ∨ j = 4 ∨ j = 5 ∨ j = 6 ∨ j = 7 ∨ j = 8 := by omega
        rcases j9 with rfl | rfl | rfl | rfl | rfl | rfl | rfl | rfl | rfl
        · exact XB0.keep V0
        · exact XB1.keep V1
        · exact XB2.keep V2
        · exact XB3.keep V3
        · exact XB4.keep V4
        · exact XB5.keep V5
        · exact XB6.keep V6
        · exact XB7.keep V7
        · exact XB8.keep V8
    · rintro σ1 H1 ⟨⟨x2, x3, x4, x5, x6, x7, x8, x9, rfl⟩, M1⟩
      refine fun e he => ⟨e, L, none, _, _, _, rfl, upd_same, (fun dx z => by cases z), T.tab.lx, .ty _, T.tab.lv, k _⟩
end
end Fx

set_option maxRecDepth 100000
set_option maxHeartbeats 4000000
namespace Fx
open PySem PySem.Spec PyProof.Rows L2
open PySem.W (Frag)
/-- all that is asked of one class -/
structure CF (prog : Program) (K : Frag) (mg : Str → Option Value) (B nw ini : String) (bmB : List Value) (C f : Addr) (fld nm : Str) : Prop where
  xt : XT prog K mg B nw ini bmB C f fld
  xi : XI K C
  kp : PySem.W.keepIn K (.ref C) = true
  no : PySem.W.findIn K (.ref C) fld = some none
  gl : mg nm = some (.ref C)
theorem cf_mk {prog : Program} {K : Frag} {h : Heap} {mg : Str → Option Value} {B nw ini : String} {bmB : List Value} {C f : Addr} {fld nm : Str} (X : K.In h) (G : h.Ns mainGlobals mg)
    (FB : ExcBaseFacts B nw ini bmB) (KF : PySem.W.KxsFacts B ini) (SF : StoreFacts B bmB "object.__setattr__" "object") (hf : Fld fld)
    {oc doc pm ct : Value} {od an : Option Addr} {osl : Array (Option Value)} {cda cc : Addr} {qual msg : Str} {p1 p2 q1 q2 q3 q4 q5 q6 q7 q8 q9 q10 : Pos}
    {ccl cl : Value} {cdd cld : Option Addr} {vs : Array Value} {ccs csl : Array (Option Value)} {file : Str} {tf : Tok}
    (aC : PySem.W.nsIn K mainGlobals nm = some (some (.ref C)))
    (exi : PySem.W.excInitIn K C bmB nw = true) (over : PySem.W.excOver K C bmB = true)
    (sa : PySem.W.findIn K (.ref C) "__setattr__" = some (some (.builtin "object.__setattr__")))
    (tk : PySem.W.takerIn K C fld = some none) (hd : PySem.W.hasDictIn K C = true)
    (iC : PySem.W.findIn K (.ref C) "__init__" = some (some (.ref f))) (iF : PySem.W.isFn K (.ref f) = true)
    (op : PySem.W.nsIn K cStatics "thirdparty.any" = some none)
    (su : PySem.W.ks_superIn K C C "__init__" = some (some (.builtin ini)))
    (sB : PySem.W.subIn K (.ref C) (.type B) = some true) (mr : PySem.W.mroIn K C (.ref C) = some true)
    (gs : PySem.W.nsIn K mainGlobals "super" = some none) (top : (prog.main.scope.names.lookup ("super" : Str)).isSome = false)
    (lf : K.lookup f = some ⟨oc, od, .func (PySem.W.ksFn "__init__" qual (xArgs fld p1 p2) (xBody fld msg q1 q2 q3 q4 q5 q6 q7 q8 q9 q10) (xScope fld) .none .none doc pm an (.ref cda) ct cc), osl⟩)
    (cf : PySem.W.codeIn K (.ref cda) qual = true)
    (lc : K.lookup cda = some ⟨ccl, cdd, .fields vs, ccs⟩) (v2 : vs[2]? = some (.str file tf)) (fi : ((prog.main.file : Str) == file) = true)
    (lx : K.lookup cc = some ⟨cl, cld, .cell (some (.ref C)), csl⟩) (ln : (q3.endLine == q5.line) = true)
    (ga : PySem.W.findIn K (.ref C) "__getattribute__" = some (some (.builtin "BaseException.__getattribute__"))) (gg : PySem.W.findIn K (.ref C) "__getattr__" = some none)
    (sb : PySem.W.subIn K (.ref C) (.type "BaseException") = some true) (kl : PySem.W.findIn K (.ref C) "__class__" = some (some (.builtin "object.__class__")))
    (sp : PySem.W.specialIn K (.builtin "object.__class__") "__get__" = some (some (.builtin "getset_descriptor.__get__"))) (tg : PySem.W.takesIn K (.builtin "object.__class__") = some true)
    (mo : PySem.W.mroIn K C (.type "object") = some true) (kp : PySem.W.keepIn K (.ref C) = true) (no : PySem.W.findIn K (.ref C) fld = some none) : CF prog K mg B nw ini bmB C f fld nm :=
  ⟨⟨FB, KF, SF, hf, exi, over, sa, tk, hd, iC, iF, op, su, sB, mr, PySem.W.mg_none_of X G gs, top, ⟨_, _, _, _, _, _, _, _, _, _, _, _, _, _, _, _, _, _, _, _, _, _, _, lf, cf, ⟨_, _, _, _, _, _, lc, v2, fi⟩, ⟨_, _, _, lx⟩, ln⟩⟩,
    ⟨ga, gg, sb, hd, kl, sp, tg, mo⟩, kp, no, PySem.W.mg_of X G aC⟩
/-- what isinstance tells of the class at C, the i-th -/
structure KR (K : Frag) (C L : Addr) (c0 c1 c2 c3 c4 c5 c6 c7 c8 : Addr) (i : Nat) : Prop where
  k0 : PySem.W.kitOne K (.ref C) (.ref c0) = some (decide (i = 0))
  k1 : PySem.W.kitOne K (.ref C) (.ref c1) = some (decide (i = 1))
  k2 : PySem.W.kitOne K (.ref C) (.ref c2) = some (decide (i = 2))
  k3 : PySem.W.kitOne K (.ref C) (.ref c3) = some (decide (i = 3))
  k4 : PySem.W.kitOne K (.ref C) (.ref c4) = some (decide (i = 4))
  k5 : PySem.W.kitOne K (.ref C) (.ref c5) = some (decide (i = 5))
  k6 : PySem.W.kitOne K (.ref C) (.ref c6) = some (decide (i = 6))
  k7 : PySem.W.kitOne K (.ref C) (.ref c7) = some (decide (i = 7))
  k8 : PySem.W.kitOne K (.ref C) (.ref c8) = some (decide (i = 8))
  kl : PySem.W.kitOne K (.ref C) (.ref L) = some (decide (i < 7))
  kv : PySem.W.kitOne K (.ref C) (.type "ValueError") = some (decide (i < 7))
  ku : PySem.W.kitOne K (.ref C) (.type "LookupError") = some (decide (6 < i))
  kk : PySem.W.kitOne K (.ref C) (.type "KeyError") = some false
  ki : PySem.W.kitOne K (.ref C) (.type "IndexError") = some false
theorem nine {i : Nat} (h : i < 9) : i = 0 ∨ i = 1 ∨ i = 2 ∨ i = 3 ∨ i = 4 ∨ i = 5 ∨ i = 6 ∨ i = 7 ∨ i = 8 := by omega

theorem all_mk {P : Program} {w : World} {K : Frag} {h : Heap} {mg : Str → Option Value} (X : K.In h) (G : h.Ns mainGlobals mg) {fa : Addr} (hfa : mg "law" = some (.ref fa))
    {C0 C1 C2 C3 C4 C5 C6 C7 C8 g0 g1 g2 g3 g4 g5 g6 g7 g8 L : Addr}
    (x0 : CF P K mg "ValueError" "ValueError.__new__" "ValueError.__init__" veMro C0 g0 "place" "BadCode")
    (x1 : CF P K mg "ValueError" "ValueError.__new__" "ValueError.__init__" veMro C1 g1 "value" "BadLot")
    (x2 : CF P K mg "ValueError" "ValueError.__new__" "ValueError.__init__" veMro C2 g2 "value" "BadLoop")
    (x3 : CF P K mg "ValueError" "ValueError.__new__" "ValueError.__init__" veMro C3 g3 "value" "BadRun")
    (x4 : CF P K mg "ValueError" "ValueError.__new__" "ValueError.__init__" veMro C4 g4 "value" "BadNumber")
    (x5 : CF P K mg "ValueError" "ValueError.__new__" "ValueError.__init__" veMro C5 g5 "place" "BadPaper")
    (x6 : CF P K mg "ValueError" "ValueError.__new__" "ValueError.__init__" veMro C6 g6 "line" "BadText")
    (x7 : CF P K mg "LookupError" "LookupError.__new__" "LookupError.__init__" lkMro C7 g7 "paper" "SeveralDoors")
    (x8 : CF P K mg "LookupError" "LookupError.__new__" "LookupError.__init__" lkMro C8 g8 "loop" "NoCut")
    (aL : PySem.W.nsIn K mainGlobals "LoopError" = some (some (.ref L))) (Li : PySem.W.findIn K (.ref L) "__init__" = some (some (.builtin "ValueError.__init__"))) (Le : PySem.W.excInitIn K L veMro "ValueError.__new__" = true) (Lk : PySem.W.keepIn K (.ref L) = true)
    (Lga : PySem.W.findIn K (.ref L) "__getattribute__" = some (some (.builtin "BaseException.__getattribute__"))) (Lgg : PySem.W.findIn K (.ref L) "__getattr__" = some none)
    (Lsb : PySem.W.subIn K (.ref L) (.type "BaseException") = some true) (Lhd : PySem.W.hasDictIn K L = true) (Lkl : PySem.W.findIn K (.ref L) "__class__" = some (some (.builtin "object.__class__")))
    (Lmo : PySem.W.mroIn K L (.type "object") = some true) (Llv : PySem.W.kitOne K (.ref L) (.type "ValueError") = some true)
    (r0 : KR K C0 L C0 C1 C2 C3 C4 C5 C6 C7 C8 0)
    (r1 : KR K C1 L C0 C1 C2 C3 C4 C5 C6 C7 C8 1)
    (r2 : KR K C2 L C0 C1 C2 C3 C4 C5 C6 C7 C8 2)
    (r3 : KR K C3 L C0 C1 C2 C3 C4 C5 C6 C7 C8 3)
    (r4 : KR K C4 L C0 C1 C2 C3 C4 C5 C6 C7 C8 4)
    (r5 : KR K C5 L C0 C1 C2 C3 C4 C5 C6 C7 C8 5)
    (r6 : KR K C6 L C0 C1 C2 C3 C4 C5 C6 C7 C8 6)
    (r7 : KR K C7 L C0 C1 C2 C3 C4 C5 C6 C7 C8 7)
    (r8 : KR K C8 L C0 C1 C2 C3 C4 C5 C6 C7 C8 8)
    {f0 f1 f2 f3 f4 f5 : Addr} {od0 an0 od1 an1 od2 an2 od3 an3 od4 an4 od5 an5 : Option Addr} {sl0 sl1 sl2 sl3 sl4 sl5 : Array (Option Value)} {oc0 kV0 dc0 pm0 cd0 ct0 oc1 kV1 dc1 pm1 cd1 ct1 oc2 kV2 dc2 pm2 cd2 ct2 oc3 kV3 dc3 pm3 cd3 ct3 oc4 kV4 dc4 pm4 cd4 ct4 oc5 kV5 dc5 pm5 cd5 ct5 : Value}
    (a0 : PySem.W.nsIn K mainGlobals "_law_begun" = some (some (.ref f0))) (l0 : K.lookup f0 = some ⟨oc0, od0, .func (PySem.W.fnOf "_law_begun" "_law_begun" (defArgs sBegun) (defBody sBegun) (defScope sBegun) .none kV0 dc0 pm0 an0 cd0 ct0), sl0⟩) (c0 : PySem.W.codeIn K cd0 "_law_begun" = true) (kf0 : PySem.W.keepIn K (.ref f0) = true)
    (a1 : PySem.W.nsIn K mainGlobals "_law_next" = some (some (.ref f1))) (l1 : K.lookup f1 = some ⟨oc1, od1, .func (PySem.W.fnOf "_law_next" "_law_next" (defArgs sNext) (defBody sNext) (defScope sNext) .none kV1 dc1 pm1 an1 cd1 ct1), sl1⟩) (c1 : PySem.W.codeIn K cd1 "_law_next" = true) (kf1 : PySem.W.keepIn K (.ref f1) = true)
    (a2 : PySem.W.nsIn K mainGlobals "_law_value" = some (some (.ref f2))) (l2 : K.lookup f2 = some ⟨oc2, od2, .func (PySem.W.fnOf "_law_value" "_law_value" (defArgs sValue) (defBody sValue) (defScope sValue) .none kV2 dc2 pm2 an2 cd2 ct2), sl2⟩) (c2 : PySem.W.codeIn K cd2 "_law_value" = true) (kf2 : PySem.W.keepIn K (.ref f2) = true)
    (a3 : PySem.W.nsIn K mainGlobals "_law_kinds" = some (some (.ref f3))) (l3 : K.lookup f3 = some ⟨oc3, od3, .func (PySem.W.fnOf "_law_kinds" "_law_kinds" (defArgs sKinds) (defBody sKinds) (defScope sKinds) .none kV3 dc3 pm3 an3 cd3 ct3), sl3⟩) (c3 : PySem.W.codeIn K cd3 "_law_kinds" = true) (kf3 : PySem.W.keepIn K (.ref f3) = true)
    (a4 : PySem.W.nsIn K mainGlobals "_law_field" = some (some (.ref f4))) (l4 : K.lookup f4 = some ⟨oc4, od4, .func (PySem.W.fnOf "_law_field" "_law_field" (defArgs sField) (defBody sField) (defScope sField) .none kV4 dc4 pm4 an4 cd4 ct4), sl4⟩) (c4 : PySem.W.codeIn K cd4 "_law_field" = true) (kf4 : PySem.W.keepIn K (.ref f4) = true)
    (a5 : PySem.W.nsIn K mainGlobals "law" = some (some (.ref f5))) (l5 : K.lookup f5 = some ⟨oc5, od5, .func (PySem.W.fnOf "law" "law" (defArgs sLaw) (defBody sLaw) (defScope sLaw) .none kV5 dc5 pm5 an5 cd5 ct5), sl5⟩) (c5 : PySem.W.codeIn K cd5 "law" = true) (kf5 : PySem.W.keepIn K (.ref f5) = true)
    (z0 : PySem.W.nsIn K mainGlobals "len" = some none) (z1 : PySem.W.nsIn K mainGlobals "int" = some none) (z2 : PySem.W.nsIn K mainGlobals "list" = some none) (z3 : PySem.W.nsIn K mainGlobals "range" = some none) (z4 : PySem.W.nsIn K mainGlobals "min" = some none) (z5 : PySem.W.nsIn K mainGlobals "enumerate" = some none) (z6 : PySem.W.nsIn K mainGlobals "repr" = some none) (z7 : PySem.W.nsIn K mainGlobals "isinstance" = some none) (z8 : PySem.W.nsIn K mainGlobals "ValueError" = some none) (z9 : PySem.W.nsIn K mainGlobals "LookupError" = some none) (z10 : PySem.W.nsIn K mainGlobals "KeyError" = some none) (z11 : PySem.W.nsIn K mainGlobals "IndexError" = some none) :
    ∃ fd : FuncData, (∀ (s : Shared) (v : Value), BindsTo s fd ⟨[v], []⟩ [("script", v)]) ∧ ∀ base : Heap, K.In base → base.Ns mainGlobals mg → FnG P w K mg base CX0 3 fa fd ["script"] (spLaw K) := by
  have e := hfa.symm.trans (PySem.W.mg_of X G a5)
  cases e
  have tab : KTab K mg (pick C0 C1 C2 C3 C4 C5 C6 C7 C8) L := by
    refine ⟨fun i j hi hj => ?_, fun i hi => ?_, fun i hi => ?_, fun i hi => ?_, fun i hi => ?_, fun i hi => ?_, fun i hi => ?_, fun i hi => ?_, fun i hi => ?_, Llv, ⟨Lga, Lgg, Lsb, Lhd, Lkl, x0.xi.sp, x0.xi.tk, Lmo⟩, PySem.W.mg_of X G aL, PySem.W.mg_none_of X G z7⟩
    · rcases nine hi with rfl | rfl | rfl | rfl | rfl | rfl | rfl | rfl | rfl
      · rcases nine hj with rfl | rfl | rfl | rfl | rfl | rfl | rfl | rfl | rfl
        · exact r0.k0
        · exact r0.k1
        · exact r0.k2
        · exact r0.k3
        · exact r0.k4
        · exact r0.k5
        · exact r0.k6
        · exact r0.k7
        · exact r0.k8
      · rcases nine hj with rfl | rfl | rfl | rfl | rfl | rfl | rfl | rfl | rfl
        · exact r1.k0
        · exact r1.k1
        · exact r1.k2
        · exact r1.k3
        · exact r1.k4
        · exact r1.k5
        · exact r1.k6
        · exact r1.k7
        · exact r1.k8
      · rcases nine hj with rfl | rfl | rfl | rfl | rfl | rfl | rfl | rfl | rfl
        · exact r2.k0
        · exact r2.k1
        · exact r2.k2
        · exact r2.k3
        · exact r2.k4
        · exact r2.k5
        · exact r2.k6
        · exact r2.k7
        · exact r2.k8
      · rcases nine hj with rfl | rfl | rfl | rfl | rfl | rfl | rfl | rfl | rfl
        · exact r3.k0
        · exact r3.k1
        · exact r3.k2
        · exact r3.k3
        · exact r3.k4
        · exact r3.k5
        · exact r3.k6
        · exact r3.k7
        · exact r3.k8
      · rcases nine hj with rfl | rfl | rfl | rfl | rfl | rfl | rfl | rfl | rfl
        · exact r4.k0
        · exact r4.k1
        · exact r4.k2
        · exact r4.k3
        · exact r4.k4
        · exact r4.k5
        · exact r4.k6
        · exact r4.k7
        · exact r4.k8
      · rcases nine hj with rfl | rfl | rfl | rfl | rfl | rfl | rfl | rfl | rfl
        · exact r5.k0
        · exact r5.k1
        · exact r5.k2
        · exact r5.k3
        · exact r5.k4
        · exact r5.k5
        · exact r5.k6
        · exact r5.k7
        · exact r5.k8
      · rcases nine hj with rfl | rfl | rfl | rfl | rfl | rfl | rfl | rfl | rfl
        · exact r6.k0
        · exact r6.k1
        · exact r6.k2
        · exact r6.k3
        · exact r6.k4
        · exact r6.k5
        · exact r6.k6
        · exact r6.k7
        · exact r6.k8
      · rcases nine hj with rfl | rfl | rfl | rfl | rfl | rfl | rfl | rfl | rfl
        · exact r7.k0
        · exact r7.k1
        · exact r7.k2
        · exact r7.k3
        · exact r7.k4
        · exact r7.k5
        · exact r7.k6
        · exact r7.k7
        · exact r7.k8
      · rcases nine hj with rfl | rfl | rfl | rfl | rfl | rfl | rfl | rfl | rfl
        · exact r8.k0
        · exact r8.k1
        · exact r8.k2
        · exact r8.k3
        · exact r8.k4
        · exact r8.k5
        · exact r8.k6
        · exact r8.k7
        · exact r8.k8
    · rcases nine hi with rfl | rfl | rfl | rfl | rfl | rfl | rfl | rfl | rfl
      · exact x0.xi
      · exact x1.xi
      · exact x2.xi
      · exact x3.xi
      · exact x4.xi
      · exact x5.xi
      · exact x6.xi
      · exact x7.xi
      · exact x8.xi
    · rcases nine hi with rfl | rfl | rfl | rfl | rfl | rfl | rfl | rfl | rfl
      · exact x0.no
      · exact x1.no
      · exact x2.no
      · exact x3.no
      · exact x4.no
      · exact x5.no
      · exact x6.no
      · exact x7.no
      · exact x8.no
    · rcases nine hi with rfl | rfl | rfl | rfl | rfl | rfl | rfl | rfl | rfl
      · exact x0.gl
      · exact x1.gl
      · exact x2.gl
      · exact x3.gl
      · exact x4.gl
      · exact x5.gl
      · exact x6.gl
      · exact x7.gl
      · exact x8.gl
    · rcases nine hi with rfl | rfl | rfl | rfl | rfl | rfl | rfl | rfl | rfl
      · exact r0.kl
      · exact r1.kl
      · exact r2.kl
      · exact r3.kl
      · exact r4.kl
      · exact r5.kl
      · exact r6.kl
      · exact r7.kl
      · exact r8.kl
    · rcases nine hi with rfl | rfl | rfl | rfl | rfl | rfl | rfl | rfl | rfl
      · exact r0.kv
      · exact r1.kv
      · exact r2.kv
      · exact r3.kv
      · exact r4.kv
      · exact r5.kv
      · exact r6.kv
      · exact r7.kv
      · exact r8.kv
    · rcases nine hi with rfl | rfl | rfl | rfl | rfl | rfl | rfl | rfl | rfl
      · exact r0.ku
      · exact r1.ku
      · exact r2.ku
      · exact r3.ku
      · exact r4.ku
      · exact r5.ku
      · exact r6.ku
      · exact r7.ku
      · exact r8.ku
    · rcases nine hi with rfl | rfl | rfl | rfl | rfl | rfl | rfl | rfl | rfl
      · exact r0.kk
      · exact r1.kk
      · exact r2.kk
      · exact r3.kk
      · exact r4.kk
      · exact r5.kk
      · exact r6.kk
      · exact r7.kk
      · exact r8.kk
    · rcases nine hi with rfl | rfl | rfl | rfl | rfl | rfl | rfl | rfl | rfl
      · exact r0.ki
      · exact r1.ki
      · exact r2.ki
      · exact r3.ki
      · exact r4.ki
      · exact r5.ki
      · exact r6.ki
      · exact r7.ki
      · exact r8.ki
  have T : TL P K mg (pick C0 C1 C2 C3 C4 C5 C6 C7 C8) (pick g0 g1 g2 g3 g4 g5 g6 g7 g8) L := by
    refine ⟨tab, x0.xt, x1.xt, x2.xt, x3.xt, x4.xt, x5.xt, x6.xt, x7.xt, x8.xt, fun i hi => ?_, Li, Le, Lk, PySem.W.mg_none_of X G z3, PySem.W.mg_none_of X G z4, PySem.W.mg_none_of X G z5, PySem.W.mg_none_of X G z6, PySem.W.mg_none_of X G z8, PySem.W.mg_none_of X G z9, PySem.W.mg_none_of X G z10, PySem.W.mg_none_of X G z11⟩
    rcases nine hi with rfl | rfl | rfl | rfl | rfl | rfl | rfl | rfl | rfl
    · exact x0.kp
    · exact x1.kp
    · exact x2.kp
    · exact x3.kp
    · exact x4.kp
    · exact x5.kp
    · exact x6.kp
    · exact x7.kp
    · exact x8.kp
  have F0 := fun_mk (st := sBegun) l0 c0 kf0
  have F1 := fun_mk (st := sNext) l1 c1 kf1
  have F2 := fun_mk (st := sValue) l2 c2 kf2
  have F3 := fun_mk (st := sKinds) l3 c3 kf3
  have F4 := fun_mk (st := sField) l4 c4 kf4
  have F5 := fun_mk (st := sLaw) l5 c5 kf5
  have b0 := F0.binds (ps := ["script"]) fun _ _ _ _ _ _ us hl => match us, hl with | [_], _ => rfl
  have b1 := F1.binds (ps := ["m", "many"]) fun _ _ _ _ _ _ us hl => match us, hl with | [_, _], _ => rfl
  have b2 := F2.binds (ps := ["m"]) fun _ _ _ _ _ _ us hl => match us, hl with | [_], _ => rfl
  have b3 := F3.binds (ps := ["one"]) fun _ _ _ _ _ _ us hl => match us, hl with | [_], _ => rfl
  have b4 := F4.binds (ps := ["one"]) fun _ _ _ _ _ _ us hl => match us, hl with | [_], _ => rfl
  have Bv : BltV mg f1 := ⟨⟨PySem.W.mg_none_of X G z0, PySem.W.mg_none_of X G z1, PySem.W.mg_none_of X G z2⟩, PySem.W.mg_of X G a1⟩
  exact ⟨PySem.W.fnOf "law" "law" (defArgs sLaw) (defBody sLaw) (defScope sLaw) .none kV5 dc5 pm5 an5 cd5 ct5, fun s v => .of_eq rfl, fun base _ _ =>
    ok_law F5 T Bv F0 b0 (PySem.W.mg_of X G a0) F1 b1 F2 b2 (PySem.W.mg_of X G a2) F3 b3 (PySem.W.mg_of X G a3) F4 b4 (PySem.W.mg_of X G a4)⟩
end Fx

open PySem PySem.W PyProof.Rows in
set_option maxRecDepth 100000 in
set_option maxHeartbeats 0 in
theorem PySem.Challenge.cw_loopcuts_k70_errors_holds : PySem.Challenge.rw_loopcuts_k70_errors.Holds := by
  w_on; o_law; k_head; (case hw => w_witness2)
  k_fill
  refine Fx.walkG (l := PySem.Challenge.rw_loopcuts_k70_errors) (n := 63) (k := 3) (x := "script") (sp := fun w => Fx.spLaw _) rfl (by decide) rfl ⟨rfl, by decide, by decide⟩ (fun w h Y => PySem.W.kIn_of Y) ?F (fun w H a ns hl _ hS => ⟨a, ns, rfl, hS, hl, fun _ => rfl⟩)
  case F =>
    intro w mg fa h KX G hmg
    refine' Fx.all_mk KX G hmg ?x0 ?x1 ?x2 ?x3 ?x4 ?x5 ?x6 ?x7 ?x8 ?aL ?Li ?Le ?Lk ?Lga ?Lgg ?Lsb ?Lhd ?Lkl ?Lmo ?Llv ?r0 ?r1 ?r2 ?r3 ?r4 ?r5 ?r6 ?r7 ?r8 ?a0 ?l0 ?c0 ?kf0 ?a1 ?l1 ?c1 ?kf1 ?a2 ?l2 ?c2 ?kf2 ?a3 ?l3 ?c3 ?kf3 ?a4 ?l4 ?c4 ?kf4 ?a5 ?l5 ?c5 ?kf5 ?z0 ?z1 ?z2 ?z3 ?z4 ?z5 ?z6 ?z7 ?z8 ?z9 ?z10 ?z11
    (case x0 =>
      refine' Fx.cf_mk KX G PySem.F.excBase_ValueError PySem.W.kxs_ValueError PySem.F.store_ValueError (.inl rfl) ?aC ?exi ?over ?sa ?tk ?hd ?iC ?iF ?op ?su ?sB ?mr ?gs ?top ?lf ?cf ?lc ?v2 ?fi ?lx ?ln ?ga ?gg ?sb ?kl ?sp ?tg ?mo ?kp ?no
      (case aC => k_is)
      (case exi => kx_is)
      (case over => kx_is)
      (case sa => k_is)
      (case tk => k_is)
      (case hd => k_is)
      (case iC => k_is)
      (case iF => k_is)
      (case op => k_is)
      (case su => ks_is)
      (case sB => k_is)
      (case mr => k_is)
      (case gs => k_is)
      (case top => decide +kernel)
      (case lf => k_is)
      (case cf => k_is)
      (case lc => k_is)
      (case v2 => rfl)
      (case fi => decide +kernel)
      (case lx => k_is)
      (case ln => rfl)
      (case ga => k_is)
      (case gg => k_is)
      (case sb => k_is)
      (case kl => k_is)
      (case sp => k_is)
      (case tg => k_is)
      (case mo => k_is)
      (case kp => k_is)
      (case no => k_is)
    )
    (case x1 =>
      refine' Fx.cf_mk KX G PySem.F.excBase_ValueError PySem.W.kxs_ValueError PySem.F.store_ValueError (.inr (.inl rfl)) ?aC ?exi ?over ?sa ?tk ?hd ?iC ?iF ?op ?su ?sB ?mr ?gs ?top ?lf ?cf ?lc ?v2 ?fi ?lx ?ln ?ga ?gg ?sb ?kl ?sp ?tg ?mo ?kp ?no
      (case aC => k_is)
      (case exi => kx_is)
      (case over => kx_is)
      (case sa => k_is)
      (case tk => k_is)
      (case hd => k_is)
      (case iC => k_is)
      (case iF => k_is)
      (case op => k_is)
      (case su => ks_is)
      (case sB => k_is)
      (case mr => k_is)
      (case gs => k_is)
      (case top => decide +kernel)
      (case lf => k_is)
      (case cf => k_is)
      (case lc => k_is)
      (case v2 => rfl)
      (case fi => decide +kernel)
      (case lx => k_is)
      (case ln => rfl)
      (case ga => k_is)
      (case gg => k_is)
      (case sb => k_is)
      (case kl => k_is)
      (case sp => k_is)
      (case tg => k_is)
      (case mo => k_is)
      (case kp => k_is)
      (case no => k_is)
    )
    (case x2 =>
      refine' Fx.cf_mk KX G PySem.F.excBase_ValueError PySem.W.kxs_ValueError PySem.F.store_ValueError (.inr (.inl rfl)) ?aC ?exi ?over ?sa ?tk ?hd ?iC ?iF ?op ?su ?sB ?mr ?gs ?top ?lf ?cf ?lc ?v2 ?fi ?lx ?ln ?ga ?gg ?sb ?kl ?sp ?tg ?mo ?kp ?no
      (case aC => k_is)
      (case exi => kx_is)
      (case over => kx_is)
      (case sa => k_is)
      (case tk => k_is)
      (case hd => k_is)
      (case iC => k_is)
      (case iF => k_is)
      (case op => k_is)
      (case su => ks_is)
      (case sB => k_is)
      (case mr => k_is)
      (case gs => k_is)
      (case top => decide +kernel)
      (case lf => k_is)
      (case cf => k_is)
      (case lc => k_is)
      (case v2 => rfl)
      (case fi => decide +kernel)
      (case lx => k_is)
      (case ln => rfl)
      (case ga => k_is)
      (case gg => k_is)
      (case sb => k_is)
      (case kl => k_is)
      (case sp => k_is)
      (case tg => k_is)
      (case mo => k_is)
      (case kp => k_is)
      (case no => k_is)
    )
    (case x3 =>
      refine' Fx.cf_mk KX G PySem.F.excBase_ValueError PySem.W.kxs_ValueError PySem.F.store_ValueError (.inr (.inl rfl)) ?aC ?exi ?over ?sa ?tk ?hd ?iC ?iF ?op ?su ?sB ?mr ?gs ?top ?lf ?cf ?lc ?v2 ?fi ?lx ?ln ?ga ?gg ?sb ?kl ?sp ?tg ?mo ?kp ?no
      (case aC => k_is)
      (case exi => kx_is)
      (case over => kx_is)
      (case sa => k_is)
      (case tk => k_is)
      (case hd => k_is)
      (case iC => k_is)
      (case iF => k_is)
      (case op => k_is)
      (case su => ks_is)
      (case sB => k_is)
      (case mr => k_is)
      (case gs => k_is)
      (case top => decide +kernel)
      (case lf => k_is)
      (case cf => k_is)
      (case lc => k_is)
      (case v2 => rfl)
      (case fi => decide +kernel)
      (case lx => k_is)
      (case ln => rfl)
      (case ga => k_is)
      (case gg => k_is)
      (case sb => k_is)
      (case kl => k_is)
      (case sp => k_is)
      (case tg => k_is)
      (case mo => k_is)
      (case kp => k_is)
      (case no => k_is)
    )
    (case x4 =>
      refine' Fx.cf_mk KX G PySem.F.excBase_ValueError PySem.W.kxs_ValueError PySem.F.store_ValueError (.inr (.inl rfl)) ?aC ?exi ?over ?sa ?tk ?hd ?iC ?iF ?op ?su ?sB ?mr ?gs ?top ?lf ?cf ?lc ?v2 ?fi ?lx ?ln ?ga ?gg ?sb ?kl ?sp ?tg ?mo ?kp ?no
      (case aC => k_is)
      (case exi => kx_is)
      (case over => kx_is)
      (case sa => k_is)
      (case tk => k_is)
      (case hd => k_is)
      (case iC => k_is)
      (case iF => k_is)
      (case op => k_is)
      (case su => ks_is)
      (case sB => k_is)
      (case mr => k_is)
      (case gs => k_is)
      (case top => decide +kernel)
      (case lf => k_is)
      (case cf => k_is)
      (case lc => k_is)
      (case v2 => rfl)
      (case fi => decide +kernel)
      (case lx => k_is)
      (case ln => rfl)
      (case ga => k_is)
      (case gg => k_is)
      (case sb => k_is)
      (case kl => k_is)
      (case sp => k_is)
      (case tg => k_is)
      (case mo => k_is)
      (case kp => k_is)
      (case no => k_is)
    )
    (case x5 =>
      refine' Fx.cf_mk KX G PySem.F.excBase_ValueError PySem.W.kxs_ValueError PySem.F.store_ValueError (.inl rfl) ?aC ?exi ?over ?sa ?tk ?hd ?iC ?iF ?op ?su ?sB ?mr ?gs ?top ?lf ?cf ?lc ?v2 ?fi ?lx ?ln ?ga ?gg ?sb ?kl ?sp ?tg ?mo ?kp ?no
      (case aC => k_is)
      (case exi => kx_is)
      (case over => kx_is)
      (case sa => k_is)
      (case tk => k_is)
      (case hd => k_is)
      (case iC => k_is)
      (case iF => k_is)
      (case op => k_is)
      (case su => ks_is)
      (case sB => k_is)
      (case mr => k_is)
      (case gs => k_is)
      (case top => decide +kernel)
      (case lf => k_is)
      (case cf => k_is)
      (case lc => k_is)
      (case v2 => rfl)
      (case fi => decide +kernel)
      (case lx => k_is)
      (case ln => rfl)
      (case ga => k_is)
      (case gg => k_is)
      (case sb => k_is)
      (case kl => k_is)
      (case sp => k_is)
      (case tg => k_is)
      (case mo => k_is)
      (case kp => k_is)
      (case no => k_is)
    )
    (case x6 =>
      refine' Fx.cf_mk KX G PySem.F.excBase_ValueError PySem.W.kxs_ValueError PySem.F.store_ValueError (.inr (.inr (.inl rfl))) ?aC ?exi ?over ?sa ?tk ?hd ?iC ?iF ?op ?su ?sB ?mr ?gs ?top ?lf ?cf ?lc ?v2 ?fi ?lx ?ln ?ga ?gg ?sb ?kl ?sp ?tg ?mo ?kp ?no
      (case aC => k_is)
      (case exi => kx_is)
      (case over => kx_is)
      (case sa => k_is)
      (case tk => k_is)
      (case hd => k_is)
      (case iC => k_is)
      (case iF => k_is)
      (case op => k_is)
      (case su => ks_is)
      (case sB => k_is)
      (case mr => k_is)
      (case gs => k_is)
      (case top => decide +kernel)
      (case lf => k_is)
      (case cf => k_is)
      (case lc => k_is)
      (case v2 => rfl)
      (case fi => decide +kernel)
      (case lx => k_is)
      (case ln => rfl)
      (case ga => k_is)
      (case gg => k_is)
      (case sb => k_is)
      (case kl => k_is)
      (case sp => k_is)
      (case tg => k_is)
      (case mo => k_is)
      (case kp => k_is)
      (case no => k_is)
    )
    (case x7 =>
      refine' Fx.cf_mk KX G PySem.F.excBase_LookupError PySem.W.kxs_LookupError PySem.F.store_LookupError (.inr (.inr (.inr (.inl rfl)))) ?aC ?exi ?over ?sa ?tk ?hd ?iC ?iF ?op ?su ?sB ?mr ?gs ?top ?lf ?cf ?lc ?v2 ?fi ?lx ?ln ?ga ?gg ?sb ?kl ?sp ?tg ?mo ?kp ?no
      (case aC => k_is)
      (case exi => kx_is)
      (case over => kx_is)
      (case sa => k_is)
      (case tk => k_is)
      (case hd => k_is)
      (case iC => k_is)
      (case iF => k_is)
      (case op => k_is)
      (case su => ks_is)
      (case sB => k_is)
      (case mr => k_is)
      (case gs => k_is)
      (case top => decide +kernel)
      (case lf => k_is)
      (case cf => k_is)
      (case lc => k_is)
      (case v2 => rfl)
      (case fi => decide +kernel)
      (case lx => k_is)
      (case ln => rfl)
      (case ga => k_is)
      (case gg => k_is)
      (case sb => k_is)
      (case kl => k_is)
      (case sp => k_is)
      (case tg => k_is)
      (case mo => k_is)
      (case kp => k_is)
      (case no => k_is)
    )
    (case x8 =>
      refine' Fx.cf_mk KX G PySem.F.excBase_LookupError PySem.W.kxs_LookupError PySem.F.store_LookupError (.inr (.inr (.inr (.inr rfl)))) ?aC ?exi ?over ?sa ?tk ?hd ?iC ?iF ?op ?su ?sB ?mr ?gs ?top ?lf ?cf ?lc ?v2 ?fi ?lx ?ln ?ga ?gg ?sb ?kl ?sp ?tg ?mo ?kp ?no
      (case aC => k_is)
      (case exi => kx_is)
      (case over => kx_is)
      (case sa => k_is)
      (case tk => k_is)
      (case hd => k_is)
      (case iC => k_is)
      (case iF => k_is)
      (case op => k_is)
      (case su => ks_is)
      (case sB => k_is)
      (case mr => k_is)
      (case gs => k_is)
      (case top => decide +kernel)
      (case lf => k_is)
      (case cf => k_is)
      (case lc => k_is)
      (case v2 => rfl)
      (case fi => decide +kernel)
      (case lx => k_is)
      (case ln => rfl)
      (case ga => k_is)
      (case gg => k_is)
      (case sb => k_is)
      (case kl => k_is)
      (case sp => k_is)
      (case tg => k_is)
      (case mo => k_is)
      (case kp => k_is)
      (case no => k_is)
    )
    (case aL => k_is)
    (case Li => k_is)
    (case Le => kx_is)
    (case Lk => k_is)
    (case Lga => k_is)
    (case Lgg => k_is)
    (case Lsb => k_is)
    (case Lhd => k_is)
    (case Lkl => k_is)
    (case Lmo => k_is)
    (case Llv => kit_is)
    (case r0 =>
      refine' Fx.KR.mk ?k0 ?k1 ?k2 ?k3 ?k4 ?k5 ?k6 ?k7 ?k8 ?kl ?kv ?ku ?kk ?ki
      (case k0 => kit_is)
      (case k1 => kit_is)
      (case k2 => kit_is)
      (case k3 => kit_is)
      (case k4 => kit_is)
      (case k5 => kit_is)
      (case k6 => kit_is)
      (case k7 => kit_is)
      (case k8 => kit_is)
      (case kl => kit_is)
      (case kv => kit_is)
      (case ku => kit_is)
      (case kk => kit_is)
      (case ki => kit_is)
    )
    (case r1 =>
      refine' Fx.KR.mk ?k0 ?k1 ?k2 ?k3 ?k4 ?k5 ?k6 ?k7 ?k8 ?kl ?kv ?ku ?kk ?ki
      (case k0 => kit_is)
      (case k1 => kit_is)
      (case k2 => kit_is)
      (case k3 => kit_is)
      (case k4 => kit_is)
      (case k5 => kit_is)
      (case k6 => kit_is)
      (case k7 => kit_is)
      (case k8 => kit_is)
      (case kl => kit_is)
      (case kv => kit_is)
      (case ku => kit_is)
      (case kk => kit_is)
      (case ki => kit_is)
    )
    (case r2 =>
      refine' Fx.KR.mk ?k0 ?k1 ?k2 ?k3 ?k4 ?k5 ?k6 ?k7 ?k8 ?kl ?kv ?ku ?kk ?ki
      (case k0 => kit_is)
      (case k1 => kit_is)
      (case k2 => kit_is)
      (case k3 => kit_is)
      (case k4 => kit_is)
      (case k5 => kit_is)
      (case k6 => kit_is)
      (case k7 => kit_is)
      (case k8 => kit_is)
      (case kl => kit_is)
      (case kv => kit_is)
      (case ku => kit_is)
      (case kk => kit_is)
      (case ki => kit_is)
    )
    (case r3 =>
      refine' Fx.KR.mk ?k0 ?k1 ?k2 ?k3 ?k4 ?k5 ?k6 ?k7 ?k8 ?kl ?kv ?ku ?kk ?ki
      (case k0 => kit_is)
      (case k1 => kit_is)
      (case k2 => kit_is)
      (case k3 => kit_is)
      (case k4 => kit_is)
      (case k5 => kit_is)
      (case k6 => kit_is)
      (case k7 => kit_is)
      (case k8 => kit_is)
      (case kl => kit_is)
      (case kv => kit_is)
      (case ku => kit_is)
      (case kk => kit_is)
      (case ki => kit_is)
    )
    (case r4 =>
      refine' Fx.KR.mk ?k0 ?k1 ?k2 ?k3 ?k4 ?k5 ?k6 ?k7 ?k8 ?kl ?kv ?ku ?kk ?ki
      (case k0 => kit_is)
      (case k1 => kit_is)
      (case k2 => kit_is)
      (case k3 => kit_is)
      (case k4 => kit_is)
      (case k5 => kit_is)
      (case k6 => kit_is)
      (case k7 => kit_is)
      (case k8 => kit_is)
      (case kl => kit_is)
      (case kv => kit_is)
      (case ku => kit_is)
      (case kk => kit_is)
      (case ki => kit_is)
    )
    (case r5 =>
      refine' Fx.KR.mk ?k0 ?k1 ?k2 ?k3 ?k4 ?k5 ?k6 ?k7 ?k8 ?kl ?kv ?ku ?kk ?ki
      (case k0 => kit_is)
      (case k1 => kit_is)
      (case k2 => kit_is)
      (case k3 => kit_is)
      (case k4 => kit_is)
      (case k5 => kit_is)
      (case k6 => kit_is)
      (case k7 => kit_is)
      (case k8 => kit_is)
      (case kl => kit_is)
      (case kv => kit_is)
      (case ku => kit_is)
      (case kk => kit_is)
      (case ki => kit_is)
    )
    (case r6 =>
      refine' Fx.KR.mk ?k0 ?k1 ?k2 ?k3 ?k4 ?k5 ?k6 ?k7 ?k8 ?kl ?kv ?ku ?kk ?ki
      (case k0 => kit_is)
      (case k1 => kit_is)
      (case k2 => kit_is)
      (case k3 => kit_is)
      (case k4 => kit_is)
      (case k5 => kit_is)
      (case k6 => kit_is)
      (case k7 => kit_is)
      (case k8 => kit_is)
      (case kl => kit_is)
      (case kv => kit_is)
      (case ku => kit_is)
      (case kk => kit_is)
      (case ki => kit_is)
    )
    (case r7 =>
      refine' Fx.KR.mk ?k0 ?k1 ?k2 ?k3 ?k4 ?k5 ?k6 ?k7 ?k8 ?kl ?kv ?ku ?kk ?ki
      (case k0 => kit_is)
      (case k1 => kit_is)
      (case k2 => kit_is)
      (case k3 => kit_is)
      (case k4 => kit_is)
      (case k5 => kit_is)
      (case k6 => kit_is)
      (case k7 => kit_is)
      (case k8 => kit_is)
      (case kl => kit_is)
      (case kv => kit_is)
      (case ku => kit_is)
      (case kk => kit_is)
      (case ki => kit_is)
    )
    (case r8 =>
      refine' Fx.KR.mk ?k0 ?k1 ?k2 ?k3 ?k4 ?k5 ?k6 ?k7 ?k8 ?kl ?kv ?ku ?kk ?ki
      (case k0 => kit_is)
      (case k1 => kit_is)
      (case k2 => kit_is)
      (case k3 => kit_is)
      (case k4 => kit_is)
      (case k5 => kit_is)
      (case k6 => kit_is)
      (case k7 => kit_is)
      (case k8 => kit_is)
      (case kl => kit_is)
      (case kv => kit_is)
      (case ku => kit_is)
      (case kk => kit_is)
      (case ki => kit_is)
    )
    (case a0 => k_is)
    (case l0 => k_is)
    (case c0 => k_is)
    (case kf0 => k_is)
    (case a1 => k_is)
    (case l1 => k_is)
    (case c1 => k_is)
    (case kf1 => k_is)
    (case a2 => k_is)
    (case l2 => k_is)
    (case c2 => k_is)
    (case kf2 => k_is)
    (case a3 => k_is)
    (case l3 => k_is)
    (case c3 => k_is)
    (case kf3 => k_is)
    (case a4 => k_is)
    (case l4 => k_is)
    (case c4 => k_is)
    (case kf4 => k_is)
    (case a5 => k_is)
    (case l5 => k_is)
    (case c5 => k_is)
    (case kf5 => k_is)
    (case z0 => k_is)
    (case z1 => k_is)
    (case z2 => k_is)
    (case z3 => k_is)
    (case z4 => k_is)
    (case z5 => k_is)
    (case z6 => k_is)
    (case z7 => k_is)
    (case z8 => k_is)
    (case z9 => k_is)
    (case z10 => k_is)
    (case z11 => k_is)
#print axioms PySem.Challenge.cw_loopcuts_k70_errors_holds

import PyProof.Rows.All
import Wide.All
import OpenK.AllK
import Wide.FinOn
import KE.KExcSuper
import KE.KSuper
import KE.KExcIs
import HandS.ForMost
import HandS.Exc
import HandS.ForExc
import HandS.ExcField
import HandS.IsInst
import HandS.Defaults
import HandS.MakeKw
import HandS.OwnEq
import HandS.Iter
import HandS.Walk
import HandS.Zip
import PyProof.Draws
import HandS.Lambda
import HandS.TupAny
import HandS.Deep
import HandS.Codes
import HandS.TupLe
import HandS.TupMul
import HandS.Dict
import HandS.TupSets
import HandS.WordsDict
import HandS.Text
import HandS.StrMore
import HandS.Strs
import HandS.Set
import PyProof.Rows.SortShellAny
import KE.KDictList
import HandS.DictComp
import HandS.Sort
import HandS.Style
import HandS.WideBits
import KE.KDflt
import KE.KTryMore
import HandS.EndBits
import HandS.EndTab
import HandS.TryOnly
import KE.DataMinKey
import KE.LtData
import KE.SortData
import KE.SortKeyHeap
import HandS.SetBool
import HandS.More
import KE.DataMinMax
import HandS.SortKw
import HandS.Conv
import KE.KExcLine
import PySem.Challenge.RW_loopcuts_k43_choices_by_hand_and_refused
set_option Elab.async false
set_option linter.all false
set_option maxRecDepth 100000
set_option maxHeartbeats 4000000
/-! own exceptions that say super().__init__(text) and keep one field: the machine's steps -/
namespace Fx
open PySem PySem.W PySem.Calls Builtin Builtin.ObjectAttr
section
variable {M : Model} {prog : Program} {w : World} {A : Around} {E : Value → Shared → Prop} {R : Result → Shared → Prop} {h : Heap} {g : Array GenState} {d : Drawn} {t : Nat} {os : OsState}
variable {nm qn : Str} {C N : Addr} {bs bm bmB : List Value} {hdct : Bool} {sn : List Str} {sub : List Value} {ab : Bool} {col : Option Bool} {dd : Option Addr} {k0 k1 k2 k3 k5 : Option Value} {B nw ini : String}

/-- the check ahead of __new__, with keywords -/
theorem newChk (FB : ExcBaseFacts B nw ini bmB) (same : ∀ T : String, bm.contains (.type T) = bmB.contains (.type T)) {rest : List Value} {f : Str} {v : Value} {Q : Unit → Shared → Prop}
    (hC : h.get? C = some (excClassObj nm qn C N bs bm hdct sn sub ab col dd k0 k1 k2 k3 k5 nw)) (hq : Q () ⟨h, g, d, t, os⟩) :
    wpAny M A (checkBuiltinCall nw ⟨.ref C :: rest, [(f, v)]⟩) Q E ⟨h, g, d, t, os⟩ := by
  have isB : (Value.ref C :: bm).contains (.type B) = true := by
    rw [List.contains_cons, same, FB.hasB]
    exact Bool.or_true _
  have noS := FB.noStar
  simp only [checkBuiltinCall, FB.newKind, FB.newSplit, FB.newRow]
  repeat (first
    | refine wpAny_loadPart_at hC ?_
    | (refine wpAny_isSubtype_exc hC ?_; rw [isB])
    | refine wpAny_staticBase_exc hC ?_
    | refine wpAny_madeBy_exc hC ?_
    | simp only [bne_self_eq_false, Bool.false_eq_true, if_false]
    | wp_step)
  all_goals exact hq

/-- __new__ of such a class lays the tuple of the arguments, then the object -/
theorem newRun (FB : ExcBaseFacts B nw ini bmB) (same : ∀ T : String, bm.contains (.type T) = bmB.contains (.type T)) {rest : List Value} {kw : List (Str × Value)}
    (hC : h.get? C = some (excClassObj nm qn C N bs bm hdct sn sub ab col dd k0 k1 k2 k3 k5 nw)) (few : rest.length ≤ sizeLine)
    (hq : R (.ok (.ret (.ref (h.objs.size + 1)))) ⟨(h.push (excTup rest)).push (excObj C h.objs.size none .none), g, d, t, os⟩) :
    codeAny (model prog w) A (.builtin nw ⟨.ref C :: rest, kw⟩) R ⟨h, g, d, t, os⟩ := by
  have ends := FB.ends
  have isB : (Value.ref C :: bm).contains (.type B) = true := by
    rw [List.contains_cons, same, FB.hasB]
    exact Bool.or_true _
  have isA : (Value.ref C :: bm).contains (.type "AttributeError") = false := by
    rw [List.contains_cons, same, FB.noAttr]
    rfl
  have isN : (Value.ref C :: bm).contains (.type "NameError") = false := by
    rw [List.contains_cons, same, FB.noName]
    rfl
  refine codeAny_builtinAt FB.entry ?_
  unfold Builtin.«BaseException.__new__»
  refine wpAt_bind ?_
  show wpAt _ _ _ (stack >>= _) _ _ _
  refine wpAt_bind (wpAt_stack fun fr below => wpAt_of_wpAny ?_)
  wp_walk
  refine wpAt_of_wpAny ?_
  rw [FB.owner]
  repeat (first
    | with_reducible refine wpAny_madeHere_exc FB.canon hC ?_
    | with_reducible refine wpAny_loadPart_at hC ?_
    | (with_reducible refine wpAny_isSubtype_exc hC ?_; first | rw [isB] | rw [isA] | rw [isN])
    | wp_step)
  show R _ _
  rw [Heap.size_push]
  exact hq

/-- type.__call__: __new__, then the class's own __init__ -/
theorem typeRun (FB : ExcBaseFacts B nw ini bmB) (same : ∀ T : String, bm.contains (.type T) = bmB.contains (.type T)) {rest : List Value} {kw : List (Str × Value)} {fI : Addr} {Q : Fin → Shared → Prop}
    (chk : ∀ {Q' : Unit → Shared → Prop} {A' : Around} {E' : Value → Shared → Prop}, Q' () ⟨h, g, d, t, os⟩ → wpAny (model prog w) A' (checkBuiltinCall nw ⟨.ref C :: rest, kw⟩) Q' E' ⟨h, g, d, t, os⟩)
    (hC : h.get? C = some (excClassObj nm qn C N bs bm hdct sn sub ab col dd k0 k1 k2 k3 k5 nw)) (few : rest.length ≤ sizeLine)
    (li : W.Looks (model prog w) h (typeLookup (.ref C) "__init__") (some (.ref fI))) (lb : ∀ self, W.Looks (model prog w) h (bindSpecial (.ref fI) self) (.ref fI, [self]))
    (hq : codeAny (model prog w) A (.call (.ref fI) ⟨.ref (h.objs.size + 1) :: rest, kw⟩)
      (fun r s' => match r with | .ok (.ret v) => v = .none ∧ Q (.done (.ret (.ref (h.objs.size + 1)))) s' | .ok _ => False | .error e => E e s')
      ⟨(h.push (excTup rest)).push (excObj C h.objs.size none .none), g, d, t, os⟩) :
    wpAny (model prog w) A (Builtin.«type.__call__» ⟨.ref C :: rest, kw⟩) Q E ⟨h, g, d, t, os⟩ := by
  repeat (first | with_reducible refine wpAny_loadPart_at hC ?_ | with_reducible refine wpAny_madeBy_exc hC ?_ | wp_step)
  refine codeAny_call_builtin_code (Code.quiet_builtin _ FB.quiet) (chk ?_)
  refine newRun FB same hC few ?_
  show wpAny _ _ _ _ _ _
  have kp : ∀ b o, h.get? b = some o → ((h.push (excTup rest)).push (excObj C h.objs.size none .none)).get? b = some o := fun b o e => Heap.get?_push_of_some _ (Heap.get?_push_of_some _ e)
  have hC1 := kp _ _ hC
  have here : ((h.push (excTup rest)).push (excObj C h.objs.size none .none)).get? (h.objs.size + 1) = some (excObj C h.objs.size none .none) := by heap_get
  have isC : (Value.ref C :: bm).contains (.ref C) = true := by simp
  have li1 := li.keeps kp
  have lb1 := (lb (.ref (h.objs.size + 1))).keeps kp
  unfold isInstance
  repeat (first | with_reducible refine wpAny_loadPart_at here ?_ | (with_reducible refine wpAny_isSubtype_exc hC1 ?_; rw [isC]) | wp_step)
  show wpAny _ _ (typeLookup (.ref C) _) _ _ _
  refine li1.at ?_
  refine wpAny_holding (wpAny_bind (lb1.at ?_))
  refine wpAny_bind (wpAny_call (codeAny_mono hq fun r s' z => ?_))
  rcases r with e | (v | _ | _ | _) <;> first | exact z | exact z.elim | skip
  obtain ⟨rfl, z⟩ := z
  first
    | exact wpAny_pure (wpAny_pure z)
    | (wp_walk; exact z)

/-- the class called -/
theorem classRun (FB : ExcBaseFacts B nw ini bmB) (same : ∀ T : String, bm.contains (.type T) = bmB.contains (.type T)) {rest : List Value} {kw : List (Str × Value)} {fI : Addr}
    (chk : ∀ {Q' : Unit → Shared → Prop} {A' : Around} {E' : Value → Shared → Prop}, Q' () ⟨h, g, d, t, os⟩ → wpAny (model prog w) A' (checkBuiltinCall nw ⟨.ref C :: rest, kw⟩) Q' E' ⟨h, g, d, t, os⟩)
    (hC : h.get? C = some (excClassObj nm qn C N bs bm hdct sn sub ab col dd k0 k1 k2 k3 k5 nw)) (few : rest.length ≤ sizeLine)
    (li : W.Looks (model prog w) h (typeLookup (.ref C) "__init__") (some (.ref fI))) (lb : ∀ self, W.Looks (model prog w) h (bindSpecial (.ref fI) self) (.ref fI, [self]))
    (hq : codeAny (model prog w) (A.under (.builtin "type.__call__" ⟨.ref C :: rest, kw⟩)) (.call (.ref fI) ⟨.ref (h.objs.size + 1) :: rest, kw⟩) (W.InitBack (h.objs.size + 1) R)
      ⟨(h.push (excTup rest)).push (excObj C h.objs.size none .none), g, d, t, os⟩) :
    codeAny (model prog w) A (.call (.ref C) ⟨rest, kw⟩) R ⟨h, g, d, t, os⟩ := by
  have tl := tc_lookup
  have tb := tc_bind (.ref C)
  have isT : (⟨h, g, d, t, os⟩ : Shared).TypeIs (.ref C) "type" := ⟨_, hC, rfl⟩
  refine codeAny_of_tree ?_
  show wpAny _ _ (callAny (.ref C) _) _ _ _
  repeat (any_goals (first | assumption | with_reducible refine wpAny_loadPart_at hC ?_ | wp_step))
  refine ⟨rfl, ?_⟩
  refine codeAny_call_builtin_at (Code.quiet_builtin _ (by decide +kernel)) entry_typeCall (wpAny_check_type_call_sub hC (typeRun FB same chk hC few li lb ?_))
  refine codeAny_mono hq fun r s' z => ?_
  rcases r with e | (v | _ | _ | _) <;> exact z

/-- the bound built-in __init__, called: the arguments are laid anew -/
theorem wrapRun (FB : ExcBaseFacts B nw ini bmB) {u e t0 : Addr} {rest : List Value} {Q : Value → Shared → Prop}
    (hC : h.get? C = some (excClassObj nm qn C N bs bm hdct sn sub ab col dd k0 k1 k2 k3 k5 nw)) (he : h.get? e = some (excObj C t0 none .none)) (hu : h.get? u = some (kxs_mw ini e)) (few : rest.length ≤ sizeLine)
    (hq : ∀ h', (∀ b o, b ≠ e → h.get? b = some o → h'.get? b = some o) → h'.get? e = some (excObj C h.objs.size none .none) → Q .none ⟨h', g, d, t, os⟩) :
    wpAny (model prog w) A (call (.ref u) rest) Q E ⟨h, g, d, t, os⟩ := by
  refine wpAny_call (codeAny_of_tree ?_)
  show wpAny _ A.in1 (callAny (.ref u) ⟨rest, []⟩) _ _ _
  simp only [callAny]
  refine wpAny_bind (wpAny_load hu ?_)
  simp only [kxs_mw, show (Value.type "method-wrapper" == Value.type "method" || Value.type "method-wrapper" == Value.type "builtin_function_or_method" || Value.type "method-wrapper" == Value.type "method-wrapper") = true by decide, if_true]
  refine KFB.if_so (by decide) ?_
  refine wpAny_bind (check_bound_init FB.toExcCallFacts hC he rfl ?_)
  refine wpAny_bind (wpAny_pure (wpAny_pure ?_))
  refine ⟨plainId_quiet FB.init.plain _, codeAny_builtin FB.initEntry ?_⟩
  exact exc_init_tree (cls := .ref C) (t0 := t0) (dv := none) (c2 := .none) (c3 := .none) (b4 := .bool false) he few fun h' k e' _ => hq h' k e'

/-- self.f = v, the first field of such an object -/
theorem fieldRun (SF : StoreFacts B bmB "object.__setattr__" "object") {K : W.Frag} {f : Str} {v : Value} {x t0 : Addr} {Q : Unit → Shared → Prop} (X : K.In h) (hx : h.get? x = some (excObj C t0 none .none))
    (over : excOver K C bmB = true) (tk : takerIn K C f = some none) (hd : hasDictIn K C = true) (sa : findIn K (.ref C) "__setattr__" = some (some (.builtin "object.__setattr__")))
    (hq : ∀ h' tk' dx, (∀ b o, b ≠ x → h.get? b = some o → h'.get? b = some o) → h.objs.size ≤ dx → dx ≠ x → h'.get? x = some (excObj C t0 (some dx) .none) →
      h'.Ns1 dx (fun y => if y = f then some v else none) → Q () ⟨h', g, d, tk', os⟩) :
    wpAny (model prog w) A (setAttr (.ref x) f v) Q E ⟨h, g, d, t, os⟩ := by
  have I : W.InstAt h x (excObj C t0 none .none) C none := ⟨hx, rfl, rfl, trivial⟩
  refine set_plain X I sa ?_
  refine osa_openX SF X I over tk fun b => ?_
  obtain ⟨cd, hcd, hh⟩ := any_some hd
  have hcls : W.Looks (model prog w) h (classData C) cd := W.looks_clsIn X hcd
  have hxs : x ≠ h.objs.size := Nat.ne_of_lt (Heap.lt_size hx)
  obtain ⟨cn, cb, cm, cns, cq, chd, csn, csb, cab, ccol, cdel⟩ := cd
  dsimp only at hh
  subst hh
  show wpAny _ _ (storeInOwnDict (.ref x) (.ref C) _ f v b) _ _ _
  unfold storeInOwnDict ownDictForStores
  repeat (first | with_reducible refine HandSPX.store_in_new ?_ ?_ | with_reducible refine wpAny_loadPart_at hx ?_ | with_reducible refine hcls.at ?_ | wp_step)
  · exact ⟨_, #[], _, (Heap.get?_update_ne _ _ _ _ hxs.symm).trans (Heap.get?_push_at rfl rfl), rfl, fun e he => absurd he (by simp), fun _ => rfl⟩
  · intro h' tk' hn' hs
    have hx1 : (h.push { cls := .type "dict", data := .dict #[] }).get? x = some (excObj C t0 none .none) := Heap.get?_push_of_some _ hx
    refine hq h' tk' h.objs.size (fun b o hb ho => ?_) (Nat.le_refl _) hxs.symm ?_ hn'
    · exact (hs.2 b (Nat.ne_of_lt (Heap.lt_size ho))).trans ((Heap.get?_update_ne _ _ _ _ hb).trans (Heap.get?_push_of_some _ ho))
    · exact (hs.2 x hxs).trans (Heap.get?_update_self _ hx1 rfl)
end
end Fx

set_option maxRecDepth 100000
set_option maxHeartbeats 4000000
namespace Fx
open PySem PySem.W PySem.Calls Builtin Builtin.ObjectAttr
/-- the text: def __init__(self, fld): super().__init__(msg); self.fld = fld -/
def xArgs (fld : Str) (p1 p2 : Pos) : Arguments := { posonlyargs := [], args := [{ arg := "self", annotation := none, pos := p1 }, { arg := fld, annotation := none, pos := p2 }], vararg := none, kwonlyargs := [], kw_defaults := [], kwarg := none, defaults := [] }
def xBody (fld msg : Str) (q1 q2 q3 q4 q5 q6 q7 q8 q9 q10 : Pos) : List Stmt :=
  [.Expr (.Call (.Attribute (.Call (.Name "super" q1) [] [] q2) "__init__" q3) [.Constant (.str msg) 0 q4] [] q5) q6, .Assign [.Attribute (.Name "self" q7) fld q8] (.Name fld q9) q10]
def xScope (fld : Str) : Scope := { kind := .function, names := [(PySem.Str.ofString "self", .local), (fld, .local), (PySem.Str.ofString "__class__", .free), (PySem.Str.ofString "super", .globalImplicit)], isGenerator := false, isCoroutine := false, more := [] }
/-- the fields that there are -/
def Fld (fld : Str) : Prop := fld = ("place" : Str) ∨ fld = ("value" : Str) ∨ fld = ("line" : Str) ∨ fld = ("paper" : Str) ∨ fld = ("loop" : Str)
/-- what the written part says of such a class, at C, and of its __init__, at f -/
structure XT (prog : Program) (K : Frag) (mg : Str → Option Value) (B nw ini : String) (bmB : List Value) (C f : Addr) (fld : Str) : Prop where
  FB : ExcBaseFacts B nw ini bmB
  KF : KxsFacts B ini
  SF : StoreFacts B bmB "object.__setattr__" "object"
  nm : Fld fld
  exi : excInitIn K C bmB nw = true
  over : excOver K C bmB = true
  sa : findIn K (.ref C) "__setattr__" = some (some (.builtin "object.__setattr__"))
  tk : takerIn K C fld = some none
  hd : hasDictIn K C = true
  iC : findIn K (.ref C) "__init__" = some (some (.ref f))
  iF : isFn K (.ref f) = true
  op : nsIn K cStatics "thirdparty.any" = some none
  su : ks_superIn K C C "__init__" = some (some (.builtin ini))
  sB : subIn K (.ref C) (.type B) = some true
  mr : mroIn K C (.ref C) = some true
  gs : mg "super" = none
  top : (prog.main.scope.names.lookup ("super" : Str)).isSome = false
  fn : ∃ (oc doc pm ct : Value) (od an : Option Addr) (osl : Array (Option Value)) (cda cc : Addr) (qual msg : Str) (p1 p2 q1 q2 q3 q4 q5 q6 q7 q8 q9 q10 : Pos),
    K.lookup f = some ⟨oc, od, .func (ksFn "__init__" qual (xArgs fld p1 p2) (xBody fld msg q1 q2 q3 q4 q5 q6 q7 q8 q9 q10) (xScope fld) .none .none doc pm an (.ref cda) ct cc), osl⟩ ∧
    codeIn K (.ref cda) qual = true ∧
    (∃ (ccl : Value) (cdd : Option Addr) (vs : Array Value) (ccs : Array (Option Value)) (file : Str) (tf : Tok), K.lookup cda = some ⟨ccl, cdd, .fields vs, ccs⟩ ∧ vs[2]? = some (.str file tf) ∧ ((prog.main.file : Str) == file) = true) ∧
    (∃ (cl : Value) (cld : Option Addr) (csl : Array (Option Value)), K.lookup cc = some ⟨cl, cld, .cell (some (.ref C)), csl⟩) ∧ (q3.endLine == q5.line) = true
section
variable {prog : Program} {w : World} {A : Around} {E : Value → Shared → Prop} {R : Result → Shared → Prop} {s : Shared} {K : Frag} {mg : Str → Option Value} {B nw ini : String} {bmB : List Value} {C f : Addr} {fld : Str}

theorem nsKeep {h h' : Heap} {L : Addr} {m : Str → Option Value} {x : Addr} (hn : h.Ns L m) (ne : L ≠ x) (k : ∀ b o, b ≠ x → h.get? b = some o → h'.get? b = some o) : h'.Ns L m := by
  obtain ⟨o, es, ep, e, r⟩ := hn
  exact ⟨o, es, ep, k _ _ ne e, r⟩

theorem mcall {o : Expr} {name : Str} {apos pos : Pos} {args : List Expr} {env : Env} (hln : (apos.endLine == pos.line) = true) (hf : methodCallForm (args.length + 0) (backTo pos (starEach args env)) [] = true) :
    eval (.Call (.Attribute o name apos) args [] pos) env = (do
      let ov ← attributeBase o name env (eval o env)
      standAt apos.atName
      let (f, first) ← holding [ov] (getMethod ov name (do return (← importBound o env).getD true))
      callWith pos f first (backTo pos (starEach args env)) []) := by
  rw [arm_eval_Call]
  have hk : backToKw pos (keywordEach [] env) = [] := rfl
  have hp : methodCallPos true o env apos pos = pure pos := by
    unfold methodCallPos
    rw [if_pos (by rw [hln]; rfl)]
  unfold methodCall calleeOf
  rw [hk]
  have hf' : methodCallForm (args.length + ([] : List Keyword).length) (backTo pos (starEach args env)) [] = true := hf
  rw [hf', hp]
  rfl

theorem initRun (T : XT prog K mg B nw ini bmB C f fld) {x t0 : Addr} {v : Value} (X : K.In s.heap) (lim : s.heap.NoLimit) (gl : s.heap.Ns mainGlobals mg) (bl : ∃ mb, s.heap.Ns builtinsNs mb ∧ mb "super" = some (.type "super"))
    (hx : s.heap.get? x = some (excObj C t0 none .none)) (hnx : K.lookup x = none) (ngl : mainGlobals ≠ x) (nbl : builtinsNs ≠ x) (room : A.depth < recursionLimit) {args : Args} (ha : args = ⟨[.ref x, v], []⟩ ∨ args = ⟨[.ref x], [(fld, v)]⟩)
    (hq : ∀ h' tk dx t1, (∀ b o, b ≠ x → s.heap.get? b = some o → h'.get? b = some o) → s.heap.objs.size ≤ dx → dx ≠ x → h'.get? x = some (excObj C t1 (some dx) .none) →
      h'.Ns1 dx (fun y => if y = fld then some v else none) → R (.ok (.ret .none)) { s with heap := h', toks := tk }) :
    codeAny (model prog w) A (.call (.ref f) args) R s := by
  obtain ⟨oc, doc, pm, ct, od, an, osl, cda, cc, qual, msg, p1, p2, q1, q2, q3, q4, q5, q6, q7, q8, q9, q10, ho, hcd, ⟨ccl, cdd, vs, ccs, file, tf, hcode, hvs, hfile⟩, ⟨cl, cld, csl, hcell⟩, hln⟩ := T.fn
  obtain ⟨mb, hbl, hbs⟩ := bl
  rcases T.nm with rfl | rfl | rfl | rfl | rfl
  all_goals
    refine ks_codeAny_call_defAt (body := xBody _ msg q1 q2 q3 q4 q5 q6 q7 q8 q9 q10) (binds := [(("self" : Str), .ref x), (_, v)]) room (X _ _ ho) rfl lim (codeRec_of X hcd) rfl
      (by rcases ha with rfl | rfl <;> exact BindsTo.of_eq (by first | rfl | with_unfolding_all rfl)) (fun y hy => ?_) (fun y hy => ?_) (fun h1 hns hk1 => ?_) rfl rfl rfl
    · rcases List.mem_cons.mp hy with rfl | hy
      · intro z; cases z
      rcases List.mem_cons.mp hy with rfl | hy
      · intro z; cases z
      rcases List.mem_cons.mp hy with rfl | hy
      · intro z; cases z
      rcases List.mem_cons.mp hy with rfl | hy
      · intro z; cases z
      · cases hy
    · simp only [List.mem_cons, List.not_mem_nil, or_false] at hy
      rcases hy with rfl | rfl
      · rfl
      · rfl
    have hxs : x < s.heap.objs.size := Heap.lt_size hx
    have hL : s.heap.objs.size < h1.objs.size := hns.lt
    have X1 : K.In h1 := X.keeps hk1
    have hx1 := hk1 _ _ hx
    have I1 : W.InstAt h1 x (excObj C t0 none .none) C none := ⟨hx1, rfl, rfl, trivial⟩
    have hsub : W.Looks (model prog w) h1 (isInstance (.ref x) (.type B)) true := I1.type.andThen (looks_subIn X1 T.sB)
    show wpAt _ _ _ (execs (xBody _ msg q1 q2 q3 q4 q5 q6 q7 q8 q9 q10) _) _ _ _
    unfold xBody
    refine ks_wpAt_execs_cons (ks_wpAt_Expr_any (ks_wpAt_MethodCall ?_ (mcall hln rfl)))
    obtain ⟨cd, hclsIn⟩ : ∃ cd, clsIn K C = some cd := by
      have z := T.su
      unfold ks_superIn at z
      cases e : clsIn K C with
      | none => rw [e] at z; cases z
      | some cd => exact ⟨cd, rfl⟩
    have hcf : W.Looks (model prog w) h1 (mroOf (.ref C)) cd.mro := (looks_clsIn X1 hclsIn).andThen .now
    have hal : alongIn K "__init__" ((cd.mro.dropWhile (· != .ref C)).drop 1) = some (some (.builtin ini)) := by
      have z := T.su
      unfold ks_superIn at z
      rw [hclsIn] at z
      exact z
    obtain ⟨oD, hD1, hD2⟩ : ∃ oD, h1.get? C = some oD ∧ oD.data = .cls cd := by
      have z := hclsIn
      unfold clsIn at z
      split at z
      · rename_i c d cd' sl ho'
        cases z
        exact ⟨_, X1 _ _ ho', rfl⟩
      · cases z
    have hxC : x ≠ C := by
      intro z
      rw [z] at hnx
      unfold clsIn at hclsIn
      rw [hnx] at hclsIn
      cases hclsIn
    have hgl := nsKeep (x := x) gl ngl fun b o _ e => hk1 b o e
    have hbl1 := nsKeep (x := x) hbl nbl fun b o _ e => hk1 b o e
    -- super()
    refine ks_wpAt_super_base rfl rfl rfl rfl (X1 _ _ ho) rfl rfl rfl (X1 _ _ hcode) rfl hvs hfile T.top ?_
    refine ks_loadName_global rfl rfl (loadGlobal_builtin hgl T.gs hbl1 hbs ⟨rfl, ?_⟩)
    refine wpAny_loadName_free rfl rfl rfl ⟨_, X1 _ _ hcell, rfl⟩ ?_
    refine wpAny_loadName_local rfl rfl hns (by rfl) ?_
    refine ks_wpAny_isType_cls hD1 hD2 ⟨rfl, ?_⟩
    refine ks_wpAny_call_super hD1 hD2 hx1 rfl (fun c e => ?_) (looks_mroIn X1 T.mr) (fun h2 hso hk2 => ?_)
    · cases e
    -- .__init__
    have X2 : K.In h2 := X1.keeps hk2
    have hx2 := hk2 _ _ hx1
    refine kxs_getMethod T.KF hso (looks_opaque X2 T.op) (hcf.keeps hk2) rfl X2 hal (hsub.keeps hk2) hxC rfl ?_
    have hk3 : ∀ b o, h2.get? b = some o → (h2.push (kxs_mw ini x)).get? b = some o := fun b o e => Heap.get?_push_of_some _ e
    have hmw : (h2.push (kxs_mw ini x)).get? h2.objs.size = some (kxs_mw ini x) := Heap.get?_push_size h2 rfl
    have X3 : K.In (h2.push (kxs_mw ini x)) := X2.keeps hk3
    -- (text)
    refine kxs_callWith (i := ini) (x := x) rfl (evalArgs_plain (spliced_cons (wpAny_Constant_str (k := 0) (pos := q4) (spliced_nil ⟨hmw, ?_⟩))))
    obtain ⟨nm, N', qn, bs, bm, hdct, sn, sub, ab, col, dd, k0, k1, k2, k3, k5, hC, hT⟩ := excInit_of X3 T.exi
    refine wrapRun T.FB hC (hk3 _ _ hx2) hmw (by show 1 ≤ sizeLine; rw [sizeLine_eq]; omega) fun h4 hk4 hx4 => ?_
    -- self.fld = fld
    have kOld : ∀ b o, b ≠ x → s.heap.get? b = some o → h4.get? b = some o := fun b o ne e => hk4 b o ne (hk3 _ _ (hk2 _ _ (hk1 _ _ e)))
    have X4 : K.In h4 := fun a o e => hk4 a o (fun z => by rw [z, hnx] at e; cases e) (X3 a o e)
    have hns4 : h4.Ns s.heap.objs.size _ := nsKeep (x := x) hns (Nat.ne_of_gt hxs) fun b o ne e => hk4 b o ne (hk3 _ _ (hk2 _ _ e))
    refine ks_wpAt_execs_cons (ks_wpAt_Assign_Attr (wpAt_of_wpAny ?_))
    refine' wpAny_Name ?_ ?hd1
    case hd1 => decide
    refine wpAny_loadName_local rfl rfl hns4 (by rfl) ?_
    refine' wpAny_Name ?_ ?hd2
    case hd2 => decide
    refine wpAny_loadName_local rfl rfl hns4 (by rfl) ?_
    refine fieldRun T.SF X4 hx4 T.over T.tk T.hd T.sa fun h5 tk5 dx hk5 hbig hdx hx5 hfs => ?_
    refine wpAt_of_wpAny (wpAny_execs_nil (hq h5 _ dx _ (fun b o ne e => hk5 b o ne (kOld b o ne e)) ?_ hdx hx5 hfs))
    exact Nat.le_trans (Nat.le_of_lt hns4.lt) hbig

/-- such a class called: the new object, its dict with the one field -/
theorem makeRun (T : XT prog K mg B nw ini bmB C f fld) {v : Value} {a : Args} (ha : a = ⟨[v], []⟩ ∨ a = ⟨[], [(fld, v)]⟩) (X : K.In s.heap) (lim : s.heap.NoLimit) (gl : s.heap.Ns mainGlobals mg) (bl : ∃ mb, s.heap.Ns builtinsNs mb ∧ mb "super" = some (.type "super"))
    (room : A.depth + 1 < recursionLimit)
    (hq : ∀ h' tk e dx t1, (∀ b o, s.heap.get? b = some o → h'.get? b = some o) → s.heap.objs.size ≤ e → s.heap.objs.size ≤ dx → dx ≠ e → h'.get? e = some (excObj C t1 (some dx) .none) →
      h'.Ns1 dx (fun y => if y = fld then some v else none) → R (.ok (.ret (.ref e))) { s with heap := h', toks := tk }) :
    codeAny (model prog w) A (.call (.ref C) a) R s := by
  obtain ⟨nm, N', qn, bs, bm, hdct, sn, sub, ab, col, dd, k0, k1, k2, k3, k5, hC, hT⟩ := excInit_of X T.exi
  obtain ⟨oI, hoI, hcI⟩ : ∃ oI, s.heap.get? f = some oI ∧ oI.cls = .type "function" := by
    obtain ⟨o, ho, hc⟩ := Option.map_eq_some_iff.mp (show (K.lookup f).map (·.cls) = some (.type "function") from beq_iff_eq.mp T.iF)
    exact ⟨o, X _ _ ho, hc⟩
  have li : W.Looks (model prog w) s.heap (typeLookup (.ref C) "__init__") (some (.ref f)) := looks_findIn X T.iC
  obtain ⟨mb, hbl, hbs⟩ := bl
  obtain ⟨hp, g, d, tk0, os⟩ := s
  have go : ∀ (rest : List Value) (kw : List (Str × Value)), rest.length ≤ sizeLine → (∀ self, (⟨self :: rest, kw⟩ : Args) = ⟨[self, v], []⟩ ∨ (⟨self :: rest, kw⟩ : Args) = ⟨[self], [(fld, v)]⟩) →
      (∀ {Q' : Unit → Shared → Prop} {A' : Around} {E' : Value → Shared → Prop}, Q' () ⟨hp, g, d, tk0, os⟩ → wpAny (model prog w) A' (checkBuiltinCall nw ⟨.ref C :: rest, kw⟩) Q' E' ⟨hp, g, d, tk0, os⟩) →
      codeAny (model prog w) A (.call (.ref C) ⟨rest, kw⟩) R ⟨hp, g, d, tk0, os⟩ := by
    intro rest kw few hsh chk
    have kp : ∀ b o, hp.get? b = some o → ((hp.push (excTup rest)).push (excObj C hp.objs.size none .none)).get? b = some o := fun b o e => Heap.get?_push_of_some _ (Heap.get?_push_of_some _ e)
    have here : ((hp.push (excTup rest)).push (excObj C hp.objs.size none .none)).get? (hp.objs.size + 1) = some (excObj C hp.objs.size none .none) := by heap_get
    have newK : K.lookup (hp.objs.size + 1) = none := by
      cases e : K.lookup (hp.objs.size + 1) with
      | none => rfl
      | some o =>
        have z : hp.get? (hp.objs.size + 1) = some o := X _ _ e
        exact absurd (Nat.lt_of_succ_lt (Heap.lt_size z)) (Nat.lt_irrefl _)
    have far : ∀ {L : Addr} {m : Str → Option Value}, hp.Ns L m → L ≠ hp.objs.size + 1 := fun hn z => by
      have y := hn.lt
      rw [z] at y
      exact absurd (Nat.lt_of_succ_lt y) (Nat.lt_irrefl _)
    have keepNs : ∀ {L : Addr} {m : Str → Option Value}, hp.Ns L m → ((hp.push (excTup rest)).push (excObj C hp.objs.size none .none)).Ns L m := fun {L m} hn => by
      obtain ⟨o, es, ep, e, r⟩ := hn
      exact ⟨o, es, ep, kp _ _ e, r⟩
    refine classRun T.FB hT chk hC few li (fun self => exc_bind hoI hcI self) ?_
    refine initRun (s := ⟨(hp.push (excTup rest)).push (excObj C hp.objs.size none .none), g, d, tk0, os⟩) T (X.keeps kp) (lim.keeps kp) (keepNs gl) ⟨mb, keepNs hbl, hbs⟩ here newK (far gl) (far hbl) ?_ (hsh _) fun h' tk dx t1 k' big ne hx hn => ?_
    · show A.depth + 1 < recursionLimit
      exact room
    · have old : ∀ b o, hp.get? b = some o → h'.get? b = some o := fun b o e => k' b o (Nat.ne_of_lt (Nat.lt_succ_of_lt (Heap.lt_size e))) (kp b o e)
      have z : hp.objs.size + 1 + 1 ≤ dx := by
        have q := big
        rw [Heap.size_push, Heap.size_push] at q
        exact q
      exact ⟨rfl, hq h' tk (hp.objs.size + 1) dx t1 old (Nat.le_succ _) (Nat.le_trans (Nat.le_trans (Nat.le_succ _) (Nat.le_succ _)) z) ne hx hn⟩
  rcases ha with rfl | rfl
  · exact go [v] [] (by show 1 ≤ sizeLine; rw [sizeLine_eq]; omega) (fun self => .inl rfl) fun q => HandSPX.check_new_own T.FB hT hC q
  · exact go [] [(fld, v)] (Nat.zero_le _) (fun self => .inr rfl) fun q => newChk T.FB hT hC q
end
end Fx

set_option maxRecDepth 100000
set_option maxHeartbeats 4000000
namespace Fx
open PySem PySem.Spec PyProof.Rows L2
open PySem.W (Frag excObj InstAt)
/-- at a: an exception of the class at C, its dict at d, if it has one -/
def ExA (C : Addr) (d : Option Addr) (a : Addr) : HO := .ext fun h => ∃ t1 : Addr, h.get? a = some (excObj C t1 d .none)
theorem exA_ok {P : Program} {w : World} {H : Hp} {h : Heap} {C a t1 : Addr} {d : Option Addr} (e : h.get? a = some (excObj C t1 d .none)) : ObjOk P w H h a (ExA C d a) :=
  ⟨⟨t1, e⟩, ⟨_, e⟩, fun h1 h2 ⟨t, q⟩ k => ⟨t, k _ q⟩⟩
theorem exA_at {P : Program} {w : World} {H : Hp} {h : Heap} {C a : Addr} {d : Option Addr} (ok : HOk P w H h) (e : H a = some (ExA C d a)) : ∃ t1 : Addr, h.get? a = some (excObj C t1 d .none) := by
  have x : ObjOk P w H h a (.ext fun h => ∃ t1 : Addr, h.get? a = some (excObj C t1 d .none)) := ok a _ e
  exact x.1
section
variable {X : Cx} {pins : List (Addr × Obj)} {σ : L2.St} {H : Hp} {s : Shared}
/-- two new objects are laid and tracked -/
theorem laidTwo {h' : Heap} {a b : Addr} {oa ob : HO} {t' : Nat} (I : Inv X pins σ H s) (k : ∀ c u, s.heap.get? c = some u → h'.get? c = some u) (ha : s.heap.objs.size ≤ a) (hb : s.heap.objs.size ≤ b) (ne : b ≠ a)
    (na : ObjOk X.prog X.w (upd (upd H b ob) a oa) h' a oa) (nb : ObjOk X.prog X.w (upd (upd H b ob) a oa) h' b ob) : Inv X pins σ (upd (upd H b ob) a oa) { s with heap := h', toks := t' } := by
  have fa : H a = none := I.hok.fresh ha
  have fb : H b = none := I.hok.fresh hb
  have old : ∀ {c : Addr} {u : Obj}, s.heap.get? c = some u → c ≠ a ∧ c ≠ b := fun {c u} q => ⟨Nat.ne_of_lt (Nat.lt_of_lt_of_le (Heap.lt_size q) ha), Nat.ne_of_lt (Nat.lt_of_lt_of_le (Heap.lt_size q) hb)⟩
  have up : ∀ {c : Addr} {o : HO}, H c = some o → upd (upd H b ob) a oa c = some o := fun {c o} q => by
    rw [upd_ne (ne_of_none q fa), upd_ne (ne_of_none q fb)]
    exact q
  refine I.un (t' := t') ⟨fun c u q _ _ _ => k c u q, fun c u q _ _ _ => ⟨u.slots, k c u q⟩, fun c u q n _ => ?_, fun c u q _ => ⟨u, k c u q⟩, fun c xs q => up q, fun c o u q => up q, fun c ps q => ⟨#[], by rw [up q]; simp⟩⟩ fun c u q => ?_
  · rw [upd_ne (old q).1, upd_ne (old q).2]
    exact n
  · by_cases ca : c = a
    · subst ca
      rw [upd_same] at q
      cases q
      exact na
    · rw [upd_ne ca] at q
      by_cases cb : c = b
      · subst cb
        rw [upd_same] at q
        cases q
        exact nb
      · rw [upd_ne cb] at q
        exact (I.hok c u q).stay (fun c' v _ r => k c' v r) (fun c' r => up r) fun c' xs r => up r
end
/-- what isinstance and a field's reading ask of the class -/
structure XI (K : Frag) (C : Addr) : Prop where
  ga : PySem.W.findIn K (.ref C) "__getattribute__" = some (some (.builtin "BaseException.__getattribute__"))
  gg : PySem.W.findIn K (.ref C) "__getattr__" = some none
  sb : PySem.W.subIn K (.ref C) (.type "BaseException") = some true
  hd : PySem.W.hasDictIn K C = true
  cl : PySem.W.findIn K (.ref C) "__class__" = some (some (.builtin "object.__class__"))
  sp : PySem.W.specialIn K (.builtin "object.__class__") "__get__" = some (some (.builtin "getset_descriptor.__get__"))
  tk : PySem.W.takesIn K (.builtin "object.__class__") = some true
  mr : PySem.W.mroIn K C (.type "object") = some true
theorem XI.isCls {K : Frag} {C : Addr} (T : XI K C) : (PySem.W.clsIn K C).isSome = true := by
  obtain ⟨cd, e, _⟩ := PySem.W.any_some T.hd
  rw [e]
  rfl
section
variable {X : Cx} {B nw ini : String} {bmB : List Value} {C f : Addr} {fld x : Str} {e : Expr} {ta : TE} {p pos : Pos} {k : Nat}
/-- the reading of C(e): the new object at a, its dict at dx -/
def tMk (C : Addr) (fld : Str) (ta : TE) : TE := fun σ H Q => ta σ H fun v H1 => ∀ a dx, H1 a = none → H1 dx = none → dx ≠ a → Q (.ref a) (upd (upd H1 dx (.xd [(fld, v)])) a (ExA C (some dx) a))
theorem lookup_one {f g : Str} {v : V} {u : Value} (r : RelV v u) : RelO (List.lookup g [(f, v)]) (if g = f then some u else none) := by
  by_cases h : g = f
  · subst h
    rw [if_pos rfl]
    have q : List.lookup g [(g, v)] = some v := by simp [List.lookup]
    rw [q]
    exact r
  · rw [if_neg h]
    have qw : (g == f) = false := by simpa using h
    have q2 : List.lookup g [(f, v)] = none := by simp [List.lookup, qw]
    rw [q2]
    trivial
theorem made {pins : List (Addr × Obj)} {σ : L2.St} {H : Hp} {s : Shared} {Q : VK} {v : V} {u : Value} (T : XT X.prog X.K X.mg B nw ini bmB C f fld) (hr : Room k X.A) (I : Inv X pins σ H s) (r : RelV v u)
    (h : ∀ a dx, H a = none → H dx = none → dx ≠ a → Q (.ref a) (upd (upd H dx (.xd [(fld, v)])) a (ExA C (some dx) a))) {pa : List Value} {kw : List (Str × Value)} (hs : (⟨pa, kw⟩ : Args) = ⟨[u], []⟩ ∨ (⟨pa, kw⟩ : Args) = ⟨[], [(fld, u)]⟩) :
    wpAny (model X.prog X.w) X.A (call (.ref C) pa kw) (EP X pins σ Q) X.xe s := by
  obtain ⟨mb, hb, hbb⟩ := I.mod.blt
  obtain ⟨hp, g, d, tk, os⟩ := s
  refine wpAny_call (makeRun T hs I.kIn I.nolimit (I.mod.glob.keeps I.bk) ⟨mb, hb.keeps I.bk, (hbb _ (by decide)).trans (by decide +kernel)⟩ (by have := hr.dp; omega) fun h' tk' e dx t1 old ebig dbig ne he hn => ?_)
  have fa : H e = none := I.hok.fresh ebig
  have fd : H dx = none := I.hok.fresh dbig
  refine ⟨.ref e, _, laidTwo (t' := tk') (ob := .xd [(fld, v)]) (oa := ExA C (some dx) e) I old ebig dbig ne (exA_ok he) ⟨_, hn, fun g => lookup_one r⟩, rfl, h e dx fa fd ne⟩
theorem pe_mk (T : XT X.prog X.K X.mg B nw ini bmB C f fld) (hr : Room k X.A) (gC : X.mg x = some (.ref C)) (kC : PySem.W.keepIn X.K (.ref C) = true) (ha : PE X e ta) (hg : Gl X x := by rfl)
    (hs : starEach [e] X.env = (false, eval e X.env) :: starEach [] X.env := by rfl) (hdb : (x == ("__debug__" : Str)) = false := by decide) : PE X (.Call (.Name x p) [e] [] pos) (tMk C fld ta) := by
  refine ⟨fun pins s σ H Q I h => ?_⟩
  refine wpAny_Call_Name_kw (ld_glob I hg gC ?_ hdb)
  refine PySem.W.callWith_K (h₀ := X.base) I.ok.mod.kin kC ?_ hs (by rfl)
  rw [hs]
  show wpAny _ _ (spliced ((false, eval e X.env) :: backTo pos (starEach [] X.env))) _ _ s
  refine Calls.spliced_cons (thn (ha.run pins s σ H _ I h) fun u s1 ⟨v, H1, I1, r1, q1⟩ => ?_)
  refine Calls.spliced_nil ⟨I1.kIn, ?_⟩
  exact made T hr I1 r1 q1 (.inl rfl)
theorem pe_mkK {tk : TA} {kws : List Keyword} (T : XT X.prog X.K X.mg B nw ini bmB C f fld) (hr : Room k X.A) (gC : X.mg x = some (.ref C)) (kC : PySem.W.keepIn X.K (.ref C) = true) (hkw : PK X kws tk) (hg : Gl X x := by rfl)
    (hks : (backToKw pos (keywordEach kws X.env)).filterMap (·.1) = [fld] := by rfl) (hall : (backToKw pos (keywordEach kws X.env)).all (·.1.isSome) = true := by rfl) (hdb : (x == ("__debug__" : Str)) = false := by decide)
    (hpl : ((backTo pos (starEach [] X.env)).any (·.1) || (backToKw pos (keywordEach kws X.env)).any (·.1.isNone)) = false := by rfl) :
    PE X (.Call (.Name x p) [] kws pos) (fun σ H Q => tk σ H fun zs H1 => ∃ v, zs = [v] ∧ tMk C fld (fun _ H2 Q2 => Q2 v H2) σ H1 Q) := by
  refine ⟨fun pins s σ H Q I h => ?_⟩
  refine wpAny_Call_Name_kw (ld_glob I hg gC ?_ hdb)
  refine PySem.W.callWith_KW0 (h₀ := X.base) I.ok.mod.kin kC hall (thn (hkw.run pos pins s σ H _ I h) fun ws s1 ⟨zs, H1, I1, rz, v, ez, q⟩ => ⟨I1.kIn, ?_⟩) hpl
  subst ez
  rw [hks]
  cases rz with
  | cons r1 r2 =>
    cases r2
    exact made T hr I1 r1 q (.inr rfl)
end
/-! ### a field, and isinstance, of such an object that is held as a value -/
/-- the reading of e.n, e one of these exceptions -/
def tFx (K : Frag) (n : Str) (te : TE) : TE := fun σ H Q => te σ H fun x H1 => ∃ (a C d : Addr) (fs : List (Str × V)) (v : V), x = .ref a ∧ H1 a = some (ExA C (some d) a) ∧ H1 d = some (.xd fs) ∧ fs.lookup n = some v ∧
  XI K C ∧ PySem.W.findIn K (.ref C) n = some none ∧ Q v H1
theorem instOf {P : Program} {w : World} {H : Hp} {h : Heap} {a C d : Addr} {fs : List (Str × V)} (ok : HOk P w H h) (ha : H a = some (ExA C (some d) a)) (hd : H d = some (.xd fs)) :
    ∃ (t1 : Addr) (mA : Str → Option Value) (od : Obj), InstAt h a (excObj C t1 (some d) .none) C (some od) ∧ (∀ f, RelO (fs.lookup f) (mA f)) ∧ ∀ y, PySem.W.lookIn y od = some (mA y) := by
  obtain ⟨t1, e⟩ := exA_at ok ha
  have hx : ObjOk P w H h d (.xd fs) := ok d _ hd
  obtain ⟨mA, hns, hr⟩ := hx
  obtain ⟨od, ho, hl⟩ := lookIn_ns hns
  exact ⟨t1, mA, od, ⟨e, rfl, rfl, ho⟩, hr, hl⟩
theorem pe_fx {X : Cx} {e : Expr} {te : TE} {pos : Pos} {n : Str} (he : PE X e te) (hb : attributeBase e n X.env (eval e X.env) = eval e X.env := by rfl) : PE X (.Attribute e n pos) (tFx X.K n te) := by
  refine ⟨fun pins s σ H Q I h => ?_⟩
  refine attr_of hb (thn (he.run pins s σ H _ I h) fun u s1 hh => ?_)
  obtain ⟨x, H1, I1, rx, a, C, d, fs, v, ex, ea, ed, l, T, hno, q⟩ := hh
  subst ex
  obtain rfl : u = Value.ref a := rx
  obtain ⟨t1, mA, od, J, hr, hl⟩ := instOf I1.hok ea ed
  obtain ⟨u, hu, ru⟩ := RelO.some_of (v := v) (o := mA n) (by rw [← l]; exact hr n)
  exact HandSPX.exc_get I1.kIn J T.ga T.gg T.sb (PySem.W.findObj_own T.hd hno rfl (by rw [hl, hu])) (handed_of ru) ⟨v, H1, I1.tok _, ru, q⟩
/-- isinstance(e, c) of such an object -/
def rIsx (K : Frag) : List V → Hp → VK → Prop := fun xs H Q => ∃ (a C : Addr) (d : Option Addr) (c : V) (u : Value) (b : Bool), xs = [.ref a, c] ∧ H a = some (ExA C d a) ∧ (∀ dx, d = some dx → ∃ fs, H dx = some (.xd fs)) ∧ XI K C ∧ ClsV c u ∧
  PySem.W.kitOne K (.ref C) u = some b ∧ Q (.bl b) H
def rIsxT (K : Frag) : List V → Hp → VK → Prop := fun xs H Q => ∃ (a C : Addr) (d : Option Addr) (tp : Addr) (cs : List V) (us : List Value) (b : Bool), xs = [.ref a, .ref tp] ∧ H a = some (ExA C d a) ∧ (∀ dx, d = some dx → ∃ fs, H dx = some (.xd fs)) ∧ XI K C ∧
  H tp = some (.tup cs) ∧ Paired ClsV cs us ∧ PySem.W.kitAny K (.ref C) us = some b ∧ Q (.bl b) H
theorem instAny {P : Program} {w : World} {H : Hp} {h : Heap} {a C : Addr} {d : Option Addr} (ok : HOk P w H h) (ha : H a = some (ExA C d a)) (hd : ∀ dx, d = some dx → ∃ fs, H dx = some (.xd fs)) :
    ∃ (ox : Obj) (od : Option Obj), InstAt h a ox C od := by
  cases d with
  | none =>
    obtain ⟨t1, e⟩ := exA_at ok ha
    exact ⟨_, none, e, rfl, rfl, trivial⟩
  | some dx =>
    obtain ⟨fs, e⟩ := hd dx rfl
    obtain ⟨t1, mA, od, J, _, _⟩ := instOf ok ha e
    exact ⟨_, _, J⟩
section
variable {X : Cx}
theorem call_isx : CallR X (.builtin "isinstance") (rIsx X.K) := by
  intro pins s σ H xs us Q I r h
  obtain ⟨a, C, d, c, u, b, rfl, ha, hd, T, k, e, q⟩ := h
  obtain ⟨u1, u2, rfl, r1, r2⟩ := vals2 r
  cases (show u1 = Value.ref a from r1)
  have e2 := k.eq r2
  subst e2
  obtain ⟨ox, od, J⟩ := instAny I.hok ha hd
  exact PySem.W.kia_one (PySem.W.kitx_exc T.isCls T.ga T.gg T.sb T.cl T.sp T.tk T.mr) I.kIn J e (fun z => nomatch z) fun tk => ⟨.bl b, H, I.tok tk, rfl, q⟩
theorem call_isxT : CallR X (.builtin "isinstance") (rIsxT X.K) := by
  intro pins s σ H xs us Q I r h
  obtain ⟨a, C, d, tp, cs, ws, b, rfl, ha, hd, T, hT, k, e, q⟩ := h
  obtain ⟨u1, u2, rfl, r1, r2⟩ := vals2 r
  cases (show u1 = Value.ref a from r1)
  cases (show u2 = Value.ref tp from r2)
  obtain ⟨ox, od, J⟩ := instAny I.hok ha hd
  obtain ⟨_, its, rv, o, h1, h2, n, h3⟩ := (show ObjOk X.prog X.w H s.heap tp (.tup cs) from I.hok tp _ hT)
  have e3 := ClsV.all k rv
  subst e3
  obtain ⟨oc, odd, dt, sl⟩ := o
  simp only at h2 h3
  subst h2 h3
  exact PySem.W.kia_tup (PySem.W.kitx_exc T.isCls T.ga T.gg T.sb T.cl T.sp T.tk T.mr) I.kIn J h1 e (fun z => nomatch z) fun tk => ⟨.bl b, H, I.tok tk, rfl, q⟩
end
/-! ### C(), a class of these without an __init__ of its own -/
section
variable {X : Cx} {B nw ini : String} {bmB : List Value} {C : Addr} {x : Str} {p pos : Pos}
theorem pe_mk0 (FB : ExcBaseFacts B nw ini bmB) (hi : PySem.W.findIn X.K (.ref C) "__init__" = some (some (.builtin ini))) (q : PySem.W.excInitIn X.K C bmB nw = true) (gC : X.mg x = some (.ref C)) (kC : PySem.W.keepIn X.K (.ref C) = true) (hg : Gl X x := by rfl) (hdb : (x == ("__debug__" : Str)) = false := by decide) :
    PE X (.Call (.Name x p) [] [] pos) (fun _ H Q => ∀ a, H a = none → Q (.ref a) (upd H a (ExA C none a))) := by
  refine ⟨fun pins s σ H Q I h => ?_⟩
  refine wpAny_Call_Name_kw (ld_glob I hg gC ?_ hdb)
  refine PySem.W.callWith_K0 I.kIn kC ?_
  obtain ⟨nm, N', qn, bs, bm, hdct, sn, sub, ab, col, dd, k0, k1, k2, k3, k5, hC, hT⟩ := PySem.W.excInit_of I.kIn q
  have li : PySem.W.Looks (model X.prog X.w) s.heap (typeLookup (.ref C) "__init__") (some (.builtin ini)) := PySem.W.looks_findIn I.kIn hi
  obtain ⟨hp, g, d, tk, os⟩ := s
  refine PySem.W.call_B FB hT hC li (Nat.zero_le _) fun h' k he ht => ?_
  have n0 : hp.get? (hp.objs.size + 1) = none := Heap.get?_none_of_le (Nat.le_succ _)
  have fa : H (hp.objs.size + 1) = none := I.hok.fresh (Nat.le_succ _)
  exact ⟨.ref (hp.objs.size + 1), _, I.laid (t' := tk) k (Nat.le_succ _) (exA_ok he), rfl, h _ fa⟩
end
end Fx

set_option maxRecDepth 100000
set_option maxHeartbeats 4000000
namespace Fx
open PySem PySem.Spec PyProof.Rows L2
open PySem.W (Frag)
/-! ### repr of data; {} among them -/
mutual
inductive Dz (K : Frag) (H : Hp) : V → PyData → Prop
  | non : Dz K H .non .none
  | bl (b : Bool) : Dz K H (.bl b) (.bool b)
  | int (i : Int) : Dz K H (.int i) (.int i)
  | str (x : Str) : Dz K H (.str x) (.str x)
  | lst {a : Addr} {xs : List V} {ds : List PyData} : SqL K H a xs → DzAll K H xs ds → Dz K H (.ref a) (.list ds)
  | tup {a : Addr} {xs : List V} {ds : List PyData} : SqT K H a xs → DzAll K H xs ds → Dz K H (.ref a) (.tuple ds)
  | dct {a : Addr} : Rd H a (.dK []) → Dz K H (.ref a) (.dict [])
inductive DzAll (K : Frag) (H : Hp) : List V → List PyData → Prop
  | nil : DzAll K H [] []
  | cons {v : V} {vs : List V} {d : PyData} {ds : List PyData} : Dz K H v d → DzAll K H vs ds → DzAll K H (v :: vs) (d :: ds)
end
mutual
def noLst : PyData → Bool
  | .list _ => false
  | .tuple xs => noLsts xs
  | _ => true
def noLsts : List PyData → Bool
  | [] => true
  | x :: xs => noLst x && noLsts xs
end
section
variable {X : Cx} {pins : List (Addr × Obj)} {σ : L2.St} {H : Hp} {s : Shared}
mutual
theorem Dz.reads (I : Inv X pins σ H s) : ∀ (d : PyData) (v : V) (u : Value), Dz X.K H v d → RelV v u → ∃ as, Reads s.heap u d as ∧ (noLst d = true → sysModules ∉ as)
  | .none, _, _, h, r => by
    cases h
    cases r
    exact ⟨_, Reads.none, fun _ h => nomatch h⟩
  | .bool b, _, _, h, r => by
    cases h
    cases r
    exact ⟨_, Reads.bool b, fun _ h => nomatch h⟩
  | .int i, _, _, h, r => by
    cases h
    obtain ⟨t, rfl⟩ := r
    exact ⟨_, Reads.int i t, fun _ h => nomatch h⟩
  | .str x, _, _, h, r => by
    cases h
    obtain ⟨t, rfl⟩ := r
    exact ⟨_, Reads.str x t, fun _ h => nomatch h⟩
  | .list ds, _, _, h, r => by
    cases h with
    | lst hs ha =>
      cases r
      obtain ⟨its, rv, ⟨o, n, ho, hc, _, hd⟩, _⟩ := I.list hs
      obtain ⟨as, hr, hm⟩ := Dz.readsAll I ds _ its ha rv
      exact ⟨_, Reads.list ho hc hd hr, fun z => by simp [noLst] at z⟩
  | .tuple ds, _, _, h, r => by
    cases h with
    | tup hs ha =>
      cases r
      obtain ⟨its, rv, ⟨o, ho, hc, n, hd⟩, _⟩ := I.tuple hs
      obtain ⟨as, hr, hm⟩ := Dz.readsAll I ds _ its ha rv
      exact ⟨_, Reads.tuple ho hc hd hr, fun z => hm (by simpa [noLst] using z)⟩
  | .dict [], _, _, h, r => by
    cases h with
    | @dct a0 e =>
      cases r
      have ok : ObjOk X.prog X.w H s.heap a0 (.dK []) := e.ok I.hok
      obtain ⟨_, hno, vs, rv, o, es, ep, h1, h2, h3, h4, h5, _⟩ := ok
      cases rv
      have e0 : es.toList = [] := by
        cases q : es.toList with
        | nil => rfl
        | cons y ys =>
          rw [q] at h5
          cases h5
      refine ⟨_, Reads.dict h1 h2.1 h3 (as := []) (bs := []) (by rw [e0]; exact ReadsAll.nil) (by rw [e0]; exact ReadsAll.nil), fun _ hm => ?_⟩
      simp only [List.append_nil, List.mem_singleton] at hm
      rw [← hm] at hno
      exact absurd hno (by decide)
  | .dict (_ :: _), _, _, h, _ => by cases h
theorem Dz.readsAll (I : Inv X pins σ H s) : ∀ (ds : List PyData) (vs : List V) (us : List Value), DzAll X.K H vs ds → Vals vs us → ∃ as, ReadsAll s.heap us ds as ∧ (noLsts ds = true → sysModules ∉ as)
  | [], _, _, h, r => by
    cases h
    cases r
    exact ⟨_, ReadsAll.nil, fun _ h => nomatch h⟩
  | d :: ds, _, _, h, r => by
    cases h with
    | cons h1 h2 =>
      cases r with
      | cons r1 r2 =>
        obtain ⟨as, q1, m1⟩ := Dz.reads I d _ _ h1 r1
        obtain ⟨bs, q2, m2⟩ := Dz.readsAll I ds _ _ h2 r2
        refine ⟨_, ReadsAll.cons q1 q2, fun z h => ?_⟩
        obtain ⟨z1, z2⟩ := Bool.and_eq_true_iff.mp (show (noLst d && noLsts ds) = true by simpa [noLsts] using z)
        rcases List.mem_append.mp h with h | h
        · exact m1 z1 h
        · exact m2 z2 h
end
end
/-- repr(x): the text of x's data -/
def rRepr (K : Frag) : List V → Hp → VK → Prop := fun xs H Q => ∃ (x : V) (d : PyData), xs = [x] ∧ Dz K H x d ∧ d.showable = true ∧ (d.hasDict = false ∨ noLst d = true) ∧ d.depth ≤ 60 ∧ d.shown.length ≤ sizeLine ∧ Q (.str d.shown) H
theorem call_repr {X : Cx} {k : Nat} (hg : X.A.guards = some []) (hr : Room k X.A) : CallR X (.builtin "repr") (rRepr X.K) := by
  intro pins s σ H xs us Q I r h
  obtain ⟨x, d, rfl, hd, hs, hq, hdp, hz, q⟩ := h
  obtain ⟨u, rfl, rx⟩ := vals1 r
  have hu := hr.units
  have big : ∀ {a : Addr}, u = .ref a → wpAny (model X.prog X.w) X.A (call (.builtin "repr") [u]) (EP X pins σ Q) X.xe s := fun {a} eu => by
    subst eu
    obtain ⟨as, rd, no⟩ := Dz.reads I d x _ hd rx
    refine repr_of_reads' rd hs (fun z => ?_) hg (by omega) (fun _ _ e => e) (fun h' tk1 tk kp => ?_) hz
    · rcases hq with hq | hq
      · rw [hq] at z
        cases z
      · exact no hq
    · exact ⟨.str d.shown, H, I.kept (t' := tk) kp, ⟨_, rfl⟩, q⟩
  cases hd with
  | non =>
    obtain rfl : u = Value.none := rx
    exact P.repr_of_none ⟨.str _, H, I.tok _, ⟨_, rfl⟩, q⟩
  | bl b =>
    obtain rfl : u = Value.bool b := rx
    exact P.repr_of_bool ⟨.str _, H, I.tok _, ⟨_, rfl⟩, q⟩
  | int i =>
    obtain ⟨t, rfl⟩ := rx
    exact P.repr_of_int (by simpa [PyData.showable] using hs) ⟨.str _, H, I.tok _, ⟨_, rfl⟩, q⟩
  | str x =>
    obtain ⟨t, rfl⟩ := rx
    exact P.repr_of_str ⟨.str _, H, I.tok _, ⟨_, rfl⟩, q⟩ (by simpa [PyData.shown] using hz)
  | lst _ _ => exact big rx
  | tup _ _ => exact big rx
  | dct _ => exact big rx
/-! ### defs that ask for repr: no repr is under way around them -/
structure FnG (P : Program) (w : World) (K : Frag) (mg : Str → Option Value) (base : Heap) (CX : CXT) (k : Nat) (f : Addr) (fd : FuncData) (ps : List Str) (sp : Sp) : Prop where
  len : ∀ vs H Q E, sp vs H Q E → vs.length = ps.length
  run : ∀ (A : Around) (outer : List Env) (s : Shared) (H : Hp) (args : Args) (us : List Value) (vs : List V) (Q : VK) (E : XK), A.guards = some [] → Room k A → Env0 P w K mg base A outer s H → BindsTo s fd args (ps.zip us) → Vals vs us → sp vs H Q E →
    codeAny (model P w) A (.call (.ref f) args) (CR CX outer P w H s Q E) s
theorem fnG_of {CX : CXT} {P : Program} {w : World} {K : Frag} {mg : Str → Option Value} {base : Heap} {k : Nat} {f : Addr} {name qual : Str} {params : Arguments} {body : List Stmt} {scope : Scope} {dV kV doc pm cdv ct oc : Value} {an od : Option Addr}
    {osl : Array (Option Value)} {N ps : List Str} {sp : Sp} (lk : K.lookup f = some ⟨oc, od, .func (PySem.W.fnOf name qual params body scope dV kV doc pm an cdv ct), osl⟩) (hcd : PySem.W.codeIn K cdv qual = true) (S : FnScope N ps scope)
    (len : ∀ vs H Q E, sp vs H Q E → vs.length = ps.length)
    (hbody : ∀ (A : Around) (outer : List Env) (s : Shared) (H : Hp) (vs : List V) (Q : VK) (E : XK), (A.deeper (envOfC qual scope s.heap.objs.size f cdv)).guards = some [] → Room k (A.deeper (envOfC qual scope s.heap.objs.size f cdv)) → sp vs H Q E →
      ∃ t, PSs (cxOf CX P w K mg base N qual scope f cdv A outer s H E) body t ∧ t { nx := fun _ H' => Q .non H', rt := Q } (start N vs) H) :
    FnG P w K mg base CX (k + 1) f (PySem.W.fnOf name qual params body scope dV kV doc pm an cdv ct) ps sp := by
  refine ⟨len, fun A outer s H args us vs Q E hgd hr e0 hb r hsp => ?_⟩
  have hl := len _ _ _ _ hsp
  have KX : K.In s.heap := e0.mod.kin.keeps fun b o e => (e0.bs b o e).1
  have lim : s.heap.NoLimit := e0.mod.nolimit.keeps fun b o e => (e0.bs b o e).1
  have kinds : ∀ y ∈ ps.zip us, scope.names.lookup y.1 = some .local ∨ (scope.names.lookup y.1 = some .cell ∧ ((cellsFrom (s.heap.objs.size + 1) scope.names []).lookup y.1).isSome = true) := fun ⟨n, v⟩ hy => by
    rcases S.par n (List.of_mem_zip hy).1 with q | q
    · exact .inl q
    · exact .inr ⟨q, PySem.W.cellsFrom_some _ _ _ (.inl q)⟩
  refine codeAny_call_function hr.depth (KX _ _ lk) rfl S.co S.gen rfl (PySem.W.codeRec_of KX hcd) (hb _ _ _ _ ?_)
  refine wpAny_newFunctionEnv_cells S.kind kinds fun env he s1 x => ?_
  subst he
  refine ⟨lim.keeps x.toInCall.keep, codeAny_func ?_⟩
  obtain ⟨t, ht, hq⟩ := hbody A outer s H vs Q E (by first | exact hgd | simpa [Around.deeper] using hgd) (hr.deeper _) hsp
  have I : Inv (cxOf CX P w K mg base N qual scope f cdv A outer s H E) [] (start N vs) H s1 := inv_start S hr.hd e0 hl r x
  refine wpAny_mono (ht.run [] s1 (start N vs) H _ I hq) (fun fl s' hs => ?_) fun e s' hs => hs
  cases fl with
  | ret u =>
    obtain ⟨v, σ', H', J, rv, q⟩ := hs
    exact ⟨v, H', J.os, J.bare, J.base, J.hok, rv, q⟩
  | next =>
    obtain ⟨σ', H', J, q⟩ := hs
    exact ⟨V.non, H', J.os, J.bare, J.base, J.hok, rfl, q⟩
  | brk =>
    obtain ⟨_, _, _, q⟩ := hs
    exact False.elim q
  | cont =>
    obtain ⟨_, _, _, q⟩ := hs
    exact False.elim q
end Fx

set_option maxRecDepth 100000
set_option maxHeartbeats 4000000
namespace Fx
open PySem PySem.Spec PyProof.Rows L2
open PySem.W (Frag)
theorem intVals : ∀ {vs : List Value} {ns : List Int}, IntsAre vs ns → Vals (ns.map V.int) vs
  | _, _, .nil => .nil
  | _, _, .cons n t h => .cons ⟨t, rfl⟩ (intVals h)
/-- the law's call at the heap behind the top, for a promise of the second kind -/
theorem lawCallG {P : Program} {w : World} {K : Frag} {mg mb : Str → Option Value} {k : Nat} {fa a : Addr} {fd : FuncData} {x : Str} {sp : Sp} {s1 : Shared} {vs : List Value} {ns : List Int}
    (KX : K.In s1.heap) (gl : s1.heap.Ns mainGlobals mg) (bl : s1.heap.Ns builtinsNs mb) (blb : ∀ x : Str, x ≠ "__name__" → mb x = bootBuiltins x) (lim : s1.heap.NoLimit) (hg : s1.gens = #[])
    (ha : s1.heap.get? a = some { cls := .type "list", data := .seq vs.toArray }) (hi : IntsAre vs ns) (hl : ns.length ≤ sizeLine) (hr : Room k callerA)
    (F : ∀ base : Heap, K.In base → base.Ns mainGlobals mg → FnG P w K mg base CX0 k fa fd [x] sp) (hbind : ∀ (s : Shared) (u : Value), BindsTo s fd ⟨[u], []⟩ [(x, u)])
    (hsp : ∀ H : Hp, Only H → SqL K H a (ns.map V.int) → sp [.ref a] H (fun v _ => v = .bl true) fun _ _ _ => False) :
    codeAny (model P w) callerA (.call (.ref fa) ⟨[.ref a], []⟩) (fun r s' => r = .ok (.ret (.bool true)) ∧ OldK s1.heap s'.heap ∧ s'.os = s1.os ∧ AllBare s'.gens) s1 := by
  have rv := intVals hi
  have go : ∀ H : Hp, Only H → SqL K H a (ns.map V.int) → HOk P w H s1.heap → (∀ b, H b ≠ none → b = a) → (H a ≠ none → K.lookup a = none) →
      codeAny (model P w) callerA (.call (.ref fa) ⟨[.ref a], []⟩) (fun r s' => r = .ok (.ret (.bool true)) ∧ OldK s1.heap s'.heap ∧ s'.os = s1.os ∧ AllBare s'.gens) s1 := by
    intro H only seq ok own nok
    have noA : ∀ {b : Addr} {o : Obj} {es : Array DictEntry} {ep : Nat}, s1.heap.get? b = some o → o.data = .dict es ep → H b = none := fun {b o es ep} e d => by
      cases q : H b with
      | none => rfl
      | some u =>
        obtain rfl : b = a := own b (by rw [q]; simp)
        rw [ha] at e
        cases e
        exact nomatch d
    have nsK : ∀ {b : Addr} {m : Str → Option Value}, s1.heap.Ns b m → (hidT s1.heap H).Ns b m := fun {b m} ⟨o, es, ep, e, d, r⟩ => ⟨o, es, ep, hidT_get e (noA e d), d, r⟩
    have KB : K.In (hidT s1.heap H) := fun b o e => hidT_get (KX b o e) (by
      cases q : H b with
      | none => rfl
      | some u =>
        obtain rfl : b = a := own b (by rw [q]; simp)
        rw [nok (by rw [q]; simp)] at e
        cases e)
    have md : Mod K mg (hidT s1.heap H) := ⟨KB, nsK gl, ⟨mb, nsK bl, blb⟩, let ⟨mc, h1, h2⟩ := lim; ⟨mc, nsK h1, h2⟩⟩
    have e0 : Env0 P w K mg (hidT s1.heap H) callerA [] s1 H := ⟨rfl, md, fun b o e => of_hidT e, Nat.le_of_eq (hidT_size _ _), trivial, fun b hb => absurd (show b ∈ ([] : List Addr) from hb) (by simp), ok, .of_eq hg⟩
    refine codeAny_mono ((F _ KB (nsK gl)).run callerA [] s1 H ⟨[.ref a], []⟩ [.ref a] [.ref a] _ _ rfl hr e0 (hbind s1 (.ref a)) (.cons rfl .nil) (hsp H only seq)) fun r s' h => ?_
    cases r with
    | error e => exact False.elim h
    | ok fl =>
      cases fl with
      | next => exact False.elim h
      | brk => exact False.elim h
      | cont => exact False.elim h
      | ret u =>
        obtain ⟨v, H', os, bare, un, ok', r', q⟩ := h
        obtain rfl : v = .bl true := q
        obtain rfl : u = Value.bool true := r'
        refine ⟨rfl, OldK.of_keep fun b o e => ?_, os, bare⟩
        cases q : H b with
        | none => exact un.keep b o e q (fun z => absurd (show b ∈ ([] : List Addr) from z) (by simp)) (by simp)
        | some u =>
          rcases only b with z | ⟨ob, xs, z⟩
          · rw [q] at z
            cases z
          · obtain ⟨e1, _⟩ := ok b _ z
            obtain ⟨e2, _⟩ := ok' b _ (un.frzs b ob _ z)
            rw [e] at e1
            cases e1
            exact e2
  cases hk : K.lookup a with
  | some o =>
    have e := KX a o hk
    rw [ha] at e
    cases e
    refine go (fun _ => none) (fun _ => .inl rfl) (.inr ⟨_, vs.toArray, _, hk, rfl, rfl, rfl, by rw [List.size_toArray, hi.length]; exact hl, by simpa using rv⟩) (fun b u z => by cases z) (fun b z => absurd rfl z) fun z => absurd rfl z
  | none =>
    refine go (fun b => if b = a then some (.frz { cls := .type "list", data := .seq vs.toArray } (.lst (ns.map V.int))) else none) (fun b => ?_) (.inl (.inr ⟨{ cls := .type "list", data := .seq vs.toArray }, if_pos rfl⟩)) (fun b u z => ?_) (fun b z => ?_) fun _ => hk
    · by_cases hb : b = a
      · exact .inr ⟨_, _, if_pos hb⟩
      · exact .inl (if_neg hb)
    · by_cases hb : b = a
      · have y := (if_pos hb).symm.trans z
        cases y
        subst hb
        exact ⟨ha, by rw [List.length_map]; exact hl, vs, _, rv, ha⟩
      · have y := (if_neg hb).symm.trans z
        cases y
    · by_cases hb : b = a
      · exact hb
      · exact absurd (if_neg hb) z
/-- the goal that k_head leaves, from the law's promise -/
theorem walkG {l : PySem.W.OpenLaw} {n k : Nat} {q : Program} {loose : List Str} {XP : (Str → Option Value) → Heap → Prop} {YP : World → Heap → Prop} {d : DefRec} {K : Params → Frag} {sp : World → Sp} {x : Str}
    (hn : l.most = some n) (hn2 : n ≤ sizeLine) (hdf : d.params.defaults = []) (hr : Room k callerA) (hY : ∀ (w : World) (h : Heap), YP w h → (K w.params).In h)
    (F : ∀ (w : World) (mg : Str → Option Value) (fa : Addr) (h : Heap), (K w.params).In h → h.Ns mainGlobals mg → mg d.name = some (.ref fa) →
      ∃ fd : FuncData, (∀ (s : Shared) (u : Value), BindsTo s fd ⟨[u], []⟩ [(x, u)]) ∧ ∀ base : Heap, (K w.params).In base → base.Ns mainGlobals mg → FnG l.prog w (K w.params) mg base CX0 k fa fd [x] (sp w))
    (hsp : ∀ (w : World) (H : Hp) (a : Addr) (ns : List Int), ns.length ≤ n → Only H → SqL (K w.params) H a (ns.map V.int) → sp w [.ref a] H (fun v _ => v = .bl true) fun _ _ _ => False) :
    PySem.W.WalkO q loose XP YP l.row.toRowW d [] (fun f vs => PySem.call f vs) := by
  refine Att.attach_call hn hdf fun w s0 s1 mg mb fa o pm cd doc a vs ns G Y ho hd hcd hmg hobj hints hlen hg => ?_
  have KX := hY w _ Y
  obtain ⟨fd, hb, hF⟩ := F w mg fa _ KX G.T.g hmg
  exact lawCallG KX G.T.g G.T.b G.T.builtins G.T.nolimit hg hobj hints (Nat.le_trans hlen hn2) hr hF hb fun H hO hS => hsp w H a ns hlen hO hS
end Fx

set_option maxRecDepth 100000
set_option maxHeartbeats 4000000
namespace Fx
open PySem PySem.Spec PyProof.Rows L2
open PySem.W (Frag)
/-- len(x), the class having a __len__ of its own -/
def rLenI (C : Addr) (sp : Sp) (E : XK) : List V → Hp → VK → Prop := fun xs H Q => ∃ (x dx : Addr) (fs : List (Str × V)), xs = [.ref x] ∧ H x = some (.ins C dx fs) ∧ sp [.ref x] H (fun v H' => ∃ n : Int, v = .int n ∧ 0 ≤ n ∧ n < 2 ^ 63 ∧ Q (.int n) H') E
section
variable {X : Cx}
theorem call_lenI {CX : CXT} {C f : Addr} {fd : FuncData} {k : Nat} {ps : List Str} {sp : Sp} {E : XK} (F : FnOk X.prog X.w X.K X.mg X.base CX k f fd ps sp)
    (hs : PySem.W.findIn X.K (.ref C) "__len__" = some (some (.ref f))) (hf : PySem.W.isFn X.K (.ref f) = true) (hb : Binds X.K fd ps []) (hx : Passes CX X E) (hr : Room (k + 1) X.A) : CallR X (.builtin "len") (rLenI C sp E) := by
  intro pins s σ H xs us Q I r h
  obtain ⟨x, dx, fs, rfl, hx', hsp⟩ := h
  obtain ⟨u, rfl, rx⟩ := vals1 r
  cases rx
  obtain ⟨mA, J, _⟩ := ins_get I.hok hx'
  obtain ⟨od, J, _⟩ := J.look
  obtain ⟨m, hF⟩ := I.fr
  refine PySem.W.len_K hF I.ok.mod.kin J hs hf ?_
  have sb : Sub X k X.A.in1 := ⟨hr.in1, rfl⟩
  have e0 : Env0 X.prog X.w X.K X.mg X.base X.A.in1 X.stack s H := by
    have e := I.env0
    exact ⟨by rw [sb.fr]; exact e.frames, e.mod, e.bs, e.bsz, e.funs, e.frf, e.hok, e.bare⟩
  have hl := F.len _ _ _ _ hsp
  have r2 : Vals [V.ref x] [Value.ref x] := .cons rfl .nil
  refine wpAny_call (codeAny_mono (F.run X.A.in1 X.stack s H ⟨[.ref x], []⟩ [.ref x] [.ref x] _ E sb.room e0 (by
    have := hb s [.ref x] I.kIn (by simpa using hl)
    simpa using this) r2 hsp) fun r s' hq => ?_)
  cases r with
  | error e => exact hx pins σ H s e s' I hq
  | ok fl =>
    cases fl with
    | ret w =>
      obtain ⟨z, H', I', rz, n, ez, h0, h1, q⟩ := I.after hq
      subst ez
      obtain ⟨t, rfl⟩ := rz
      exact ⟨⟨h0, h1⟩, .int n, H', I'.tok _, ⟨_, rfl⟩, q⟩
    | next => exact False.elim hq
    | brk => exact False.elim hq
    | cont => exact False.elim hq
end
end Fx

set_option maxRecDepth 100000
set_option maxHeartbeats 4000000
namespace Fx
open PySem PySem.Spec PyProof.Rows L2
open PySem.W (Frag)
open AutoSeq1 (wpAny_loadPart')
/-! ### enumerate(tuple) -/
theorem meets_enumerate_newT (l : Addr) (items : Array Value) (n : Nat) (dct : Option Addr) (sl : Array (Option Value)) :
    Meets (Builtin.«enumerate.__new__» ⟨[.type "enumerate", .ref l], []⟩) (fun _ R s => s.heap.get? l = some { cls := .type "tuple", dict := dct, data := .seq items n, slots := sl } ∧
      R (.ok (.ret (.ref (s.heap.push { cls := .type "tuple_iterator", data := .fields #[.ref l, .int 0 0] }).objs.size)))
        { s with heap := (s.heap.push { cls := .type "tuple_iterator", data := .fields #[.ref l, .int 0 0] }).push { cls := .type "enumerate", data := .fields #[.none, .bool false, .ref s.heap.objs.size, rawInt 0, .none, .none] } }) :=
  .of_wp fun prog w A R s h => by
    obtain ⟨hp, g, d, tk, os⟩ := s; obtain ⟨hl, h⟩ := h
    have hsub := sub_enumerate
    have hL : Heap.IsTuple (Shared.heap ⟨hp, g, d, tk, os⟩) l items := ⟨_, hl, rfl, n, rfl⟩
    wp_walk using wpAny_loadPart' hl
    refine wpAny_stack_any fun st => wpAny_pure ?_
    split
    · rename_i c _ _ _ _ _
      cases (c == Value.type "enumerate")
      · wp_walk using wpAny_loadPart' hl, wpAny_pyIter_tuple hL
        exact ⟨_, rfl, h⟩
      · wp_walk using wpAny_loadPart' hl, wpAny_pyIter_tuple hL
        exact ⟨_, rfl, h⟩
    · wp_walk using wpAny_loadPart' hl, wpAny_pyIter_tuple hL
      exact ⟨_, rfl, h⟩
section
variable {prog : Program} {w : World} {A : Around} {E : Value → Shared → Prop} {s : Shared}
theorem call_enumerate_tuple {l : Addr} {items : Array Value} {Q : Value → Shared → Prop} (hL : s.heap.IsTuple l items)
    (h : ∀ h', IsEnum h' (s.heap.objs.size + 1) s.heap.objs.size 0 .none → h'.IsTupleIter s.heap.objs.size l 0 → h'.objs.size = s.heap.objs.size + 2 →
      (∀ b o, s.heap.get? b = some o → h'.get? b = some o) → Q (.ref (s.heap.objs.size + 1)) { s with heap := h' }) :
    wpAny (model prog w) A (call (.type "enumerate") [.ref l]) Q E s := by
  obtain ⟨⟨c, dct, dt, sl⟩, hl, hc, n, hd⟩ := hL
  replace hc : c = .type "tuple" := hc
  replace hd : dt = .seq items n := hd
  subst hc hd
  refine callType_new F.called_enumerate (by decide) (F.typeCall_enumerate_1 _) (F.newCall_enumerate_1 _) (fun obj => F.args_object_init_2 obj _) F.entry_enumerate_new
    (meets_enumerate_newT l items n dct sl) ⟨hl, ?_⟩
  have hz : (s.heap.push { cls := .type "tuple_iterator", data := .fields #[.ref l, .int 0 0] }).objs.size = s.heap.objs.size + 1 := Heap.size_push ..
  show _ ∧ _
  rw [hz]
  have he : IsEnum ((s.heap.push { cls := .type "tuple_iterator", data := .fields #[.ref l, .int 0 0] }).push
      { cls := .type "enumerate", data := .fields #[.none, .bool false, .ref s.heap.objs.size, rawInt 0, .none, .none] }) (s.heap.objs.size + 1) s.heap.objs.size 0 .none := by
    have := Heap.get?_push_size (s.heap.push { cls := .type "tuple_iterator", data := .fields #[.ref l, .int 0 0] })
      (o := { cls := .type "enumerate", data := .fields #[.none, .bool false, .ref s.heap.objs.size, rawInt 0, .none, .none] }) rfl
    rw [hz] at this; exact this
  refine ⟨⟨_, he, rfl⟩, h _ he ⟨_, Heap.get?_push_of_some _ (Heap.get?_push_size _ rfl), rfl, rfl⟩ (by rw [Heap.size_push, hz]) fun b o x => Heap.get?_push_of_some _ (Heap.get?_push_of_some _ x)⟩
end
theorem enumT_end {prog : Program} {w : World} {A : Around} {E : Value → Shared → Prop} {s : Shared} {e it l : Addr} {i : Nat} {items : Array Value} {old : Value} {Q : Option Value → Shared → Prop} (hh : A.handled = none)
    (he : IsEnum s.heap e it i old) (hit : s.heap.IsTupleIter it l i) (hl : s.heap.IsTuple l items) (hx : items[i]? = none)
    (hQ : ∀ h', Heap.ExtBut it s.heap h' → Q none { s with heap := h' }) : wpAny (model prog w) A (pyNext (.ref e)) Q E s := by
  have hT : s.TypeIs (.ref e) "enumerate" := ⟨_, he, rfl⟩
  unfold pyNext
  refine wpAny_bind (wpAny_attempt (wpAny_callSpecial?_slot (name := Str.ofString "__next__") hT F.slot_enumerate_next
    (wpAny_call_entry F.slot_enumerate_next hT F.entry_enumerate_next ?_ (F.args_enumerate_next_1 _))))
  show wpAny _ _ (field (.ref e) 2 >>= _) _ _ _
  refine wpAny_bind (wpAny_field he rfl (x := .ref it) rfl ?_)
  refine wpAny_bind (RZ.nextOf_tuple_end (A := A.in1) hh hit hl hx fun h' x he' hx' => ?_)
  obtain ⟨o, ho, hc⟩ := hx'
  refine wpAny_bind (wpAny_isInstance (T := "StopIteration") (b := true) ⟨o, ho, hc⟩ isSubtype_stop ?_)
  exact wpAny_pure (hQ _ he')
theorem draws_tuple {prog : Program} {w : World} {A : Around} (hh : A.handled = none) {it t : Addr} (hne : t ≠ it) (items : Array Value) :
    Draws prog w A it [it, t] items.size (fun i x => items[i]? = some x) (fun i h => h.IsTupleIter it t i ∧ h.IsTuple t items) where
  live := fun i h st => let ⟨⟨o, ho, _⟩, _⟩ := st; ⟨o, ho⟩
  frame := fun i h h' st k => ⟨st.1.at fun o q => k it (by simp) o q, let ⟨o, ho, r⟩ := st.2; ⟨o, k t (by simp) o ho, r⟩⟩
  item := fun i s Q E hi st hQ => by
    refine RZ.nextOf_tuple_item st.1 st.2 (x := items[i]) (by simp [hi]) fun h' h1 sb => ?_
    exact hQ _ h' s.toks (by simp [hi]) ⟨h1, let ⟨o, ho, r⟩ := st.2; ⟨o, (sb.2 t hne).trans ho, r⟩⟩ sb
  done := fun s Q E st hE => RZ.nextOf_tuple_end hh st.1 st.2 (by simp) hE
/-- the tuple at a as it stands at each turn, each item in a new pair -/
def IteT (K : PySem.W.Frag) (a : Addr) : It :=
  ⟨fun i H => ∃ (xs : List V) (x : V), SqT K H a xs ∧ xs[i]? = some x, fun i H v H' => ∃ T x, v = .ref T ∧ H T = none ∧ H' = upd H T (.tup [.int (i : Nat), x]) ∧ ∀ xs, SqT K H a xs → xs[i]? = some x, fun i H => ∃ xs : List V, SqT K H a xs ∧ xs.length ≤ i⟩
theorem turn_enumT {P : Program} {w : World} {K : PySem.W.Frag} {elts : List Expr} {kk : Nat} {tpos : Pos} (a e it : Addr) :
    Turn P w K (.Tuple elts kk tpos) (IteT K a) [e, it] e (fun i h => (∃ old, IsEnum h e it ((i : Nat) : Int) old) ∧ h.IsTupleIter it a i ∧ e ≠ it) where
  mem := by simp
  obj := fun i h st b hb => by
    obtain ⟨⟨old, he⟩, ⟨o, ho, hc, hd⟩, _⟩ := st
    have e' : b = e ∨ b = it := by simpa using hb
    rcases e' with z | z
    · rw [z]; exact ⟨_, he, fun v q => nomatch q⟩
    · rw [z]; exact ⟨o, ho, fun v q => by rw [hd] at q; cases q⟩
  keep := fun i h h' st k => let ⟨⟨old, he⟩, hi, hne⟩ := st; ⟨⟨old, k e (by simp) _ he⟩, hi.at fun o q => k it (by simp) o q, hne⟩
  item := by
    intro X hP hw hK hc i pins s σ H E I hf st hg
    subst hP hw hK
    obtain ⟨⟨old, he⟩, hit, hne⟩ := st
    obtain ⟨xs, x, hq, hx⟩ := hg
    obtain ⟨its, rv, p, hz⟩ := I.tuple hq
    obtain ⟨u, hu, ru⟩ := rv.get hx
    have hel : e < s.heap.objs.size := Heap.lt_size he
    have hil : it < s.heap.objs.size := by obtain ⟨_, q, _⟩ := hit; exact Heap.lt_size q
    have hai : a ≠ it := fun z => by
      obtain ⟨o1, q1, c1, _⟩ := p
      obtain ⟨o2, q2, c2, _⟩ := hit
      rw [z, q2] at q1
      cases q1
      rw [c1] at c2
      exact absurd c2 (by decide)
    have hae : e ∉ [it, a] := fun z => by
      have e' : e = it ∨ e = a := by simpa using z
      rcases e' with z | z
      · exact hne z
      · obtain ⟨o1, q1, c1, _⟩ := p
        rw [← z, he] at q1
        cases q1
        exact absurd (Value.type.inj c1) (by decide)
    have hlt : i < its.toArray.size := by
      have q := (List.getElem?_eq_some_iff.mp hu).1
      simpa using q
    refine wpAny_pyNext_enum_itemD (draws_tuple (A := X.A.in1) (I.ok.hd hc) hai its.toArray) he ⟨hit, p⟩ hlt hne hae fun y h' tk hy ho hit' hT hsz hk => ?_
    obtain rfl : y = u := by
      have q : its.toArray[i]? = some u := by simpa using hu
      rw [q] at hy
      exact (Option.some.inj hy).symm
    refine ⟨_, rfl, wpAny_letOwnedTupleGo_enum (s := { s with heap := h', toks := tk + 1 }) ho fun h'' he' sb => ?_⟩
    have hT2 : h''.get? s.heap.objs.size = some { cls := .type "tuple", data := .seq #[.int i tk, y] } := (sb.2 _ (Nat.ne_of_gt hel)).trans hT
    have new : ObjOk X.prog X.w (upd H s.heap.objs.size (.tup [.int (i : Nat), x])) h'' s.heap.objs.size (.tup [.int (i : Nat), x]) :=
      ⟨by show 2 ≤ sizeLine; decide, [.int i tk, y], .cons ⟨_, rfl⟩ (.cons ru .nil), ⟨_, hT2, rfl, _, rfl⟩⟩
    have I1 : Inv X pins σ (upd H s.heap.objs.size (.tup [.int (i : Nat), x])) { s with heap := h'', toks := tk + 1 } :=
      I.turnedNew (ch := [e, it]) (fun b ob hb q => (sb.2 b (fun z => hb (by simp [z]))).trans (hk b ob (fun z => hb (by simp [z])) (fun z => hb (by simp [z])) q)) hf (Nat.le_refl _) new
    refine ⟨.ref s.heap.objs.size, _, I1, rfl, ⟨_, x, rfl, I.hok.fresh (Nat.le_refl _), rfl, fun ys hy => by rw [I.tuple_inj hy hq]; exact hx⟩, ⟨⟨y, ?_⟩, hit'.1.at fun o q => (sb.2 it (Ne.symm hne)).trans q, hne⟩, fun b hb => ?_⟩
    · have e1 : ((i + 1 : Nat) : Int) = (i : Int) + 1 := by omega
      rw [e1]; exact he'
    · have hb' : b < s.heap.objs.size := by
        have e' : b = e ∨ b = it := by simpa using hb
        rcases e' with z | z
        · rw [z]; exact hel
        · rw [z]; exact hil
      rw [upd_ne (Nat.ne_of_lt hb')]
      exact (hf b hb).1
  done := by
    intro X hP hw hK hc i pins s σ H E I hf st hg
    subst hP hw hK
    obtain ⟨⟨old, he⟩, hit, hne⟩ := st
    obtain ⟨xs, hq, hx⟩ := hg
    obtain ⟨its, rv, p, hz⟩ := I.tuple hq
    obtain ⟨f0, f1, f2, f3, f4, f5⟩ := hf it (by simp)
    have hl := rv.length
    exact enumT_end (I.ok.hd hc) he hit p (by simp; omega) fun h' eb => ⟨rfl, I.turned (t' := s.toks) (fun b o hb q => eb b o hb q) f0 f1 f3 f4 f5⟩
  self := fun A i s Q E st h => let ⟨⟨_, he⟩, _⟩ := st; wpAny_pyIter_enum he h
def iEnumT (K : PySem.W.Frag) (ta : TA) : TI := fun σ H R => ta σ H fun vs H1 => ∃ a xs, vs = [.ref a] ∧ ((SqL K H1 a xs ∧ R (Ite K a) H1) ∨ (SqT K H1 a xs ∧ R (IteT K a) H1))
theorem pi_enumA {X : Cx} {e : Expr} {ta : TA} {p pos tpos : Pos} {elts : List Expr} {kk : Nat} (hg : Gl X "enumerate") (hm : X.mg "enumerate" = none) (ha : PA X [e] ta) (hs : starEach [e] X.env = [(false, eval e X.env)] := by rfl) :
    PI X (.Tuple elts kk tpos) (.Call (.Name "enumerate" p) [e] [] pos) (iEnumT X.K ta) := by
  refine ⟨fun pins s σ H R I h => ?_⟩
  refine Call_ (ld_blt I hg hm boot_enumerate (PyProof.Rows.callWith_type1 (thn (ha.run pos pins s σ H _ I h) fun us s1 ⟨vs, H1, I1, r1, q1⟩ => ?_) hs rfl))
  obtain ⟨a, xs, ex, hq⟩ := q1
  subst ex
  have fp : ∀ b ∈ [s1.heap.objs.size + 1, s1.heap.objs.size], FpOk X pins H1 b := fun b hb => by
    have e' : b = s1.heap.objs.size + 1 ∨ b = s1.heap.objs.size := by simpa using hb
    have hle : s1.heap.objs.size ≤ b := by
      rcases e' with z | z
      · rw [z]; exact Nat.le_add_right _ _
      · rw [z]; exact Nat.le_refl _
    exact I1.fpOk hle (I1.hok.fresh hle)
  cases r1 with
  | cons r rr =>
    cases rr
    cases r
    rcases hq with ⟨hq, q⟩ | ⟨hq, q⟩
    · obtain ⟨its, rv, p', hz⟩ := I1.list hq
      refine call_enumerate_list p'.isList fun h' he hit hsz hk => wpAny_pyIter_enum he ?_
      have I2 : Inv X pins σ H1 { s1 with heap := h' } := I1.kept (t' := s1.toks) hk
      exact ⟨s1.heap.objs.size + 1, [s1.heap.objs.size + 1, s1.heap.objs.size], _, _, H1, rfl, I2, turn_enum a (s1.heap.objs.size + 1) s1.heap.objs.size, ⟨⟨.none, he⟩, hit, Nat.succ_ne_self _⟩, fp, q⟩
    · obtain ⟨its, rv, p', hz⟩ := I1.tuple hq
      refine call_enumerate_tuple p' fun h' he hit hsz hk => wpAny_pyIter_enum he ?_
      have I2 : Inv X pins σ H1 { s1 with heap := h' } := I1.kept (t' := s1.toks) hk
      exact ⟨s1.heap.objs.size + 1, [s1.heap.objs.size + 1, s1.heap.objs.size], _, _, H1, rfl, I2, turn_enumT a (s1.heap.objs.size + 1) s1.heap.objs.size, ⟨⟨.none, he⟩, hit, Nat.succ_ne_self _⟩, fp, q⟩
theorem walk_enumT {K : Frag} {a : Addr} {xs : List V} : Walk (IteT K a) xs.length (fun H => SqT K H a xs) (YPair (fun i => some (.int (i : Nat))) (fun i => xs[i]?)) := by
  refine ⟨fun i _ hi q => ⟨xs, xs[i], q, by simp [hi]⟩, fun _ q => ⟨xs, q, Nat.le_refl _⟩, fun i H v H' _ q y => ?_⟩
  obtain ⟨T, x, h1, h2, h3, h4⟩ := y
  exact ⟨T, .int (i : Nat), x, h1, h2, h3, rfl, h4 xs q⟩
/-- one walk for a list and a tuple -/
theorem SqLT.enum {K : Frag} {H : Hp} {a : Addr} {xs : List V} {R : It → Hp → Prop} (h : SqL K H a xs ∨ SqT K H a xs) (r : ∀ J, (∃ G : Hp → Prop, Walk J xs.length G (YPair (fun i => some (.int (i : Nat))) (fun i => xs[i]?)) ∧ G H ∧ ∀ H', Same H H' → G H') → R J H) :
    (SqL K H a xs ∧ R (Ite K a) H) ∨ (SqT K H a xs ∧ R (IteT K a) H) := by
  rcases h with h | h
  · exact .inl ⟨h, r _ ⟨_, walk_enum, h, fun H' s => h.ext s⟩⟩
  · exact .inr ⟨h, r _ ⟨_, walk_enumT, h, fun H' s => h.ext s⟩⟩
end Fx

set_option maxRecDepth 100000
set_option maxHeartbeats 4000000
namespace Fx
open PySem PySem.Spec PyProof.Rows L2
open PySem.W (Frag)
/-! ### a walk over a list or a tuple -/
/-- a list or a tuple -/
def Sq (K : Frag) (H : Hp) (a : Addr) (xs : List V) : Prop := H a = some (.lst xs) ∨ H a = some (.tup xs)
theorem Sq.ne {K : Frag} {H : Hp} {a R : Addr} {xs : List V} (h : Sq K H a xs) (hR : H R = none) : a ≠ R := h.elim (fun h => ne_of_none h hR) fun h => ne_of_none h hR
theorem Sq.seq {K : Frag} {H : Hp} {a : Addr} {xs : List V} (h : Sq K H a xs) : SqL K H a xs ∨ SqT K H a xs := h.elim (fun h => .inl (SqL.of h)) fun h => .inr (SqT.of h)
theorem Sq.ext {K : Frag} {H H' : Hp} {a : Addr} {xs : List V} (h : Sq K H a xs) (s : Same H H') : Sq K H' a xs := h.elim (fun h => .inl (s _ _ h)) fun h => .inr (s _ _ h)
theorem Rd.at {H H' : Hp} {a : Addr} {u : HO} (e : H' a = H a) (h : Rd H a u) : Rd H' a u := by
  unfold Rd at h ⊢
  rw [e]
  exact h
theorem SqL.at {K : Frag} {H H' : Hp} {a : Addr} {xs : List V} (e : H' a = H a) (h : SqL K H a xs) : SqL K H' a xs := h.elim (fun h => .inl (Rd.at e h)) .inr
theorem SqT.at {K : Frag} {H H' : Hp} {a : Addr} {xs : List V} (e : H' a = H a) (h : SqT K H a xs) : SqT K H' a xs := h.elim (fun h => .inl (Rd.at e h)) .inr
/-- J tells Y, as long as nothing is changed at a -/
abbrev WOf (J : It) (n : Nat) (Y : Nat → Hp → V → Hp → Prop) (a : Addr) (H : Hp) : Prop := Walk J n (fun H' => H' a = H a) Y
theorem wl {K : Frag} {H : Hp} {a : Addr} {xs : List V} (h : SqL K H a xs) : WOf (Itl K a) xs.length (YAt xs) a H := walk_list.mono (fun H' e => SqL.at e h) fun _ _ _ _ _ _ y => y
theorem wt {K : Frag} {H : Hp} {a : Addr} {xs : List V} (h : SqT K H a xs) : WOf (Itt K a) xs.length (YAt xs) a H := walk_tup.mono (fun H' e => SqT.at e h) fun _ _ _ _ _ _ y => y
theorem wel {K : Frag} {H : Hp} {a : Addr} {xs : List V} (h : SqL K H a xs) : WOf (Ite K a) xs.length (YPair (fun i => some (.int (i : Nat))) (fun i => xs[i]?)) a H := walk_enum.mono (fun H' e => SqL.at e h) fun _ _ _ _ _ _ y => y
theorem wet {K : Frag} {H : Hp} {a : Addr} {xs : List V} (h : SqT K H a xs) : WOf (IteT K a) xs.length (YPair (fun i => some (.int (i : Nat))) (fun i => xs[i]?)) a H := walk_enumT.mono (fun H' e => SqT.at e h) fun _ _ _ _ _ _ y => y
def iSq (K : Frag) (tl : TE) : TI := fun σ H R => tl σ H fun x H1 => ∃ a xs, x = .ref a ∧ Sq K H1 a xs ∧ ∀ J, WOf J xs.length (YAt xs) a H1 → R J H1
theorem pi_sq {X : Cx} {tg l : Expr} {tl : TE} (hl : PE X l tl) : PI X tg l (iSq X.K tl) := by
  refine ⟨fun pins s σ H R I h => ?_⟩
  refine thn (hl.run pins s σ H _ I h) fun v s1 ⟨x, H1, I1, r1, q1⟩ => ?_
  obtain ⟨a, xs, e, hq, q⟩ := q1
  subst e
  cases r1
  have fp : ∀ b ∈ [s1.heap.objs.size], FpOk X pins H1 b := fun b hb => by
    have e : b = s1.heap.objs.size := by simpa using hb
    subst e
    exact I1.fpOk (Nat.le_refl _) (I1.hok.fresh (Nat.le_refl _))
  rcases hq.seq with hq | hq
  · obtain ⟨its, rv, p, hz⟩ := I1.list hq
    refine wpAny_pyIter_list p.isList ?_
    exact ⟨s1.heap.objs.size, [s1.heap.objs.size], _, _, H1, rfl, I1.kept (t' := s1.toks) fun b o e => Heap.get?_push_of_some _ e, turn_list a _, ⟨_, Heap.get?_push_size _ rfl, rfl, rfl⟩, fp, q _ (wl hq)⟩
  · obtain ⟨its, rv, p, hz⟩ := I1.tuple hq
    refine wpAny_pyIter_tuple (show s1.heap.IsTuple a its.toArray from p) ?_
    exact ⟨s1.heap.objs.size, [s1.heap.objs.size], _, _, H1, rfl, I1.kept (t' := s1.toks) fun b o e => Heap.get?_push_of_some _ e, turn_tuple a _, ⟨_, Heap.get?_push_size _ rfl, rfl, rfl⟩, fp, q _ (wt hq)⟩
/-- enumerate of a list or a tuple -/
def iEnumSq (K : Frag) (ta : TA) : TI := fun σ H R => ta σ H fun vs H1 => ∃ a xs, vs = [.ref a] ∧ Sq K H1 a xs ∧ ∀ J, WOf J xs.length (YPair (fun i => some (.int (i : Nat))) (fun i => xs[i]?)) a H1 → R J H1
theorem pi_enumSq {X : Cx} {e : Expr} {ta : TA} {p pos tpos : Pos} {elts : List Expr} {kk : Nat} (hg : Gl X "enumerate") (hm : X.mg "enumerate" = none) (ha : PA X [e] ta) (hs : starEach [e] X.env = [(false, eval e X.env)] := by rfl) :
    PI X (.Tuple elts kk tpos) (.Call (.Name "enumerate" p) [e] [] pos) (iEnumSq X.K ta) := by
  refine ⟨fun pins s σ H R I h => ?_⟩
  refine Call_ (ld_blt I hg hm boot_enumerate (PyProof.Rows.callWith_type1 (thn (ha.run pos pins s σ H _ I h) fun us s1 ⟨vs, H1, I1, r1, q1⟩ => ?_) hs rfl))
  obtain ⟨a, xs, ex, hq, q⟩ := q1
  subst ex
  have fp : ∀ b ∈ [s1.heap.objs.size + 1, s1.heap.objs.size], FpOk X pins H1 b := fun b hb => by
    have e' : b = s1.heap.objs.size + 1 ∨ b = s1.heap.objs.size := by simpa using hb
    have hle : s1.heap.objs.size ≤ b := by
      rcases e' with z | z
      · rw [z]; exact Nat.le_add_right _ _
      · rw [z]; exact Nat.le_refl _
    exact I1.fpOk hle (I1.hok.fresh hle)
  cases r1 with
  | cons r rr =>
    cases rr
    cases r
    rcases hq.seq with hq | hq
    · obtain ⟨its, rv, p', hz⟩ := I1.list hq
      refine call_enumerate_list p'.isList fun h' he hit hsz hk => wpAny_pyIter_enum he ?_
      have I2 : Inv X pins σ H1 { s1 with heap := h' } := I1.kept (t' := s1.toks) hk
      exact ⟨s1.heap.objs.size + 1, [s1.heap.objs.size + 1, s1.heap.objs.size], _, _, H1, rfl, I2, turn_enum a (s1.heap.objs.size + 1) s1.heap.objs.size, ⟨⟨.none, he⟩, hit, Nat.succ_ne_self _⟩, fp, q _ (wel hq)⟩
    · obtain ⟨its, rv, p', hz⟩ := I1.tuple hq
      refine call_enumerate_tuple p' fun h' he hit hsz hk => wpAny_pyIter_enum he ?_
      have I2 : Inv X pins σ H1 { s1 with heap := h' } := I1.kept (t' := s1.toks) hk
      exact ⟨s1.heap.objs.size + 1, [s1.heap.objs.size + 1, s1.heap.objs.size], _, _, H1, rfl, I2, turn_enumT a (s1.heap.objs.size + 1) s1.heap.objs.size, ⟨⟨.none, he⟩, hit, Nat.succ_ne_self _⟩, fp, q _ (wet hq)⟩
theorem walk_zipT {K : Frag} {a b : Addr} {xs ys : List V} {n : Nat} (hn : n = min xs.length ys.length) : Walk (RZ.ItzT K a b) n (fun H => SqT K H a xs ∧ SqT K H b ys) (YPair (fun i => xs[i]?) (fun i => ys[i]?)) := by
  subst hn
  refine ⟨fun i _ hi q => ?_, fun _ q => ⟨xs, ys, q.1, q.2, by omega⟩, fun i H v H' _ q y => ?_⟩
  · have h1 : i < xs.length := by omega
    have h2 : i < ys.length := by omega
    exact ⟨xs, ys, xs[i], ys[i], q.1, q.2, by simp [h1], by simp [h2]⟩
  · obtain ⟨T, x, z, h1, h2, h3, h4, h5⟩ := y
    exact ⟨T, x, z, h1, h2, h3, h4 xs q.1, h5 ys q.2⟩
/-! ### texts in order -/
def ltS (a b : Str) : Bool := decide (a.cps.toList < b.cps.toList)
/-- each one is less than the next one -/
def ascS : List Str → Bool
  | [] => true
  | [_] => true
  | a :: b :: r => ltS a b && ascS (b :: r)
theorem str_ext {a b : Str} (h : a.cps.toList = b.cps.toList) : a = b := by
  cases a
  cases b
  simp at h
  rw [h]
theorem ltS_of {a b : Str} (h : ltCps b.cps.toList a.cps.toList = false) (ne : a ≠ b) : ltS a b = true := by
  rw [ltCps_eq] at h
  have h1 : ¬ b.cps.toList < a.cps.toList := of_decide_eq_false h
  refine decide_eq_true ?_
  by_cases q : a.cps.toList < b.cps.toList
  · exact q
  · exact absurd (str_ext (List.le_antisymm (List.not_lt.mp h1) (List.not_lt.mp q))) ne
theorem asc_of_sorted : ∀ {l : List Str}, sortedS l = true → l.Nodup → ascS l = true
  | [], _, _ => rfl
  | [_], _, _ => rfl
  | a :: b :: r, h, n => by
    have h1 : (!ltCps b.cps.toList a.cps.toList && risingS b r) = true := h
    obtain ⟨h2, h3⟩ := Bool.and_eq_true_iff.mp h1
    have na := List.nodup_cons.mp n
    have e : ltS a b = true := ltS_of (by simpa using h2) fun z => na.1 (by rw [z]; exact List.mem_cons_self ..)
    show (ltS a b && ascS (b :: r)) = true
    rw [e]
    exact asc_of_sorted (l := b :: r) h3 na.2
theorem asc_at : ∀ {l : List Str} {i : Nat} {x y : Str}, ascS l = true → l[i]? = some x → l[i + 1]? = some y → ltS x y = true
  | [], i, x, y, _, h, _ => by simp at h
  | [_], i, x, y, _, _, h => by simp at h
  | a :: b :: r, i, x, y, h, h1, h2 => by
    obtain ⟨e, h3⟩ := Bool.and_eq_true_iff.mp (show (ltS a b && ascS (b :: r)) = true from h)
    cases i with
    | zero =>
      simp at h1 h2
      subst h1 h2
      exact e
    | succ i => exact asc_at (l := b :: r) (i := i) h3 (by simpa using h1) (by simpa using h2)
theorem allFlatS (l : List Str) : (l.map V.str).all flatV = true := by
  induction l with
  | nil => rfl
  | cons a r ih =>
    rw [List.map_cons, List.all_cons, ih]
    rfl
theorem inV_str {x : Str} {l : List Str} : inV (.str x) (l.map V.str) = decide (x ∈ l) := by
  unfold inV
  induction l with
  | nil => rfl
  | cons a r ih =>
    rw [List.map_cons, List.any_cons, ih]
    by_cases c : a = x
    · subst c
      simp [eqV]
    · have c' : ¬ x = a := fun z => c z.symm
      simp [eqV, c, c']
end Fx

set_option maxRecDepth 100000
set_option maxHeartbeats 4000000
namespace Fx
open PySem PySem.Spec PyProof.Rows L2
open PySem.W (Frag)
/-! ### a walk over a list or a tuple, wherever it lies -/
/-- a list (true) or a tuple -/
def SqE (K : Frag) (H : Hp) (a : Addr) (xs : List V) : Bool → Prop
  | true => SqL K H a xs
  | false => SqT K H a xs
theorem SqE.cases {K : Frag} {H : Hp} {a : Addr} {xs : List V} {b : Bool} (h : SqE K H a xs b) : (b = true ∧ SqL K H a xs) ∨ (b = false ∧ SqT K H a xs) := by
  cases b with
  | true => exact .inl ⟨rfl, h⟩
  | false => exact .inr ⟨rfl, h⟩
theorem SqE.seq {K : Frag} {H : Hp} {a : Addr} {xs : List V} {b : Bool} (h : SqE K H a xs b) : SqL K H a xs ∨ SqT K H a xs := h.cases.elim (fun q => .inl q.2) fun q => .inr q.2
theorem SqE.ext {K : Frag} {H H' : Hp} {a : Addr} {xs : List V} {b : Bool} (h : SqE K H a xs b) (s : Same H H') : SqE K H' a xs b := by
  cases b with
  | true => exact SqL.ext h s
  | false => exact SqT.ext h s
theorem Rd.put {H H' : Hp} {a R : Addr} {u o : HO} (r : Rd H a u) (s : Same H H') (hR : H R = none) : Rd (upd H' R o) a u := by
  have ne : a ≠ R := fun e => by
    subst e
    rcases r with r | ⟨_, r⟩ <;> rw [hR] at r <;> cases r
  unfold Rd at r ⊢
  rw [upd_ne ne]
  exact r.elim (fun r => .inl (s _ _ r)) fun ⟨o, r⟩ => .inr ⟨o, s _ _ r⟩
theorem SqE.put {K : Frag} {H H' : Hp} {a R : Addr} {xs : List V} {b : Bool} {o : HO} (h : SqE K H a xs b) (s : Same H H') (hR : H R = none) : SqE K (upd H' R o) a xs b := by
  cases b with
  | true => exact h.elim (fun r => .inl (Rd.put (u := _) r s hR)) .inr
  | false => exact h.elim (fun r => .inl (Rd.put (u := _) r s hR)) .inr
def iSqG (K : Frag) (tl : TE) : TI := fun σ H R => tl σ H fun x H1 => ∃ a xs b, x = .ref a ∧ SqE K H1 a xs b ∧ ∀ J, Walk J xs.length (fun H2 => SqE K H2 a xs b) (YAt xs) → R J H1
theorem pi_sqG {X : Cx} {tg l : Expr} {tl : TE} (hl : PE X l tl) : PI X tg l (iSqG X.K tl) := by
  refine ⟨fun pins s σ H R I h => ?_⟩
  refine thn (hl.run pins s σ H _ I h) fun v s1 ⟨x, H1, I1, r1, q1⟩ => ?_
  obtain ⟨a, xs, bb, e, hq, q⟩ := q1
  subst e
  cases r1
  have fp : ∀ b ∈ [s1.heap.objs.size], FpOk X pins H1 b := fun b hb => by
    have e : b = s1.heap.objs.size := by simpa using hb
    subst e
    exact I1.fpOk (Nat.le_refl _) (I1.hok.fresh (Nat.le_refl _))
  rcases hq.cases with ⟨rfl, hq⟩ | ⟨rfl, hq⟩
  · obtain ⟨its, rv, p, hz⟩ := I1.list hq
    refine wpAny_pyIter_list p.isList ?_
    exact ⟨s1.heap.objs.size, [s1.heap.objs.size], _, _, H1, rfl, I1.kept (t' := s1.toks) fun b o e => Heap.get?_push_of_some _ e, turn_list a _, ⟨_, Heap.get?_push_size _ rfl, rfl, rfl⟩, fp, q _ walk_list⟩
  · obtain ⟨its, rv, p, hz⟩ := I1.tuple hq
    refine wpAny_pyIter_tuple (show s1.heap.IsTuple a its.toArray from p) ?_
    exact ⟨s1.heap.objs.size, [s1.heap.objs.size], _, _, H1, rfl, I1.kept (t' := s1.toks) fun b o e => Heap.get?_push_of_some _ e, turn_tuple a _, ⟨_, Heap.get?_push_size _ rfl, rfl, rfl⟩, fp, q _ walk_tup⟩
/-- enumerate of a list or a tuple -/
def iEnumSqG (K : Frag) (ta : TA) : TI := fun σ H R => ta σ H fun vs H1 => ∃ a xs b, vs = [.ref a] ∧ SqE K H1 a xs b ∧ ∀ J, Walk J xs.length (fun H2 => SqE K H2 a xs b) (YPair (fun i => some (.int (i : Nat))) (fun i => xs[i]?)) → R J H1
theorem pi_enumSqG {X : Cx} {e : Expr} {ta : TA} {p pos tpos : Pos} {elts : List Expr} {kk : Nat} (hg : Gl X "enumerate") (hm : X.mg "enumerate" = none) (ha : PA X [e] ta) (hs : starEach [e] X.env = [(false, eval e X.env)] := by rfl) :
    PI X (.Tuple elts kk tpos) (.Call (.Name "enumerate" p) [e] [] pos) (iEnumSqG X.K ta) := by
  refine ⟨fun pins s σ H R I h => ?_⟩
  refine Call_ (ld_blt I hg hm boot_enumerate (PyProof.Rows.callWith_type1 (thn (ha.run pos pins s σ H _ I h) fun us s1 ⟨vs, H1, I1, r1, q1⟩ => ?_) hs rfl))
  obtain ⟨a, xs, bb, ex, hq, q⟩ := q1
  subst ex
  have fp : ∀ b ∈ [s1.heap.objs.size + 1, s1.heap.objs.size], FpOk X pins H1 b := fun b hb => by
    have e' : b = s1.heap.objs.size + 1 ∨ b = s1.heap.objs.size := by simpa using hb
    have hle : s1.heap.objs.size ≤ b := by
      rcases e' with z | z
      · rw [z]; exact Nat.le_add_right _ _
      · rw [z]; exact Nat.le_refl _
    exact I1.fpOk hle (I1.hok.fresh hle)
  cases r1 with
  | cons r rr =>
    cases rr
    cases r
    rcases hq.cases with ⟨rfl, hq⟩ | ⟨rfl, hq⟩
    · obtain ⟨its, rv, p', hz⟩ := I1.list hq
      refine call_enumerate_list p'.isList fun h' he hit hsz hk => wpAny_pyIter_enum he ?_
      have I2 : Inv X pins σ H1 { s1 with heap := h' } := I1.kept (t' := s1.toks) hk
      exact ⟨s1.heap.objs.size + 1, [s1.heap.objs.size + 1, s1.heap.objs.size], _, _, H1, rfl, I2, turn_enum a (s1.heap.objs.size + 1) s1.heap.objs.size, ⟨⟨.none, he⟩, hit, Nat.succ_ne_self _⟩, fp, q _ walk_enum⟩
    · obtain ⟨its, rv, p', hz⟩ := I1.tuple hq
      refine call_enumerate_tuple p' fun h' he hit hsz hk => wpAny_pyIter_enum he ?_
      have I2 : Inv X pins σ H1 { s1 with heap := h' } := I1.kept (t' := s1.toks) hk
      exact ⟨s1.heap.objs.size + 1, [s1.heap.objs.size + 1, s1.heap.objs.size], _, _, H1, rfl, I2, turn_enumT a (s1.heap.objs.size + 1) s1.heap.objs.size, ⟨⟨.none, he⟩, hit, Nat.succ_ne_self _⟩, fp, q _ walk_enumT⟩
end Fx

set_option maxRecDepth 100000
set_option maxHeartbeats 4000000
namespace Fx
open PySem PySem.Spec PyProof.Rows L2
open PySem.W (Frag excObj InstAt)
/-! ### raise C(e), C one of the classes with `super().__init__(text); self.f = f` -/
section
variable {X : Cx} {B nw ini : String} {bmB : List Value} {C f : Addr} {fld x : Str} {e : Expr} {te : TE} {p pos : Pos} {k : Nat}
/-- the reading: the dict of the new object at dx -/
def tRx (C : Addr) (fld : Str) (te : TE) : L2.St → Hp → XK → Prop := fun σ H Q => te σ H fun v H1 => ∀ dx, H1 dx = none → Q (.ref C) (some dx) (upd H1 dx (.xd [(fld, v)]))
theorem pmk_x (T : XT X.prog X.K X.mg B nw ini bmB C f fld) (r : Raises X (.ref C)) (hr : Room k X.A) (gC : X.mg x = some (.ref C)) (kC : PySem.W.keepIn X.K (.ref C) = true) (ha : PE X e te) (hg : Gl X x := by rfl)
    (hs : starEach [e] X.env = (false, eval e X.env) :: starEach [] X.env := by rfl) (hdb : (x == ("__debug__" : Str)) = false := by decide) : PMk X (.Call (.Name x p) [e] [] pos) (tRx C fld te) := by
  intro pins s σ H Q I h
  refine wpAny_Call_Name_kw (ld_glob I hg gC ?_ hdb)
  refine PySem.W.callWith_K (h₀ := X.base) I.ok.mod.kin kC ?_ hs (by rfl)
  rw [hs]
  show wpAny _ _ (spliced ((false, eval e X.env) :: backTo pos (starEach [] X.env))) _ _ s
  refine Calls.spliced_cons (thn (ha.run pins s σ H _ I h) fun u s1 ⟨v, H1, I1, rv, q1⟩ => ?_)
  refine Calls.spliced_nil ⟨I1.kIn, ?_⟩
  obtain ⟨mb, hb, hbb⟩ := I1.mod.blt
  obtain ⟨hp, g, d, tk, os⟩ := s1
  refine wpAny_call (makeRun T (.inl rfl) I1.kIn I1.nolimit (I1.mod.glob.keeps I1.bk) ⟨mb, hb.keeps I1.bk, (hbb _ (by decide)).trans (by decide +kernel)⟩ (by have := hr.dp; omega) fun h' tk' e dx t1 old ebig dbig ne he hns => ?_)
  show MkP X pins σ Q (.ref e) ⟨h', g, d, tk', os⟩
  obtain ⟨G', g1, g2⟩ := restrict h' fun b => decide (b ≠ e)
  have gk : ∀ b, b ≠ e → G'.get? b = h'.get? b := fun b hb => g1 b (decide_eq_true hb)
  have ge : G'.get? e = none := g2 e (by simp)
  have old' : ∀ b o, hp.get? b = some o → G'.get? b = some o := fun b o q => (gk b (Nat.ne_of_lt (Nat.lt_of_lt_of_le (Heap.lt_size q) ebig))).trans (old b o q)
  have ob : ObjOk X.prog X.w (upd H1 dx (.xd [(fld, v)])) G' dx (.xd [(fld, v)]) :=
    ⟨_, hns.at (fun o q => (gk dx ne).trans q), fun f => lookup_one rv⟩
  have J : Inv X pins σ (upd H1 dx (.xd [(fld, v)])) ⟨G', g, d, tk', os⟩ := I1.laid (t' := tk') old' dbig ob
  refine ⟨e, _, _, ⟨G', g, d, tk', os⟩, _, .ref C, some dx, rfl, J, fun b o q => ?_, ge, he, ⟨rfl, rfl⟩, rfl, rfl, ?_, rfl, I1.bare, r, q1 dx (I1.hok.fresh dbig)⟩
  · by_cases hb : b = e
    · have q' : G'.get? b = some o := q
      rw [hb, ge] at q'
      cases q'
    · exact (gk b hb).symm.trans q
  · rw [upd_ne (Ne.symm ne)]
    exact I1.hok.fresh ebig
end
/-- an error of the class at S is what «except S» names -/
theorem exm_self {K : PySem.W.Frag} {S : Addr} (h1 : PySem.W.subIn K (.ref S) (.type "BaseException") = some true) (h2 : PySem.W.isClsIn K S = true) (h3 : PySem.W.typeIn K (.ref S) = some (.type "type")) (h4 : PySem.W.subIn K (.ref S) (.ref S) = some true) :
    PySem.W.exmOne K (.ref S) (.ref S) = some true := by
  have e1 : (PySem.W.subIn K (.ref S) (.type "BaseException") == some true) = true := by rw [h1] <;> rfl
  have e2 : ((PySem.W.clsIn K S).isSome && PySem.W.typeIn K (.ref S) == some (.type "type")) = true := by
    have h2' : (PySem.W.clsIn K S).isSome = true := h2
    rw [h2', h3] <;> rfl
  show (if (PySem.W.subIn K (.ref S) (.type "BaseException") == some true) = true then (if ((PySem.W.clsIn K S).isSome && PySem.W.typeIn K (.ref S) == some (.type "type")) = true then PySem.W.subIn K (.ref S) (.ref S) else none) else none) = some true
  rw [if_pos e1, if_pos e2]
  exact h4
end Fx

set_option maxRecDepth 100000
set_option maxHeartbeats 4000000
namespace Fx
open PySem PySem.Spec PyProof.Rows L2
open PySem.W (Frag)
/-! ### a def that asks for repr is called -/
section
variable {X : Cx} {CX : CXT} {k : Nat} {f : Addr} {fd : FuncData} {ps : List Str} {sp : Sp} {dvs : List V} {ds : List Value} {E : XK} {x : Str} {p pos : Pos} {e : Expr} {es : List Expr} {t : TA}
theorem run_fnG {pins : List (Addr × Obj)} {σ : L2.St} {H : Hp} {s : Shared} {Q : VK} {us : List Value} {vs : List V} (F : FnG X.prog X.w X.K X.mg X.base CX k f fd ps sp) (hgd : X.A.guards = some []) (hr : Room k X.A) (hb : Binds X.K fd ps ds) (hd : Vals dvs ds) (hx : Passes CX X E)
    (I : Inv X pins σ H s) (r : Vals vs us) (h : sp (vs ++ dvs) H Q E) : wpAny (model X.prog X.w) X.A (call (.ref f) us) (EP X pins σ Q) X.xe s := by
  have r2 : Vals (vs ++ dvs) (us ++ ds) := r.append hd
  have hl : (us ++ ds).length = ps.length := by rw [← r2.length]; exact F.len _ _ _ _ h
  refine wpAny_call (codeAny_mono (F.run X.A X.stack s H ⟨us, []⟩ (us ++ ds) (vs ++ dvs) Q E hgd hr I.env0 (hb s us I.kIn hl) r2 h) fun r s' hq => ?_)
  cases r with
  | error e => exact hx pins σ H s e s' I hq
  | ok fl =>
    cases fl with
    | ret u => exact I.after hq
    | next => exact False.elim hq
    | brk => exact False.elim hq
    | cont => exact False.elim hq
theorem pe_callG (F : FnG X.prog X.w X.K X.mg X.base CX k f fd ps sp) (hgd : X.A.guards = some []) (hr : Room k X.A) (hg : Gl X x) (hm : X.mg x = some (.ref f)) (hk : PySem.W.keepIn X.K (.ref f) = true) (hb : Binds X.K fd ps ds) (hd : Vals dvs ds) (hx : Passes CX X E)
    (ha : PA X (e :: es) t) (hdb : (x == ("__debug__" : Str)) = false := by decide) (he : starEach (e :: es) X.env = (false, eval e X.env) :: starEach es X.env := by rfl) (hpl : (backTo pos (starEach es X.env)).any (·.1) = false := by rfl) :
    PE X (.Call (.Name x p) (e :: es) [] pos) (tCall sp dvs E t) := by
  refine ⟨fun pins s σ H Q I h => ?_⟩
  refine wpAny_Call_Name_kw (ld_glob I hg hm ?_ hdb)
  refine PySem.W.callWith_K (h₀ := X.base) I.ok.mod.kin hk (thn (ha.run pos pins s σ H _ I h) fun us s1 ⟨vs, H1, I1, r, q⟩ => ⟨I1.kIn, ?_⟩) he hpl
  exact run_fnG F hgd hr hb hd hx I1 r q
end
theorem call_reprU {X : Cx} (hg : X.A.guards = some []) (hu : X.A.units + 64 < cLine) : CallR X (.builtin "repr") (rRepr X.K) := by
  intro pins s σ H xs us Q I r h
  obtain ⟨x, d, rfl, hd, hs, hq, hdp, hz, q⟩ := h
  obtain ⟨u, rfl, rx⟩ := vals1 r
  have big : ∀ {a : Addr}, u = .ref a → wpAny (model X.prog X.w) X.A (call (.builtin "repr") [u]) (EP X pins σ Q) X.xe s := fun {a} eu => by
    subst eu
    obtain ⟨as, rd, no⟩ := Dz.reads I d x _ hd rx
    refine repr_of_reads' rd hs (fun z => ?_) hg (by omega) (fun _ _ e => e) (fun h' tk1 tk kp => ?_) hz
    · rcases hq with hq | hq
      · rw [hq] at z
        cases z
      · exact no hq
    · exact ⟨.str d.shown, H, I.kept (t' := tk) kp, ⟨_, rfl⟩, q⟩
  cases hd with
  | non =>
    obtain rfl : u = Value.none := rx
    exact P.repr_of_none ⟨.str _, H, I.tok _, ⟨_, rfl⟩, q⟩
  | bl b =>
    obtain rfl : u = Value.bool b := rx
    exact P.repr_of_bool ⟨.str _, H, I.tok _, ⟨_, rfl⟩, q⟩
  | int i =>
    obtain ⟨t, rfl⟩ := rx
    exact P.repr_of_int (by simpa [PyData.showable] using hs) ⟨.str _, H, I.tok _, ⟨_, rfl⟩, q⟩
  | str x =>
    obtain ⟨t, rfl⟩ := rx
    exact P.repr_of_str ⟨.str _, H, I.tok _, ⟨_, rfl⟩, q⟩ (by simpa [PyData.shown] using hz)
  | lst _ _ => exact big rx
  | tup _ _ => exact big rx
  | dct _ => exact big rx
end Fx

set_option maxRecDepth 100000
set_option maxHeartbeats 4000000
namespace Pl
open PySem PySem.Spec PyProof.Rows L2 Fx
open PySem.W (Frag)
/-! ### pure data, and what stands for them -/
/-- a text: known, or an unknown word -/
inductive SS where
  | lit (x : Str)
  | atm (n : Nat)
  deriving DecidableEq
inductive D where
  | non
  | bl (b : Bool)
  | int (i : Int)
  | str (s : SS)
  | lst (xs : List D)
  | tup (xs : List D)
  | dic (ks vs : List D)
  | code (a b c : D)
  | adr (a : Nat)
  | exv (c : Str) (d : D)
inductive Oc (α : Type) where
  | ok (a : α)
  | exc (c : Str) (d : D)
  | bad
def Oc.bind {α β : Type} : Oc α → (α → Oc β) → Oc β
  | .ok a, k => k a
  | .exc c d, _ => .exc c d
  | .bad, _ => .bad
def Oc.map {α β : Type} (f : α → β) (o : Oc α) : Oc β := o.bind fun a => .ok (f a)
structure MC where
  K : Frag
  C : Addr
  na : Nat
  al : Nat → Str
  xa : Str → Addr
  sf : Nat → Addr
  fl : Str → Str
  T : List (Addr × Str)
/-- a caught exception -/
def ExB (C : Addr) (d : Option Addr) (a : Addr) : HO := .ext fun h => ∃ (oe : Obj) (vs : Array Value), h.get? a = some oe ∧ oe.cls = .ref C ∧ oe.dict = d ∧ oe.data = .fields vs
mutual
inductive R (M : MC) (H : Hp) : V → D → Prop
  | non : R M H .non .non
  | bl (b : Bool) : R M H (.bl b) (.bl b)
  | int (i : Int) : R M H (.int i) (.int i)
  | str {x : Str} : PyData.strOk x = true → R M H (.str x) (.str (.lit x))
  | atm {n : Nat} : n < M.na → PyData.strOk (M.al n) = true → R M H (.str (M.al n)) (.str (.atm n))
  | lst {a : Addr} {xs : List V} {ds : List D} : H a = some (.lst xs) → RA M H xs ds → R M H (.ref a) (.lst ds)
  | tup {a : Addr} {xs : List V} {ds : List D} : SqT M.K H a xs → RA M H xs ds → R M H (.ref a) (.tup ds)
  | dic {a : Addr} {kvs : List (Key × V)} {ks vs : List D} : Rd H a (.dK kvs) → RA M H (kvs.map fun p => kV p.1) ks → RA M H (kvs.map (·.2)) vs → R M H (.ref a) (.dic ks vs)
  | code {p dx : Addr} {va vb vc : V} {a b c : D} : H p = some (.ins M.C dx [("places", va), ("door", vb), ("jumps", vc)]) → R M H va a → R M H vb b → R M H vc c → R M H (.ref p) (.code a b c)
  | adr (a : Nat) : R M H (.ref (M.sf a)) (.adr a)
  | exv {c : Str} {a dx : Addr} {v : V} {d : D} : H a = some (ExB (M.xa c) (some dx) a) → H dx = some (.xd [(M.fl c, v)]) → R M H v d → R M H (.ref a) (.exv c d)
inductive RA (M : MC) (H : Hp) : List V → List D → Prop
  | nil : RA M H [] []
  | cons {v : V} {vs : List V} {d : D} {ds : List D} : R M H v d → RA M H vs ds → RA M H (v :: vs) (d :: ds)
end
theorem rd_same {F H : Hp} {a : Addr} {u : HO} (s : Same F H) (h : Rd F a u) : Rd H a u := h.imp (fun h => s _ _ h) fun ⟨o, h⟩ => ⟨o, s _ _ h⟩
theorem rdget {H : Hp} {a : Addr} {kvs : List (Key × V)} {k : Key} (h : Rd H a (.dK kvs)) : DGet H a (kV k) (valV kvs k) := .inl ⟨kvs, k, h, rfl, rfl⟩
mutual
theorem R.ext {M : MC} {H H' : Hp} (s : Same H H') : ∀ {v : V} {d : D}, R M H v d → R M H' v d
  | _, _, .non => .non
  | _, _, .bl b => .bl b
  | _, _, .int i => .int i
  | _, _, .str h => .str h
  | _, _, .atm h g => .atm h g
  | _, _, .lst h t => .lst (s _ _ h) (RA.ext s t)
  | _, _, .tup h t => .tup (SqT.ext h s) (RA.ext s t)
  | _, _, .dic h t u => .dic (h.imp (fun h => s _ _ h) fun ⟨o, h⟩ => ⟨o, s _ _ h⟩) (RA.ext s t) (RA.ext s u)
  | _, _, .code h a b c => .code (s _ _ h) (R.ext s a) (R.ext s b) (R.ext s c)
  | _, _, .adr a => .adr a
  | _, _, .exv h g r => .exv (s _ _ h) (s _ _ g) (R.ext s r)
theorem RA.ext {M : MC} {H H' : Hp} (s : Same H H') : ∀ {vs : List V} {ds : List D}, RA M H vs ds → RA M H' vs ds
  | _, _, .nil => .nil
  | _, _, .cons h t => .cons (R.ext s h) (RA.ext s t)
end
section
variable {M : MC} {F F1 F2 H H1 H2 : Hp}
theorem RA.len : ∀ {vs : List V} {ds : List D}, RA M H vs ds → vs.length = ds.length
  | _, _, .nil => rfl
  | _, _, .cons _ t => congrArg (· + 1) (RA.len t)
theorem RA.at : ∀ {vs : List V} {ds : List D}, RA M H vs ds → ∀ {i : Nat} {d : D}, ds[i]? = some d → ∃ v, vs[i]? = some v ∧ R M H v d
  | _, _, .nil, i, d, e => by simp at e
  | _, _, .cons h t, 0, d, e => by
    simp at e
    subst e
    exact ⟨_, rfl, h⟩
  | _, _, .cons h t, i + 1, d, e => by
    obtain ⟨v, h1, h2⟩ := RA.at t (i := i) (d := d) (by simpa using e)
    exact ⟨v, by simpa using h1, h2⟩
theorem RA.atV : ∀ {vs : List V} {ds : List D}, RA M H vs ds → ∀ {i : Nat} {v : V}, vs[i]? = some v → ∃ d, ds[i]? = some d ∧ R M H v d
  | _, _, .nil, i, d, e => by simp at e
  | _, _, .cons h t, 0, d, e => by
    simp at e
    subst e
    exact ⟨_, rfl, h⟩
  | _, _, .cons h t, i + 1, d, e => by
    obtain ⟨v, h1, h2⟩ := RA.atV t (i := i) (v := d) (by simpa using e)
    exact ⟨v, by simpa using h1, h2⟩
theorem RA.app : ∀ {vs us : List V} {ds es : List D}, RA M H vs ds → RA M H us es → RA M H (vs ++ us) (ds ++ es)
  | _, _, _, _, .nil, s => s
  | _, _, _, _, .cons r t, s => .cons r (RA.app t s)
theorem RA.take : ∀ {vs : List V} {ds : List D} (n : Nat), RA M H vs ds → RA M H (vs.take n) (ds.take n)
  | _, _, 0, _ => .nil
  | _, _, _ + 1, .nil => .nil
  | _, _, n + 1, .cons r t => .cons r (RA.take n t)
theorem RA.drop : ∀ {vs : List V} {ds : List D} (n : Nat), RA M H vs ds → RA M H (vs.drop n) (ds.drop n)
  | _, _, 0, r => r
  | _, _, _ + 1, .nil => .nil
  | _, _, n + 1, .cons _ t => RA.drop n t
theorem RA.one {v : V} {d : D} (h : R M H v d) : RA M H [v] [d] := .cons h .nil
theorem RA.two {v u : V} {d e : D} (h : R M H v d) (g : R M H u e) : RA M H [v, u] [d, e] := .cons h (.cons g .nil)
theorem RA.ints : ∀ {vs : List V} {ns : List Int}, RA M H vs (ns.map D.int) → vs = ns.map V.int
  | vs, [], h => by
    cases h
    rfl
  | vs, n :: ns, h => by
    cases h with
    | cons h t =>
      cases h
      rw [RA.ints t]
      rfl
theorem RA.ofInts (ns : List Int) : RA M H (ns.map V.int) (ns.map D.int) := by
  induction ns with
  | nil => exact .nil
  | cons n ns ih => exact .cons (.int n) ih
theorem sNew {G H : Hp} {p : Addr} {o : HO} (s : Same G H) (hp : H p = none) : Same G (upd H p o) := fun b u e => by
  rw [upd_ne (ne_of_none (s b u e) hp)]
  exact s b u e
theorem sPut {G H : Hp} {p : Addr} {o : HO} (s : Same G H) (hp : G p = none) : Same G (upd H p o) := fun b u e => by
  rw [upd_ne (ne_of_none e hp)]
  exact s b u e
/-- there, and no table -/
def Has (H : Hp) (a : Addr) : Prop := ∃ o, H a = some o ∧ ∀ ps, o ≠ .tbl ps
def NoTb (H : Hp) : Prop := ∀ a ps, H a ≠ some (.tbl ps)
structure Sx (T : List (Addr × Str)) (F H : Hp) : Prop where
  s : Same F H
  nt : NoTb F
  tb : LamX.Tabs T H
theorem Sx.free {T : List (Addr × Str)} {F H : Hp} (x : Sx T F H) {l : Addr} (h : H l = none) : F l = none := x.s.free h
theorem extN_of {H H' : Hp} (s : Same H H') : LamX.ExtN H H' := fun b o e _ => s b o e
theorem Has.ext {H H' : Hp} {a : Addr} (s : LamX.ExtN H H') (h : Has H a) : Has H' a := let ⟨o, e, n⟩ := h; ⟨o, s _ _ e n, n⟩
theorem has_lst {H : Hp} {a : Addr} {xs : List V} (h : H a = some (.lst xs)) : Has H a := ⟨_, h, fun _ z => by cases z⟩
theorem lst_ne {xs : List V} : ∀ ps, HO.lst xs ≠ .tbl ps := fun _ z => by cases z
/-- the def's own: a list or a dict -/
def Ld (o : HO) : Prop := (∃ xs, o = .lst xs) ∨ ∃ kvs, o = .dK kvs
theorem Ld.nt {o : HO} (h : Ld o) : ∀ ps, o ≠ .tbl ps := fun _ z => by
  subst z
  rcases h with ⟨_, z⟩ | ⟨_, z⟩ <;> cases z
theorem Ld.nc {o : HO} (h : Ld o) : ∀ c q, o ≠ LamX.CodeO c q := fun _ _ z => by
  subst z
  unfold LamX.CodeO at h
  rcases h with ⟨_, z⟩ | ⟨_, z⟩ <;> cases z
theorem tabs_keep {T : List (Addr × Str)} {H H' : Hp} {p : Addr} {o : HO} (t : LamX.Tabs T H) (hp : H p = some o) (ld : Ld o) (k : ∀ b, b ≠ p → H' b = H b) : LamX.Tabs T H' := fun z hz => by
  obtain ⟨ps, e1, e2, e3⟩ := t z hz
  refine ⟨ps, ?_, e2, fun pos cv hc => ?_⟩
  · rw [k _ fun q => ld.nt ps (Option.some.inj (by rw [← hp, ← q]; exact e1))]
    exact e1
  · obtain ⟨c, g1, g2⟩ := e3 pos cv hc
    refine ⟨c, g1, ?_⟩
    rw [k _ fun q => ld.nc _ _ (Option.some.inj (by rw [← hp, ← q]; exact g2))]
    exact g2
theorem Sx.up {T : List (Addr × Str)} {F H : Hp} {p : Addr} {o : HO} (x : Sx T F H) (hp : H p = none) : Sx T F (upd H p o) := ⟨sNew x.s hp, x.nt, x.tb.ext (sNew (Same.refl _) hp)⟩
theorem Sx.put {T : List (Addr × Str)} {F H : Hp} {p : Addr} {u o : HO} (x : Sx T F H) (fp : F p = none) (hp : H p = some u) (ld : Ld u) : Sx T F (upd H p o) := ⟨sPut x.s fp, x.nt, tabs_keep x.tb hp ld fun b hb => upd_ne hb⟩
/-- heaps grow: F what is told, H all; but tables may change in H -/
structure Ex (T : List (Addr × Str)) (F H F' H' : Hp) : Prop where
  f : Same F F'
  h : LamX.ExtN H H'
  s : Sx T F' H'
  n : ∀ a, F a = none → Has H a → F' a = none
section
variable {T : List (Addr × Str)}
theorem Ex.refl (s : Sx T F H) : Ex T F H F H := ⟨Same.refl F, LamX.ExtN.refl H, s, fun _ h _ => h⟩
theorem Ex.trans (a : Ex T F H F1 H1) (b : Ex T F1 H1 F2 H2) : Ex T F H F2 H2 := ⟨a.f.trans b.f, a.h.trans b.h, b.s, fun x h n => b.n x (a.n x h n) (n.ext a.h)⟩
theorem Ex.new {p : Addr} {o : HO} (s : Sx T F H) (hp : H p = none) (ho : ∀ ps, o ≠ .tbl ps := by intro _ z; cases z) : Ex T F H (upd F p o) (upd H p o) := by
  have fp : F p = none := s.free hp
  refine ⟨sNew (Same.refl F) fp, extN_of (sNew (Same.refl H) hp), ⟨fun b u e => ?_, fun a ps z => ?_, s.tb.ext (sNew (Same.refl H) hp)⟩, fun a h n => ?_⟩
  · by_cases hb : b = p
    · subst hb
      rw [upd_same] at e ⊢
      exact e
    · rw [upd_ne hb] at e ⊢
      exact s.s b u e
  · by_cases hb : a = p
    · subst hb
      rw [upd_same] at z
      exact ho ps (Option.some.inj z)
    · rw [upd_ne hb] at z
      exact s.nt a ps z
  · have hb : a ≠ p := fun z => by
      obtain ⟨o, e, _⟩ := n
      rw [z, hp] at e
      cases e
    rw [upd_ne hb]
    exact h
/-- all heap grows, what is told stays -/
theorem Ex.junk (s : Sx T F H) (k : Same H H1) : Ex T F H F H1 := ⟨Same.refl F, extN_of k, ⟨s.s.trans k, s.nt, s.tb.ext k⟩, fun _ h _ => h⟩
end
/-! ### what is wanted of a value, of an exception -/
abbrev En := List (Option D)
structure REn (M : MC) (F : Hp) (σ : L2.St) (en : En) : Prop where
  le : en.length ≤ σ.length
  at_ : ∀ (i : Nat) (d : D), en[i]? = some (some d) → ∃ v, σ[i]? = some (some v) ∧ R M F v d
theorem REn.ext {σ : L2.St} {en : En} (h : REn M F σ en) (s : Same F F1) : REn M F1 σ en := ⟨h.le, fun i d e => by
  obtain ⟨v, h1, h2⟩ := h.at_ i d e
  exact ⟨v, h1, h2.ext s⟩⟩
def Post (M : MC) (E : XK) {v d : Type} (RR : Hp → v → d → Prop) (F H : Hp) (Q : v → Hp → Prop) : Oc d → Prop
  | .ok a => ∀ x F' H', Ex M.T F H F' H' → RR F' x a → Q x H'
  | .exc c a => ∀ x F' H' dx, Ex M.T F H F' H' → R M F' x a → H' dx = none → E (.ref (M.xa c)) (some dx) (upd H' dx (.xd [(M.fl c, x)]))
  | .bad => False
theorem Post.later {E : XK} {v d : Type} {RR : Hp → v → d → Prop} {Q : v → Hp → Prop} {o : Oc d} (h : Post M E RR F H Q o) (x : Ex M.T F H F1 H1) : Post M E RR F1 H1 Q o := by
  cases o with
  | ok a => exact fun y F' H' e r => h y F' H' (x.trans e) r
  | exc c a => exact fun y F' H' dx e r n => h y F' H' dx (x.trans e) r n
  | bad => exact h
theorem Post.bind {E : XK} {v d v' d' : Type} {RR : Hp → v → d → Prop} {RR' : Hp → v' → d' → Prop} {Q : v' → Hp → Prop} {o : Oc d} {k : d → Oc d'} {Q1 : v → Hp → Prop} (h : Post M E RR' F H Q (o.bind k))
    (n : ∀ x a F1 H1, o = .ok a → Ex M.T F H F1 H1 → RR F1 x a → Post M E RR' F1 H1 Q (k a) → Q1 x H1) : Post M E RR F H Q1 o := by
  cases o with
  | ok a => exact fun x F1 H1 e r => n x a F1 H1 rfl e r (Post.later h e)
  | exc c a => exact h
  | bad => exact h
theorem Post.bd {E : XK} {v d v' d' : Type} {RR : Hp → v → d → Prop} {RR' : Hp → v' → d' → Prop} {Q : v' → Hp → Prop} {o : Oc d} {k : d → Oc d'} {Q1 : v → Hp → Prop} (h : Post M E RR' F H Q (o.bind k))
    (n : ∀ x a F1 H1, Ex M.T F H F1 H1 → RR F1 x a → Post M E RR' F1 H1 Q (k a) → Q1 x H1) : Post M E RR F H Q1 o := Post.bind h fun x a F1 H1 _ => n x a F1 H1
theorem Post.imp {E : XK} {v d : Type} {RR : Hp → v → d → Prop} {Q Q' : v → Hp → Prop} {o : Oc d} (h : Post M E RR F H Q o) (k : ∀ x F1 H1, Ex M.T F H F1 H1 → Q x H1 → Q' x H1) : Post M E RR F H Q' o := by
  cases o with
  | ok a => exact fun x F1 H1 e r => k x F1 H1 e (h x F1 H1 e r)
  | exc c a => exact h
  | bad => exact h
abbrev RB : Hp → Bool → Bool → Prop := fun _ a b => a = b
def tP (M : MC) (E : XK) (g : En → Oc D) : TE := fun σ H Q => ∃ F en, Sx M.T F H ∧ REn M F σ en ∧ Post M E (R M) F H Q (g en)
def tPA (M : MC) (E : XK) (g : En → Oc (List D)) : TA := fun σ H Q => ∃ F en, Sx M.T F H ∧ REn M F σ en ∧ Post M E (RA M) F H Q (g en)
def tPT (M : MC) (E : XK) (g : En → Oc Bool) : TT := fun σ H Q => ∃ F en, Sx M.T F H ∧ REn M F σ en ∧ Post M E RB F H Q (g en)
/-- a call by values: a function of the data -/
def rD (M : MC) (f : List D → Oc D) : List V → Hp → VK → Prop := fun vs H Q => ∃ F ds d, Sx M.T F H ∧ RA M F vs ds ∧ f ds = .ok d ∧ ∀ v F' H', Ex M.T F H F' H' → R M F' v d → Q v H'
end
/-! ### readings are weakened -/
section
variable {X : Cx} {M : MC} {E : XK}
theorem PEup {e : Expr} {t t' : TE} (h : PE X e t) (k : ∀ σ H Q, t' σ H Q → t σ H Q) : PE X e t' := ⟨fun pins s σ H Q I z => h.run pins s σ H Q I (k σ H Q z)⟩
theorem PTup {e : Expr} {t t' : TT} (h : PT X e t) (k : ∀ σ H Q, t' σ H Q → t σ H Q) : PT X e t' := ⟨fun pins s σ H Q I z => h.run pins s σ H Q I (k σ H Q z)⟩
theorem PAup {e : List Expr} {t t' : TA} (h : PA X e t) (k : ∀ σ H Q, t' σ H Q → t σ H Q) : PA X e t' := ⟨fun pos pins s σ H Q I z => h.run pos pins s σ H Q I (k σ H Q z)⟩
theorem PSup {e : Stmt} {t t' : TS} (h : PS X e t) (k : ∀ D σ H, t' D σ H → t D σ H) : PS X e t' := ⟨fun pins s σ H D I z => h.run pins s σ H D I (k D σ H z)⟩
theorem PSsup {e : List Stmt} {t t' : TS} (h : PSs X e t) (k : ∀ D σ H, t' D σ H → t D σ H) : PSs X e t' := ⟨fun pins s σ H D I z => h.run pins s σ H D I (k D σ H z)⟩
theorem OpRup {f : Value → Value → Sem Value} {r r' : V → V → Hp → VK → Prop} (h : OpR X f r) (k : ∀ x y H Q, r' x y H Q → r x y H Q) : OpR X f r' := fun pins s σ H x y v u Q I rx ry z => h pins s σ H x y v u Q I rx ry (k x y H Q z)
end
end Pl

set_option maxRecDepth 100000
set_option maxHeartbeats 4000000
namespace Pl
open PySem PySem.Spec PyProof.Rows L2 Fx
open PySem.W (Frag)
def Oc.of {α : Type} : Option α → Oc α
  | some a => .ok a
  | none => .bad
section
variable {M : MC} {F F1 H H1 : Hp} {E : XK} {vs : List V} {ds : List D} {Q : VK}
theorem rD_of {f : List D → Option D} (h : Post M E (R M) F H Q (.of (f ds))) (s : Sx M.T F H) (r : RA M F vs ds) : rD M (fun l => .of (f l)) vs H Q := by
  unfold rD
  cases e : f ds with
  | none =>
    rw [e] at h
    exact h.elim
  | some d =>
    rw [e] at h
    exact ⟨F, ds, d, s, r, by show Oc.of (f ds) = _; rw [e]; rfl, h⟩
theorem Post.pure {v : V} {d : D} (h : Post M E (R M) F H Q (.ok d)) (s : Sx M.T F H) (r : R M F v d) : Q v H := h v F H (Ex.refl s) r
theorem Post.pureB {b : Bool} {Q : Bool → Hp → Prop} (h : Post M E RB F H Q (.ok b)) (s : Sx M.T F H) : Q b H := h b F H (Ex.refl s) rfl
theorem Post.newT {xs : List V} {ds : List D} {p : Addr} (h : Post M E (R M) F H Q (.ok (.tup ds))) (s : Sx M.T F H) (r : RA M F xs ds) (hp : H p = none) : Q (.ref p) (upd H p (.tup xs)) := by
  have e : Ex M.T F H (upd F p (.tup xs)) (upd H p (.tup xs)) := Ex.new s hp
  exact h _ _ _ e (.tup (SqT.of upd_same) (r.ext e.f))
theorem Post.newL {xs : List V} {ds : List D} {p : Addr} (h : Post M E (R M) F H Q (.ok (.lst ds))) (s : Sx M.T F H) (r : RA M F xs ds) (hp : H p = none) : Q (.ref p) (upd H p (.lst xs)) := by
  have e : Ex M.T F H (upd F p (.lst xs)) (upd H p (.lst xs)) := Ex.new s hp
  exact h _ _ _ e (.lst upd_same (r.ext e.f))
end
/-! ### names and constants -/
def gV (i : Nat) : En → Oc D := fun en => match en[i]? with
  | some (some d) => .ok d
  | _ => .bad
section
variable {X : Cx} {M : MC} {E : XK} {pos : Pos}
theorem d_var {i : Nat} {x : Str} (hN : X.N[i]? = some x) (hv : Vis X.env.scope x) (hd : (x == ("__debug__" : Str)) = false := by decide) (hcd : (x == ("__classdict__" : Str)) = false := by decide) : PE X (.Name x pos) (tP M E (gV i)) :=
  PEup (pe_var hN hv hd hcd) fun σ H Q ⟨F, en, s, r, p⟩ => by
    unfold gV at p
    split at p
    · rename_i d e
      obtain ⟨v, h1, h2⟩ := r.at_ i d e
      exact ⟨v, h1, p.pure s h2⟩
    · exact p.elim
theorem d_c {e : Expr} {d : D} {v : V} (h : PE X e (tC v)) (r : ∀ F, R M F v d) : PE X e (tP M E fun _ => .ok d) := PEup h fun σ H Q ⟨F, en, s, _, p⟩ => p.pure s (r F)
theorem d_int {i : Int} {j : Nat} : PE X (.Constant (.int i) j pos) (tP M E fun _ => .ok (.int i)) := d_c pe_int fun _ => .int i
theorem d_bl {i : Bool} {j : Nat} : PE X (.Constant (.bool i) j pos) (tP M E fun _ => .ok (.bl i)) := d_c pe_bl fun _ => .bl i
theorem d_non {j : Nat} : PE X (.Constant .none j pos) (tP M E fun _ => .ok .non) := d_c pe_non fun _ => .non
theorem d_str {x : Str} {j : Nat} (h : PyData.strOk x = true := by decide +kernel) : PE X (.Constant (.str x) j pos) (tP M E fun _ => .ok (.str (.lit x))) := d_c pe_str fun _ => .str h
theorem d_gint {x : Str} {i : Int} {t : Tok} (hg : Gl X x) (hm : X.mg x = some (.int i t)) (hd : (x == ("__debug__" : Str)) = false := by decide) : PE X (.Name x pos) (tP M E fun _ => .ok (.int i)) := d_c (v := .int i) (pe_glob hg hm ⟨_, rfl⟩ hd) fun _ => .int i
/-! ### argument lists, displays -/
theorem da_nil : PA X [] (tPA M E fun _ => .ok []) := PAup pa_nil fun σ H Q ⟨F, en, s, _, p⟩ => p [] F H (Ex.refl s) .nil
def gCons (g : En → Oc D) (gs : En → Oc (List D)) : En → Oc (List D) := fun en => (g en).bind fun d => (gs en).bind fun ds => .ok (d :: ds)
theorem da_cons {e : Expr} {es : List Expr} {g : En → Oc D} {gs : En → Oc (List D)} (ha : PE X e (tP M E g)) (hb : PA X es (tPA M E gs)) (hs : starEach (e :: es) X.env = (false, eval e X.env) :: starEach es X.env := by rfl) : PA X (e :: es) (tPA M E (gCons g gs)) :=
  PAup (pa_cons ha hb hs) fun σ H Q ⟨F, en, s, r, p⟩ => ⟨F, en, s, r, Post.bd p fun x a F1 H1 e1 r1 p1 => ⟨F1, en, e1.s, r.ext e1.f, Post.bd p1 fun xs as F2 H2 e2 r2 p2 => p2 (x :: xs) F2 H2 (Ex.refl e2.s) (.cons (r1.ext e2.f) r2)⟩⟩
def fit (n : Nat) : Bool := decide (n ≤ sizeLine)
theorem fit_small {n : Nat} (h : n ≤ 1000000) : fit n = true := decide_eq_true (Nat.le_trans h (by decide))
def gTup (gs : En → Oc (List D)) : En → Oc D := fun en => (gs en).bind fun ds => if fit ds.length = true then .ok (.tup ds) else .bad
def gLst (gs : En → Oc (List D)) : En → Oc D := fun en => (gs en).bind fun ds => if fit ds.length = true then .ok (.lst ds) else .bad
theorem d_tup {es : List Expr} {k : Nat} {gs : En → Oc (List D)} (h : PA X es (tPA M E gs)) : PE X (.Tuple es k pos) (tP M E (gTup gs)) :=
  PEup (pe_tup h) fun σ H Q ⟨F, en, s, r, p⟩ => ⟨F, en, s, r, Post.bd p fun xs as F1 H1 e1 r1 p1 => by
    by_cases c : fit as.length = true
    · rw [if_pos c] at p1
      exact ⟨by rw [r1.len]; exact of_decide_eq_true c, fun q hq => p1.newT e1.s r1 hq⟩
    · rw [if_neg c] at p1
      exact p1.elim⟩
theorem d_lst {es : List Expr} {gs : En → Oc (List D)} (h : PA X es (tPA M E gs)) : PE X (.List es pos) (tP M E (gLst gs)) :=
  PEup (pe_lst h) fun σ H Q ⟨F, en, s, r, p⟩ => ⟨F, en, s, r, Post.bd p fun xs as F1 H1 e1 r1 p1 => by
    by_cases c : fit as.length = true
    · rw [if_pos c] at p1
      exact ⟨by rw [r1.len]; exact of_decide_eq_true c, fun q hq => p1.newL e1.s r1 hq⟩
    · rw [if_neg c] at p1
      exact p1.elim⟩
/-! ### operators by values -/
def l1 (f : D → Option D) : List D → Option D
  | [a] => f a
  | _ => none
def l2 (f : D → D → Option D) : List D → Option D
  | [a, b] => f a b
  | _ => none
def OpD (X : Cx) (M : MC) (op : Value → Value → Sem Value) (f : D → D → Option D) : Prop := OpR X op fun x y H Q => rD M (fun l => .of (l2 f l)) [x, y] H Q
theorem OpD.or {op : Value → Value → Sem Value} {f g : D → D → Option D} (h : OpD X M op f) (k : OpD X M op g) : OpD X M op fun a b => (f a b).or (g a b) :=
  OpRup (OpR.or h k) fun x y H Q ⟨F, ds, d, s, r, e, q⟩ => by
    match ds, e with
    | [a, b], e =>
      cases ef : f a b with
      | some d' =>
        have e2 : (Oc.of (some d') : Oc D) = .ok d := by rw [← e]; show _ = Oc.of ((f a b).or (g a b)); rw [ef]; rfl
        cases e2
        exact .inl ⟨F, [a, b], d, s, r, by show Oc.of (f a b) = _; rw [ef]; rfl, q⟩
      | none =>
        have e2 : (Oc.of (g a b) : Oc D) = .ok d := by rw [← e]; show _ = Oc.of ((f a b).or (g a b)); rw [ef]; rfl
        exact .inr ⟨F, [a, b], d, s, r, e2, q⟩
def b2 (f : D → D → Option D) (ga gb : En → Oc D) : En → Oc D := fun en => (ga en).bind fun a => (gb en).bind fun b => .of (f a b)
theorem b2_up {r : R2} {f : D → D → Option D} {ga gb : En → Oc D} (hr : ∀ x y H Q, rD M (fun l => .of (l2 f l)) [x, y] H Q → r x y H Q) (σ : L2.St) (H : Hp) (Q : VK) (h : tP M E (b2 f ga gb) σ H Q) : tOp r (tP M E ga) (tP M E gb) σ H Q := by
  obtain ⟨F, en, s, r, p⟩ := h
  exact ⟨F, en, s, r, Post.bd p fun x a F1 H1 e1 r1 p1 => ⟨F1, en, e1.s, r.ext e1.f, Post.bd p1 fun y b F2 H2 e2 r2 p2 => hr x y H2 Q (rD_of (f := l2 f) (ds := [a, b]) p2 e2.s (.two (r1.ext e2.f) r2))⟩⟩
theorem d_op {a b : Expr} {op : Operator} {f : D → D → Option D} {ga gb : En → Oc D} (ho : OpD X M (binaryOp op) f) (ha : PE X a (tP M E ga)) (hb : PE X b (tP M E gb)) : PE X (.BinOp a op b pos) (tP M E (b2 f ga gb)) :=
  PEup (pe_op ho ha hb) (b2_up fun _ _ _ _ h => h)
theorem d_cmp {a b : Expr} {op : CmpOp} {f : D → D → Option D} {ga gb : En → Oc D} (ho : OpD X M (compareOp op) f) (ha : PE X a (tP M E ga)) (hb : PE X b (tP M E gb)) (hm : behindInMarks op b = false := by first | exact nomark _ | rfl) : PE X (.Compare a [op] [b] pos) (tP M E (b2 f ga gb)) :=
  PEup (pe_cmpR ho ha hb hm) (b2_up fun _ _ _ _ h => h)
/-! ### tests -/
def toB : D → Oc Bool
  | .bl b => .ok b
  | _ => .bad
def gB (g : En → Oc D) : En → Oc Bool := fun en => (g en).bind toB
theorem toB_post {F H : Hp} {x : V} {d : D} {Q : Bool → Hp → Prop} (p : Post M E RB F H Q (toB d)) (s : Sx M.T F H) (r : R M F x d) : ∃ c, x = .bl c ∧ Q c H := by
  cases r <;> first | exact p.elim | exact ⟨_, rfl, p.pureB s⟩
theorem dt_val {e : Expr} {g : En → Oc D} (h : PE X e (tP M E g)) (he : ∀ whole, isTrue e X.env whole = (do let v ← whole; standAt e.pos; holding [v] (truthy v)) := by intro _; rfl) : PT X e (tPT M E (gB g)) :=
  PTup (pt_val h he) fun σ H Q ⟨F, en, s, r, p⟩ => ⟨F, en, s, r, Post.bd p fun x a F1 H1 e1 r1 p1 => toB_post p1 e1.s r1⟩
theorem dt_cmp {a b : Expr} {op : CmpOp} {f : D → D → Option D} {ga gb : En → Oc D} (ho : OpD X M (compareOp op) f) (ha : PE X a (tP M E ga)) (hb : PE X b (tP M E gb)) (hm : behindInMarks op b = false := by first | exact nomark _ | rfl) : PT X (.Compare a [op] [b] pos) (tPT M E (gB (b2 f ga gb))) :=
  PTup (pt_cmpR ho ha hb hm) fun σ H Q ⟨F, en, s, r, p⟩ => b2_up (fun _ _ _ _ h => h) σ H _ ⟨F, en, s, r, Post.bd p fun x a F1 H1 e1 r1 p1 => toB_post p1 e1.s r1⟩
def gNot (g : En → Oc Bool) : En → Oc Bool := fun en => (g en).bind fun b => .ok (!b)
theorem dt_not {a : Expr} {g : En → Oc Bool} (h : PT X a (tPT M E g)) : PT X (.UnaryOp .Not a pos) (tPT M E (gNot g)) :=
  PTup (pt_not h) fun σ H Q ⟨F, en, s, r, p⟩ => ⟨F, en, s, r, Post.bd p fun x a F1 H1 e1 r1 p1 => by
    cases r1
    exact p1.pureB e1.s⟩
def gAnd (g k : En → Oc Bool) : En → Oc Bool := fun en => (g en).bind fun b => if b = true then k en else .ok false
def gOr (g k : En → Oc Bool) : En → Oc Bool := fun en => (g en).bind fun b => if b = true then .ok true else k en
theorem PWup {e : Expr} {t t' : TT} (h : PW X e t) (k : ∀ σ H Q, t' σ H Q → t σ H Q) : PW X e t' := ⟨fun wh pins s σ H Q I z => h.run wh pins s σ H Q I (k σ H Q z)⟩
theorem dw_and {a b : Expr} {rest : List Expr} {g k : En → Oc Bool} (ha : PT X a (tPT M E g)) (hb : PW X (.BoolOp .And (b :: rest) pos) (tPT M E k)) : PW X (.BoolOp .And (a :: b :: rest) pos) (tPT M E (gAnd g k)) :=
  PWup (pw_and ha hb) fun σ H Q ⟨F, en, s, r, p⟩ => ⟨F, en, s, r, Post.bd p fun x a F1 H1 e1 r1 p1 => by
    cases r1
    cases x with
    | true => exact ⟨F1, en, e1.s, r.ext e1.f, by simpa using p1⟩
    | false => exact Post.pureB (by simpa using p1) e1.s⟩
theorem dw_or {a b : Expr} {rest : List Expr} {g k : En → Oc Bool} (ha : PT X a (tPT M E g)) (hb : PW X (.BoolOp .Or (b :: rest) pos) (tPT M E k)) : PW X (.BoolOp .Or (a :: b :: rest) pos) (tPT M E (gOr g k)) :=
  PWup (pw_or ha hb) fun σ H Q ⟨F, en, s, r, p⟩ => ⟨F, en, s, r, Post.bd p fun x a F1 H1 e1 r1 p1 => by
    cases r1
    cases x with
    | true => exact Post.pureB (by simpa using p1) e1.s
    | false => exact ⟨F1, en, e1.s, r.ext e1.f, by simpa using p1⟩⟩
theorem dw_one {a : Expr} {op : BoolOp} {g : En → Oc Bool} (ha : PT X a (tPT M E g)) : PW X (.BoolOp op [a] pos) (tPT M E g) := by
  cases op
  · exact pw_and1 ha
  · exact pw_or1 ha
/-- and, or, not as values -/
def vAnd (g k : En → Oc D) : En → Oc D := fun en => (g en).bind fun a => match a with
  | .bl true => k en
  | .bl false => .ok (.bl false)
  | _ => .bad
def vOr (g k : En → Oc D) : En → Oc D := fun en => (g en).bind fun a => match a with
  | .bl true => .ok (.bl true)
  | .bl false => k en
  | _ => .bad
theorem d_one {a : Expr} {op : BoolOp} {t : TE} (h : PE X a t) : PE X (.BoolOp op [a] pos) t := pe_one h
theorem d_and {a b : Expr} {rest : List Expr} {g k : En → Oc D} (ha : PE X a (tP M E g)) (hb : PE X (.BoolOp .And (b :: rest) pos) (tP M E k)) : PE X (.BoolOp .And (a :: b :: rest) pos) (tP M E (vAnd g k)) :=
  PEup (pe_and ha hb) fun σ H Q ⟨F, en, s, r, p⟩ => ⟨F, en, s, r, Post.bd p fun x a F1 H1 e1 r1 p1 => by
    cases r1 <;> first | exact p1.elim | skip
    rename_i b
    cases b with
    | true => exact ⟨true, rfl, by rw [if_pos rfl]; exact ⟨F1, en, e1.s, r.ext e1.f, p1⟩⟩
    | false => exact ⟨false, rfl, by rw [if_neg (by decide)]; exact p1.pure e1.s (.bl false)⟩⟩
theorem d_or {a b : Expr} {rest : List Expr} {g k : En → Oc D} (ha : PE X a (tP M E g)) (hb : PE X (.BoolOp .Or (b :: rest) pos) (tP M E k)) : PE X (.BoolOp .Or (a :: b :: rest) pos) (tP M E (vOr g k)) :=
  PEup (pe_or ha hb) fun σ H Q ⟨F, en, s, r, p⟩ => ⟨F, en, s, r, Post.bd p fun x a F1 H1 e1 r1 p1 => by
    cases r1 <;> first | exact p1.elim | skip
    rename_i b
    cases b with
    | true => exact ⟨true, rfl, by rw [if_pos rfl]; exact p1.pure e1.s (.bl true)⟩
    | false => exact ⟨false, rfl, by rw [if_neg (by decide)]; exact ⟨F1, en, e1.s, r.ext e1.f, p1⟩⟩⟩
def vNot (g : En → Oc D) : En → Oc D := fun en => (g en).bind fun a => match a with
  | .bl b => .ok (.bl (!b))
  | _ => .bad
theorem d_not {a : Expr} {g : En → Oc D} (ha : PE X a (tP M E g)) : PE X (.UnaryOp .Not a pos) (tP M E (vNot g)) :=
  PEup (pe_not ha) fun σ H Q ⟨F, en, s, r, p⟩ => ⟨F, en, s, r, Post.bd p fun x a F1 H1 e1 r1 p1 => by
    cases r1 <;> first | exact p1.elim | skip
    exact ⟨_, rfl, p1.pure e1.s (.bl _)⟩⟩
def gIf (c : En → Oc Bool) (g k : En → Oc D) : En → Oc D := fun en => (c en).bind fun b => if b = true then g en else k en
theorem d_if {c a b : Expr} {gc : En → Oc Bool} {g k : En → Oc D} (hc : PT X c (tPT M E gc)) (ha : PE X a (tP M E g)) (hb : PE X b (tP M E k)) : PE X (.IfExp c a b pos) (tP M E (gIf gc g k)) :=
  PEup (pe_ifExp hc ha hb) fun σ H Q ⟨F, en, s, r, p⟩ => ⟨F, en, s, r, Post.bd p fun x a F1 H1 e1 r1 p1 => by
    cases r1
    cases x with
    | true => exact ⟨F1, en, e1.s, r.ext e1.f, by simpa using p1⟩
    | false => exact ⟨F1, en, e1.s, r.ext e1.f, by simpa using p1⟩⟩
/-- a op1 b op2 c -/
def gChain (f f' : D → D → Option D) (ga gb gc : En → Oc D) : En → Oc D := fun en => (ga en).bind fun a => (gb en).bind fun b => (Oc.of (f a b)).bind fun z => match z with
  | .bl true => (gc en).bind fun c => .of (f' b c)
  | .bl false => .ok (.bl false)
  | _ => .bad
theorem d_chain {a b c : Expr} {op op' : CmpOp} {f f' : D → D → Option D} {ga gb gc : En → Oc D} (ho : OpD X M (compareOp op) f) (ho' : OpD X M (compareOp op') f') (ha : PE X a (tP M E ga)) (hb : PE X b (tP M E gb)) (hc : PE X c (tP M E gc)) (hl : lastMarks [op, op'] [b, c] = false := by rfl) :
    PE X (.Compare a [op, op'] [b, c] pos) (tP M E (gChain f f' ga gb gc)) :=
  PEup (pe_chain ho ho' ha hb hc hl) fun σ H Q ⟨F, en, s, r, p⟩ => ⟨F, en, s, r, Post.bd p fun x a F1 H1 e1 r1 p1 => ⟨F1, en, e1.s, r.ext e1.f, Post.bd p1 fun y b F2 H2 e2 r2 p2 =>
    rD_of (E := E) (f := l2 f) (ds := [a, b]) (Post.bd p2 fun z d F3 H3 e3 r3 p3 => by
      cases r3 <;> first | exact p3.elim | skip
      rename_i k
      cases k with
      | true => exact ⟨true, rfl, by rw [if_pos rfl]; exact ⟨F3, en, e3.s, ((r.ext e1.f).ext e2.f).ext e3.f, Post.bd p3 fun w c F4 H4 e4 r4 p4 => rD_of (f := l2 f') (ds := [b, c]) p4 e4.s (.two ((r2.ext e3.f).ext e4.f) r4)⟩⟩
      | false => exact ⟨false, rfl, by rw [if_neg (by decide)]; exact p3.pure e3.s (.bl false)⟩) e2.s (.two (r1.ext e2.f) r2)⟩⟩
end
end Pl

set_option maxRecDepth 100000
set_option maxHeartbeats 4000000
namespace Pl
open PySem PySem.Spec PyProof.Rows L2 Fx
open PySem.W (Frag)
/-! ### texts -/
/-- a word, by its signs -/
def wordQ (x : Str) : Bool := decide (1 ≤ x.cps.size) && decide (x.cps.size ≤ 8) && x.cps.all fun c => decide (97 ≤ c) && decide (c ≤ 122)
def SS.val (M : MC) : SS → Str
  | .lit x => x
  | .atm n => M.al n
def SS.inr (M : MC) : SS → Prop
  | .lit _ => True
  | .atm n => n < M.na
structure MOk (M : MC) : Prop where
  wd : ∀ n, n < M.na → wordQ (M.al n) = true
  asc : ∀ i j, i < j → j < M.na → (M.al i).cps.toList < (M.al j).cps.toList
def SS.eq? : SS → SS → Option Bool
  | .lit x, .lit y => some (x == y)
  | .atm i, .atm j => some (i == j)
  | .lit x, .atm _ => if wordQ x = true then none else some false
  | .atm _, .lit x => if wordQ x = true then none else some false
def SS.lt? : SS → SS → Option Bool
  | .lit x, .lit y => some (decide (x.cps.toList < y.cps.toList))
  | .atm i, .atm j => some (decide (i < j))
  | _, _ => none
section
variable {M : MC} {H : Hp}
theorem R.str_inv {v : V} {s : SS} (h : R M H v (.str s)) : v = .str (s.val M) ∧ s.inr M ∧ PyData.strOk (s.val M) = true := by
  cases h with
  | str h => exact ⟨rfl, trivial, h⟩
  | atm h g => exact ⟨rfl, h, g⟩
theorem R.ofS {s : SS} (h : s.inr M) (g : PyData.strOk (s.val M) = true) : R M H (.str (s.val M)) (.str s) := by
  cases s with
  | lit x => exact .str g
  | atm n => exact .atm h g
theorem al_inj (ok : MOk M) {i j : Nat} (hi : i < M.na) (hj : j < M.na) : (M.al i == M.al j) = (i == j) := by
  rw [Bool.eq_iff_iff]
  simp only [beq_iff_eq]
  refine ⟨fun e => ?_, fun e => by rw [e]⟩
  rcases Nat.lt_trichotomy i j with h | h | h
  · have q := ok.asc i j h hj
    rw [e] at q
    exact absurd q (List.lt_irrefl _)
  · exact h
  · have q := ok.asc j i h hi
    rw [e] at q
    exact absurd q (List.lt_irrefl _)
theorem eq?_val (ok : MOk M) {s t : SS} (hs : s.inr M) (ht : t.inr M) {b : Bool} (h : s.eq? t = some b) : (s.val M == t.val M) = b := by
  cases s with
  | lit x =>
    cases t with
    | lit y => exact Option.some.inj h
    | atm j =>
      simp only [SS.eq?] at h
      split at h
      · cases h
      · rename_i n
        rw [← Option.some.inj h]
        refine beq_eq_false_iff_ne.mpr fun e => n ?_
        have q := ok.wd j ht
        rwa [show M.al j = x from e.symm] at q
  | atm i =>
    cases t with
    | lit y =>
      simp only [SS.eq?] at h
      split at h
      · cases h
      · rename_i n
        rw [← Option.some.inj h]
        refine beq_eq_false_iff_ne.mpr fun e => n ?_
        have q := ok.wd i hs
        rwa [show M.al i = y from e] at q
    | atm j => exact (al_inj ok hs ht).trans (Option.some.inj h)
theorem lt?_val (ok : MOk M) {s t : SS} (hs : s.inr M) (ht : t.inr M) {b : Bool} (h : s.lt? t = some b) : decide ((s.val M).cps.toList < (t.val M).cps.toList) = b := by
  cases s with
  | lit x =>
    cases t with
    | lit y => exact Option.some.inj h
    | atm j => cases h
  | atm i =>
    cases t with
    | lit y => cases h
    | atm j =>
      rw [← Option.some.inj h]
      by_cases c : i < j
      · rw [decide_eq_true c]
        exact decide_eq_true (ok.asc i j c ht)
      · rw [decide_eq_false c]
        refine decide_eq_false fun q => ?_
        rcases Nat.lt_or_ge j i with g | g
        · exact absurd (List.lt_trans q (ok.asc j i g hs)) (List.lt_irrefl _)
        · have e : i = j := by omega
          subst e
          exact absurd q (List.lt_irrefl _)
end
/-! ### data as the library's data -/
mutual
def py (M : MC) : D → PyData
  | .non => .none
  | .bl b => .bool b
  | .int i => .int i
  | .str s => .str (s.val M)
  | .lst xs => .list (pys M xs)
  | .tup xs => .tuple (pys M xs)
  | .dic _ _ => .none
  | .code _ _ _ => .none
  | .adr _ => .none
  | .exv _ _ => .none
def pys (M : MC) : List D → List PyData
  | [] => []
  | x :: xs => py M x :: pys M xs
end
mutual
/-- no dict, no code -/
def pure0 : D → Bool
  | .lst xs => pures xs
  | .tup xs => pures xs
  | .dic _ _ => false
  | .code _ _ _ => false
  | .adr _ => false
  | .exv _ _ => false
  | _ => true
def pures : List D → Bool
  | [] => true
  | x :: xs => pure0 x && pures xs
end
mutual
def dep : D → Nat
  | .lst xs => deps xs + 1
  | .tup xs => deps xs + 1
  | _ => 0
def deps : List D → Nat
  | [] => 0
  | x :: xs => max (dep x) (deps xs)
end
mutual
def eqD : D → D → Option Bool
  | .bl a, .bl b => some (a == b)
  | .bl a, .int j => some ((if a then (1 : Int) else 0) == j)
  | .int i, .bl b => some (i == (if b then (1 : Int) else 0))
  | .int i, .int j => some (i == j)
  | .str s, .str t => s.eq? t
  | .non, .non => some true
  | .lst xs, .lst ys => eqDs xs ys
  | .tup xs, .tup ys => eqDs xs ys
  | _, _ => some false
def eqDs : List D → List D → Option Bool
  | [], [] => some true
  | x :: xs, y :: ys => match eqD x y with
    | some true => eqDs xs ys
    | some false => some false
    | none => none
  | _, _ => some false
end
section
variable {M : MC} {H : Hp}
mutual
theorem eqD_py (ok : MOk M) : ∀ {a b : D} {u v : V} {r : Bool}, R M H u a → R M H v b → pure0 a = true → pure0 b = true → eqD a b = some r → PyData.eqv (py M a) (py M b) = r
  | .lst xs, b, _, _, r, ha, hb, pa, pb, e => by
    cases ha with
    | lst _ ha =>
      cases hb with
      | lst _ hb =>
        simp only [py, PyData.eqv]
        exact eqDs_py ok ha hb (by simpa [pure0] using pa) (by simpa [pure0] using pb) (by simpa [eqD] using e)
      | dic => simp [pure0] at pb
      | code => simp [pure0] at pb
      | adr => simp [pure0] at pb
      | exv => simp [pure0] at pb
      | _ => simp only [eqD, Option.some.injEq] at e; subst e; simp [py, PyData.eqv]
  | .tup xs, b, _, _, r, ha, hb, pa, pb, e => by
    cases ha with
    | tup _ ha =>
      cases hb with
      | tup _ hb =>
        simp only [py, PyData.eqv]
        exact eqDs_py ok ha hb (by simpa [pure0] using pa) (by simpa [pure0] using pb) (by simpa [eqD] using e)
      | dic => simp [pure0] at pb
      | code => simp [pure0] at pb
      | adr => simp [pure0] at pb
      | exv => simp [pure0] at pb
      | _ => simp only [eqD, Option.some.injEq] at e; subst e; simp [py, PyData.eqv]
  | .str s, b, _, _, r, ha, hb, pa, pb, e => by
    cases b with
    | str t =>
      simp only [py, PyData.eqv]
      exact eq?_val ok ha.str_inv.2.1 hb.str_inv.2.1 (by simpa [eqD] using e)
    | dic => simp [pure0] at pb
    | code => simp [pure0] at pb
    | adr => simp [pure0] at pb
    | exv => simp [pure0] at pb
    | _ => simp only [eqD, Option.some.injEq] at e; subst e; simp [py, PyData.eqv]
  | .int i, b, _, _, r, ha, hb, pa, pb, e => by
    cases b with
    | dic => simp [pure0] at pb
    | code => simp [pure0] at pb
    | adr => simp [pure0] at pb
    | exv => simp [pure0] at pb
    | _ => simp only [eqD, Option.some.injEq] at e; subst e; simp [py, PyData.eqv]
  | .bl i, b, _, _, r, ha, hb, pa, pb, e => by
    cases b with
    | dic => simp [pure0] at pb
    | code => simp [pure0] at pb
    | adr => simp [pure0] at pb
    | exv => simp [pure0] at pb
    | _ => simp only [eqD, Option.some.injEq] at e; subst e; simp [py, PyData.eqv]
  | .non, b, _, _, r, ha, hb, pa, pb, e => by
    cases b with
    | dic => simp [pure0] at pb
    | code => simp [pure0] at pb
    | adr => simp [pure0] at pb
    | exv => simp [pure0] at pb
    | _ => simp only [eqD, Option.some.injEq] at e; subst e; simp [py, PyData.eqv]
  | .dic _ _, b, _, _, r, ha, hb, pa, pb, e => by simp [pure0] at pa
  | .code _ _ _, b, _, _, r, ha, hb, pa, pb, e => by simp [pure0] at pa
  | .adr _, b, _, _, r, ha, hb, pa, pb, e => by simp [pure0] at pa
  | .exv _ _, b, _, _, r, ha, hb, pa, pb, e => by simp [pure0] at pa
theorem eqDs_py (ok : MOk M) : ∀ {as bs : List D} {us vs : List V} {r : Bool}, RA M H us as → RA M H vs bs → pures as = true → pures bs = true → eqDs as bs = some r → PyData.eqvAll (pys M as) (pys M bs) = r
  | [], [], _, _, r, _, _, _, _, e => by
    simp only [eqDs, Option.some.injEq] at e
    subst e
    simp [pys, PyData.eqvAll]
  | [], y :: ys, _, _, r, _, _, _, _, e => by
    simp only [eqDs, Option.some.injEq] at e
    subst e
    simp [pys, PyData.eqvAll]
  | x :: xs, [], _, _, r, _, _, _, _, e => by
    simp only [eqDs, Option.some.injEq] at e
    subst e
    simp [pys, PyData.eqvAll]
  | x :: xs, y :: ys, _, _, r, ha, hb, pa, pb, e => by
    cases ha with
    | cons h1 t1 =>
      cases hb with
      | cons h2 t2 =>
        simp only [pures, Bool.and_eq_true] at pa pb
        simp only [eqDs] at e
        simp only [pys, PyData.eqvAll]
        cases q : eqD x y with
        | none =>
          rw [q] at e
          cases e
        | some b =>
          rw [q] at e
          rw [eqD_py ok h1 h2 pa.1 pb.1 q]
          cases b with
          | true => exact (Bool.true_and _).trans (eqDs_py ok t1 t2 pa.2 pb.2 e)
          | false =>
            cases e
            rfl
end
mutual
theorem R.dp : ∀ {v : V} {d : D}, R M H v d → pure0 d = true → Dp M.K H v (py M d)
  | _, _, .non, _ => by simp only [py]; exact .non
  | _, _, .bl b, _ => by simp only [py]; exact .bl b
  | _, _, .int i, _ => by simp only [py]; exact .int i
  | _, _, .str h, _ => by simp only [py]; exact .str _
  | _, _, .atm h _, _ => by simp only [py]; exact .str _
  | _, _, .lst h t, p => by simp only [py]; exact .lst (SqL.of h) (RA.dp t (by simpa [pure0] using p))
  | _, _, .tup h t, p => by simp only [py]; exact .tup h (RA.dp t (by simpa [pure0] using p))
  | _, _, .dic _ _ _, p => by simp [pure0] at p
  | _, _, .code _ _ _ _, p => by simp [pure0] at p
  | _, _, .adr _, p => by simp [pure0] at p
  | _, _, .exv _ _ _, p => by simp [pure0] at p
theorem RA.dp : ∀ {vs : List V} {ds : List D}, RA M H vs ds → pures ds = true → DpAll M.K H vs (pys M ds)
  | _, _, .nil, _ => by simp only [pys]; exact .nil
  | _, _, .cons h t, p => by
    simp only [pures, Bool.and_eq_true] at p
    simp only [pys]
    exact .cons (R.dp h p.1) (RA.dp t p.2)
end
mutual
theorem R.dz : ∀ {v : V} {d : D}, R M H v d → pure0 d = true → Dz M.K H v (py M d)
  | _, _, .non, _ => by simp only [py]; exact .non
  | _, _, .bl b, _ => by simp only [py]; exact .bl b
  | _, _, .int i, _ => by simp only [py]; exact .int i
  | _, _, .str h, _ => by simp only [py]; exact .str _
  | _, _, .atm h _, _ => by simp only [py]; exact .str _
  | _, _, .lst h t, p => by simp only [py]; exact .lst (SqL.of h) (RA.dz t (by simpa [pure0] using p))
  | _, _, .tup h t, p => by simp only [py]; exact .tup h (RA.dz t (by simpa [pure0] using p))
  | _, _, .dic _ _ _, p => by simp [pure0] at p
  | _, _, .code _ _ _ _, p => by simp [pure0] at p
  | _, _, .adr _, p => by simp [pure0] at p
  | _, _, .exv _ _ _, p => by simp [pure0] at p
theorem RA.dz : ∀ {vs : List V} {ds : List D}, RA M H vs ds → pures ds = true → DzAll M.K H vs (pys M ds)
  | _, _, .nil, _ => by simp only [pys]; exact .nil
  | _, _, .cons h t, p => by
    simp only [pures, Bool.and_eq_true] at p
    simp only [pys]
    exact .cons (R.dz h p.1) (RA.dz t p.2)
end
mutual
theorem R.lay : ∀ {v : V} {d : D}, R M H v d → pure0 d = true → (py M d).canLay0 = true ∧ (py M d).depth ≤ dep d
  | _, _, .non, _ => by simp [py, PyData.canLay0, PyData.depth]
  | _, _, .bl b, _ => by simp [py, PyData.canLay0, PyData.depth]
  | _, _, .int i, _ => by simp [py, PyData.canLay0, PyData.depth]
  | _, _, .str h, _ => by simpa [py, PyData.canLay0, PyData.depth, SS.val] using h
  | _, _, .atm _ h, _ => by simpa [py, PyData.canLay0, PyData.depth, SS.val] using h
  | _, _, .lst h t, p => by
    have q := RA.lay t (by simpa [pure0] using p)
    simp only [py, PyData.canLay0, PyData.depth, dep]
    exact ⟨q.1, by omega⟩
  | _, _, .tup h t, p => by
    have q := RA.lay t (by simpa [pure0] using p)
    simp only [py, PyData.canLay0, PyData.depth, dep]
    exact ⟨q.1, by omega⟩
  | _, _, .dic _ _ _, p => by simp [pure0] at p
  | _, _, .code _ _ _ _, p => by simp [pure0] at p
  | _, _, .adr _, p => by simp [pure0] at p
  | _, _, .exv _ _ _, p => by simp [pure0] at p
theorem RA.lay : ∀ {vs : List V} {ds : List D}, RA M H vs ds → pures ds = true → PyData.canLayAll0 (pys M ds) = true ∧ PyData.depthAll (pys M ds) ≤ deps ds
  | _, _, .nil, _ => by simp [pys, PyData.canLayAll0, PyData.depthAll]
  | _, _, .cons h t, p => by
    simp only [pures, Bool.and_eq_true] at p
    have a := R.lay h p.1
    have b := RA.lay t p.2
    simp only [pys, PyData.canLayAll0, PyData.depthAll, deps]
    exact ⟨by rw [a.1, b.1]; rfl, by omega⟩
end
def shp (d : D) : Bool := pure0 d && decide (dep d ≤ 60)
theorem R.shaped {v : V} {d : D} (h : R M H v d) (s : shp d = true) : SeqAt.shaped (py M d) = true := by
  obtain ⟨s1, s2⟩ := Bool.and_eq_true_iff.mp s
  obtain ⟨a, b⟩ := h.lay s1
  have c : dep d ≤ 60 := of_decide_eq_true s2
  unfold SeqAt.shaped
  rw [a, decide_eq_true (show (py M d).depth ≤ 64 by omega)]
  rfl
end
def fEq (a b : D) : Option D := if shp a = true ∧ shp b = true then (eqD a b).map .bl else none
def fNe (a b : D) : Option D := if shp a = true ∧ shp b = true then (eqD a b).map fun r => .bl (!r) else none
section
variable {X : Cx} {M : MC}
theorem rD_two {f : D → D → Option D} {x y : V} {H : Hp} {Q : VK} (h : rD M (fun l => .of (l2 f l)) [x, y] H Q) : ∃ F a b d, Sx M.T F H ∧ R M F x a ∧ R M F y b ∧ f a b = some d ∧ ∀ v F' H', Ex M.T F H F' H' → R M F' v d → Q v H' := by
  obtain ⟨F, ds, d, s, r, e, q⟩ := h
  cases r with
  | cons r1 r =>
    cases r with
    | cons r2 r =>
      cases r
      rename_i a b
      refine ⟨F, a, b, d, s, r1, r2, ?_, q⟩
      have e : Oc.of (f a b) = .ok d := e
      cases z : f a b with
      | none =>
        rw [z] at e
        cases e
      | some d' =>
        rw [z] at e
        cases e
        rfl
theorem od_eq (hK : M.K = X.K) (ok : MOk M) (hu : X.A.units + 64 < cLine) : OpD X M (compareOp .Eq) fEq := OpRup (op_eqD hu) fun x y H Q h => by
  obtain ⟨F, a, b, d, s, ra, rb, e, q⟩ := rD_two h
  unfold fEq at e
  split at e
  · rename_i c
    cases z : eqD a b with
    | none =>
      rw [z] at e
      cases e
    | some r =>
      rw [z] at e
      cases e
      have pa := (Bool.and_eq_true_iff.mp c.1).1
      have pb := (Bool.and_eq_true_iff.mp c.2).1
      rw [← hK]
      refine ⟨py M a, py M b, (ra.ext s.s).dp pa, (rb.ext s.s).dp pb, (ra.ext s.s).shaped c.1, (rb.ext s.s).shaped c.2, ?_⟩
      rw [eqD_py ok ra rb pa pb z]
      exact q _ F H (Ex.refl s) (.bl r)
  · cases e
theorem od_ne (hK : M.K = X.K) (ok : MOk M) (hu : X.A.units + 64 < cLine) : OpD X M (compareOp .NotEq) fNe := OpRup (op_neD hu) fun x y H Q h => by
  obtain ⟨F, a, b, d, s, ra, rb, e, q⟩ := rD_two h
  unfold fNe at e
  split at e
  · rename_i c
    cases z : eqD a b with
    | none =>
      rw [z] at e
      cases e
    | some r =>
      rw [z] at e
      cases e
      have pa := (Bool.and_eq_true_iff.mp c.1).1
      have pb := (Bool.and_eq_true_iff.mp c.2).1
      rw [← hK]
      refine ⟨py M a, py M b, (ra.ext s.s).dp pa, (rb.ext s.s).dp pb, (ra.ext s.s).shaped c.1, (rb.ext s.s).shaped c.2, ?_⟩
      rw [eqD_py ok ra rb pa pb z]
      exact q _ F H (Ex.refl s) (.bl _)
  · cases e
end
end Pl

set_option maxRecDepth 100000
set_option maxHeartbeats 4000000
namespace Pl
open PySem PySem.Spec PyProof.Rows L2 Fx
open PySem.W (Frag)
/-! ### ints -/
def onI (C : Int → Int → Bool) (g : Int → Int → D) : D → D → Option D
  | .int a, .int b => if C a b = true then some (g a b) else none
  | _, _ => none
section
variable {X : Cx} {M : MC} {pos : Pos}
theorem od_int {op : Value → Value → Sem Value} {C : Int → Int → Bool} {g : Int → Int → D} {r : R2} (h : OpR X op r) (k : ∀ (i j : Int) (H F : Hp) (Q : VK), C i j = true → Same F H → (∀ v, R M F v (g i j) → Q v H) → r (.int i) (.int j) H Q) : OpD X M op (onI C g) := OpRup h fun x y H Q h => by
  obtain ⟨F, a, b, d, s, ra, rb, e, q⟩ := rD_two h
  cases ra with
  | int i =>
    cases rb with
    | int j =>
      simp only [onI] at e
      split at e
      · rename_i c
        cases e
        exact k i j H F Q c s.s fun v rv => q v F H (Ex.refl s) rv
      · cases e
    | _ => cases e
  | _ => cases e
def fAdd := onI (fun _ _ => true) fun i j => .int (i + j)
def fSub := onI (fun _ _ => true) fun i j => .int (i - j)
def fMul := onI (fun i j => (decide (-(2 ^ 64) < i) && decide (i < 2 ^ 64)) || (decide (-(2 ^ 64) < j) && decide (j < 2 ^ 64))) fun i j => .int (i * j)
def fDiv := onI (fun i j => decide (j ≠ 0) && decide (j.natAbs < 1073741824)) fun i j => .int (i.fdiv j)
def fMod := onI (fun i j => decide (j ≠ 0)) fun i j => .int (i.fmod j)
def fShl := onI (fun i j => decide (0 ≤ j) && decide (j ≤ 1000000) && decide (i.natAbs < 2 ^ 64)) fun i j => .int (i * 2 ^ j.toNat)
def fShr := onI (fun _ j => decide (0 ≤ j)) fun i j => .int (i / 2 ^ j.toNat)
def fAnd := onI (fun _ _ => true) fun i j => .int (Builtin.bitAnd i j)
def fOr := onI (fun _ _ => true) fun i j => .int (Builtin.bitOr i j)
theorem od_add : OpD X M (binaryOp .Add) fAdd := od_int op_add fun i j H F Q _ _ k => ⟨i, j, rfl, rfl, k _ (.int _)⟩
theorem od_sub : OpD X M (binaryOp .Sub) fSub := od_int op_sub fun i j H F Q _ _ k => ⟨i, j, rfl, rfl, k _ (.int _)⟩
theorem od_mul : OpD X M (binaryOp .Mult) fMul := od_int op_mul fun i j H F Q c _ k => ⟨i, j, rfl, rfl, by simpa [CMul] using c, k _ (.int _)⟩
theorem od_div : OpD X M (binaryOp .FloorDiv) fDiv := od_int op_fdivN fun i j H F Q c _ k => ⟨i, j, rfl, rfl, by simpa [CDivN] using c, k _ (.int _)⟩
theorem od_mod : OpD X M (binaryOp .Mod) fMod := od_int op_modN fun i j H F Q c _ k => ⟨i, j, rfl, rfl, by simpa using c, k _ (.int _)⟩
theorem od_shl : OpD X M (binaryOp .LShift) fShl := od_int op_shl fun i j H F Q c _ k => ⟨i, j, rfl, rfl, by simpa [CPow, and_assoc] using c, k _ (.int _)⟩
theorem od_shr : OpD X M (binaryOp .RShift) fShr := od_int op_shr fun i j H F Q c _ k => ⟨i, j, rfl, rfl, by simpa using c, k _ (.int _)⟩
theorem od_and : OpD X M (binaryOp .BitAnd) fAnd := od_int op_and fun i j H F Q _ _ k => ⟨i, j, rfl, rfl, k _ (.int _)⟩
theorem od_or : OpD X M (binaryOp .BitOr) fOr := od_int op_or fun i j H F Q _ _ k => ⟨i, j, rfl, rfl, k _ (.int _)⟩
theorem od_iadd : OpD X M (inplaceOp .Add) fAdd := od_int iop_add fun i j H F Q _ _ k => ⟨i, j, rfl, rfl, k _ (.int _)⟩
theorem od_isub : OpD X M (inplaceOp .Sub) fSub := od_int iop_sub fun i j H F Q _ _ k => ⟨i, j, rfl, rfl, k _ (.int _)⟩
theorem od_iand : OpD X M (inplaceOp .BitAnd) fAnd := od_int iop_and fun i j H F Q _ _ k => ⟨i, j, rfl, rfl, k _ (.int _)⟩
theorem od_ior : OpD X M (inplaceOp .BitOr) fOr := od_int iop_or fun i j H F Q _ _ k => ⟨i, j, rfl, rfl, k _ (.int _)⟩
/-! ### order -/
def fLtI := onI (fun _ _ => true) fun i j => .bl (decide (i < j))
def fLeI := onI (fun _ _ => true) fun i j => .bl (decide (i ≤ j))
def fGtI := onI (fun _ _ => true) fun i j => .bl (decide (j < i))
def fGeI := onI (fun _ _ => true) fun i j => .bl (decide (j ≤ i))
theorem od_ltI : OpD X M (compareOp .Lt) fLtI := od_int op_lt fun i j H F Q _ _ k => ⟨i, j, rfl, rfl, k _ (.bl _)⟩
theorem od_leI : OpD X M (compareOp .LtE) fLeI := od_int op_le fun i j H F Q _ _ k => ⟨i, j, rfl, rfl, k _ (.bl _)⟩
theorem od_gtI : OpD X M (compareOp .Gt) fGtI := od_int op_gt fun i j H F Q _ _ k => ⟨i, j, rfl, rfl, k _ (.bl _)⟩
theorem od_geI : OpD X M (compareOp .GtE) fGeI := od_int op_ge fun i j H F Q _ _ k => ⟨i, j, rfl, rfl, k _ (.bl _)⟩
def onS (g : SS → SS → Option Bool) : D → D → Option D
  | .str a, .str b => (g a b).map .bl
  | _, _ => none
theorem od_str (ok : MOk M) {op : Value → Value → Sem Value} {g : SS → SS → Option Bool} {p : Str → Str → Bool} {r : R2} (h : OpR X op r) (hr : ∀ (x y : Str) (H : Hp) (Q : VK), Q (.bl (p x y)) H → r (.str x) (.str y) H Q)
    (hg : ∀ s t b, s.inr M → t.inr M → g s t = some b → p (s.val M) (t.val M) = b) : OpD X M op (onS g) := OpRup h fun x y H Q h => by
  obtain ⟨F, a, b, d, s, ra, rb, e, q⟩ := rD_two h
  cases a with
  | str a =>
    cases b with
    | str b =>
      obtain ⟨rfl, ia, _⟩ := ra.str_inv
      obtain ⟨rfl, ib, _⟩ := rb.str_inv
      simp only [onS] at e
      cases z : g a b with
      | none =>
        rw [z] at e
        cases e
      | some c =>
        rw [z] at e
        cases e
        refine hr _ _ H Q ?_
        rw [hg a b c ia ib z]
        exact q _ F H (Ex.refl s) (.bl c)
    | _ => cases e
  | _ => cases e
def fLtS := onS SS.lt?
def fLeS := onS fun a b => (SS.lt? b a).map (!·)
def fGtS := onS fun a b => SS.lt? b a
def fGeS := onS fun a b => (SS.lt? a b).map (!·)
theorem od_ltS (ok : MOk M) : OpD X M (compareOp .Lt) fLtS := od_str ok op_lt_str (p := fun x y => decide (x.cps.toList < y.cps.toList)) (fun x y H Q q => ⟨x, y, rfl, rfl, q⟩) fun s t b hs ht e => lt?_val ok hs ht e
theorem od_gtS (ok : MOk M) : OpD X M (compareOp .Gt) fGtS := od_str ok op_gt_str (p := fun x y => decide (y.cps.toList < x.cps.toList)) (fun x y H Q q => ⟨x, y, rfl, rfl, q⟩) fun s t b hs ht e => lt?_val ok ht hs e
theorem od_leS (ok : MOk M) : OpD X M (compareOp .LtE) fLeS := od_str ok op_le_str (p := fun x y => !decide (y.cps.toList < x.cps.toList)) (fun x y H Q q => ⟨x, y, rfl, rfl, q⟩) fun s t b hs ht e => by
  cases z : SS.lt? t s with
  | none => rw [z] at e; cases e
  | some c => rw [z] at e; cases e; exact congrArg (!·) (lt?_val ok ht hs z)
theorem od_geS (ok : MOk M) : OpD X M (compareOp .GtE) fGeS := od_str ok op_ge_str (p := fun x y => !decide (x.cps.toList < y.cps.toList)) (fun x y H Q q => ⟨x, y, rfl, rfl, q⟩) fun s t b hs ht e => by
  cases z : SS.lt? s t with
  | none => rw [z] at e; cases e
  | some c => rw [z] at e; cases e; exact congrArg (!·) (lt?_val ok hs ht z)
/-- the ints of data -/
def ints? : List D → Option (List Int)
  | [] => some []
  | .int i :: r => (ints? r).map (i :: ·)
  | _ :: _ => none
theorem ints_eq : ∀ {ds : List D} {ns : List Int}, ints? ds = some ns → ds = ns.map D.int
  | [], ns, h => by cases h; rfl
  | .int i :: r, ns, h => by
    simp only [ints?, Option.map_eq_some_iff] at h
    obtain ⟨ms, h1, rfl⟩ := h
    rw [ints_eq h1]
    rfl
  | .non :: r, ns, h => by cases h
  | .bl _ :: r, ns, h => by cases h
  | .str _ :: r, ns, h => by cases h
  | .lst _ :: r, ns, h => by cases h
  | .tup _ :: r, ns, h => by cases h
  | .dic _ _ :: r, ns, h => by cases h
  | .code _ _ _ :: r, ns, h => by cases h
  | .adr _ :: r, ns, h => by cases h
  | .exv _ _ :: r, ns, h => by cases h
theorem ints_map (ns : List Int) : ints? (ns.map D.int) = some ns := by
  induction ns with
  | nil => rfl
  | cons n ns ih => simp [ints?, ih]
def fLtT : D → D → Option D
  | .tup a, .tup b => match ints? a, ints? b with
    | some ns, some ms => some (.bl (HT.lexLt ns ms))
    | _, _ => none
  | _, _ => none
theorem od_ltT (hK : M.K = X.K) (hu : X.A.units < cLine) : OpD X M (compareOp .Lt) fLtT := OpRup (op_ltT hu) fun x y H Q h => by
  obtain ⟨F, a, b, d, s, ra, rb, e, q⟩ := rD_two h
  cases ra with
  | tup ha ra =>
    cases rb with
    | tup hb rb =>
      simp only [fLtT] at e
      split at e
      · rename_i ns ms e1 e2
        cases e
        have g1 := ints_eq e1
        have g2 := ints_eq e2
        subst g1 g2
        have f1 := ra.ints
        have f2 := rb.ints
        subst f1 f2
        rw [← hK]
        exact ⟨_, _, ns, ms, rfl, rfl, SqT.ext ha s.s, SqT.ext hb s.s, q _ F H (Ex.refl s) (.bl _)⟩
      · cases e
    | _ => cases e
  | _ => cases e
/-- < of ints, of texts, of tuples of ints -/
def fLt (a b : D) : Option D := (fLtI a b).or ((fLtS a b).or (fLtT a b))
theorem od_lt (hK : M.K = X.K) (ok : MOk M) (hu : X.A.units < cLine) : OpD X M (compareOp .Lt) fLt := od_ltI.or ((od_ltS ok).or (od_ltT hK hu))
def fLe (a b : D) : Option D := (fLeI a b).or (fLeS a b)
theorem od_le (ok : MOk M) : OpD X M (compareOp .LtE) fLe := od_leI.or (od_leS ok)
def fGt (a b : D) : Option D := (fGtI a b).or (fGtS a b)
theorem od_gt (ok : MOk M) : OpD X M (compareOp .Gt) fGt := od_gtI.or (od_gtS ok)
def fGe (a b : D) : Option D := (fGeI a b).or (fGeS a b)
theorem od_ge (ok : MOk M) : OpD X M (compareOp .GtE) fGe := od_geI.or (od_geS ok)
/-! ### is None, is of bools -/
def isN : D → Bool
  | .non => true
  | _ => false
theorem R.isN {F : Hp} {v : V} {d : D} (r : R M F v d) : decide (v = .non) = isN d := by cases r <;> first | rfl | exact decide_eq_false (fun z => nomatch z)
def fIsN : D → D → Option D
  | a, .non => some (.bl (isN a))
  | _, _ => none
def fNotN : D → D → Option D
  | a, .non => some (.bl (!isN a))
  | _, _ => none
theorem od_isN : OpD X M (compareOp .Is) fIsN := OpRup op_isN fun x y H Q h => by
  obtain ⟨F, a, b, d, s, ra, rb, e, q⟩ := rD_two h
  cases rb with
  | non =>
    cases e
    exact ⟨rfl, by rw [ra.isN]; exact q _ F H (Ex.refl s) (.bl _)⟩
  | _ => cases e
theorem od_notN : OpD X M (compareOp .IsNot) fNotN := OpRup op_notN fun x y H Q h => by
  obtain ⟨F, a, b, d, s, ra, rb, e, q⟩ := rD_two h
  cases rb with
  | non =>
    cases e
    exact ⟨rfl, by rw [ra.isN]; exact q _ F H (Ex.refl s) (.bl _)⟩
  | _ => cases e
def fIsB : D → D → Option D
  | .bl a, .bl b => some (.bl (decide (a = b)))
  | _, _ => none
def fNotB : D → D → Option D
  | .bl a, .bl b => some (.bl (!decide (a = b)))
  | _, _ => none
theorem od_isB : OpD X M (compareOp .Is) fIsB := OpRup op_is_bl fun x y H Q h => by
  obtain ⟨F, a, b, d, s, ra, rb, e, q⟩ := rD_two h
  cases ra with
  | bl a =>
    cases rb with
    | bl b =>
      cases e
      exact ⟨a, b, rfl, rfl, q _ F H (Ex.refl s) (.bl _)⟩
    | _ => cases e
  | _ => cases e
theorem od_notB : OpD X M (compareOp .IsNot) fNotB := OpRup op_isnot_bl fun x y H Q h => by
  obtain ⟨F, a, b, d, s, ra, rb, e, q⟩ := rD_two h
  cases ra with
  | bl a =>
    cases rb with
    | bl b =>
      cases e
      exact ⟨a, b, rfl, rfl, q _ F H (Ex.refl s) (.bl _)⟩
    | _ => cases e
  | _ => cases e
/-! ### in a list or tuple of flat items -/
def flat : D → Bool
  | .non => true
  | .bl _ => true
  | .int _ => true
  | .str _ => true
  | _ => false
def inD (x : D) : List D → Option Bool
  | [] => some false
  | y :: ys => if flat y = true then match eqD y x with
      | some true => if ys.all flat = true then some true else none
      | some false => inD x ys
      | none => none
    else none
theorem R.flatV {F : Hp} {v : V} {d : D} (r : R M F v d) : flatV v = flat d := by cases r <;> rfl
theorem RA.flat {F : Hp} : ∀ {vs : List V} {ds : List D}, RA M F vs ds → vs.all L2.flatV = ds.all Pl.flat
  | _, _, .nil => rfl
  | _, _, .cons h t => by rw [List.all_cons, List.all_cons, h.flatV, RA.flat t]
theorem eqD_flat (ok : MOk M) {F : Hp} {u v : V} {a b : D} {r : Bool} (ra : R M F u a) (rb : R M F v b) (fa : flat a = true) (fb : flat b = true) (e : eqD a b = some r) : eqV u v = r := by
  cases ra with
  | non => cases rb <;> first | (cases e; rfl) | cases fb
  | bl i => cases rb <;> first | (cases e; rfl) | cases fb
  | int i => cases rb <;> first | (cases e; rfl) | cases fb
  | str h => cases rb <;> first | (cases e; rfl) | exact eq?_val (s := .lit _) (t := .lit _) ok trivial trivial (by simpa [eqD] using e) | (exact eq?_val (s := .lit _) (t := .atm _) ok trivial (by assumption) (by simpa [eqD] using e)) | cases fb
  | atm h g => cases rb <;> first | (cases e; rfl) | exact eq?_val (s := .atm _) (t := .lit _) ok h trivial (by simpa [eqD] using e) | (exact eq?_val (s := .atm _) (t := .atm _) ok h (by assumption) (by simpa [eqD] using e)) | cases fb
  | _ => cases fa
theorem inD_val (ok : MOk M) {F : Hp} {x : V} {d : D} (rx : R M F x d) (fx : flat d = true) : ∀ {vs : List V} {ds : List D} {b : Bool}, RA M F vs ds → inD d ds = some b → ds.all flat = true ∧ inV x vs = b
  | _, _, b, .nil, e => by cases e; exact ⟨rfl, rfl⟩
  | _, _, b, .cons (v := v) (d := y) (ds := ys) (vs := vs) h t, e => by
    simp only [inD] at e
    split at e
    · rename_i fy
      split at e
      · rename_i z
        split at e
        · rename_i fa
          cases e
          refine ⟨by rw [List.all_cons, fy, fa]; rfl, ?_⟩
          show (eqV v x || inV x vs) = true
          rw [eqD_flat ok h rx fy fx z]
          rfl
        · cases e
      · rename_i z
        obtain ⟨q1, q2⟩ := inD_val ok rx fx t e
        refine ⟨by rw [List.all_cons, fy, q1]; rfl, ?_⟩
        show (eqV v x || inV x vs) = b
        rw [eqD_flat ok h rx fy fx z, q2]
        rfl
      · cases e
    · cases e
def items? : D → Option (List D)
  | .lst xs => some xs
  | .tup xs => some xs
  | _ => none
theorem R.items {F : Hp} {v : V} {d : D} {ds : List D} (r : R M F v d) (e : items? d = some ds) : ∃ a vs, v = .ref a ∧ (SqL M.K F a vs ∨ SqT M.K F a vs) ∧ RA M F vs ds := by
  cases r with
  | lst h t => cases e; exact ⟨_, _, rfl, .inl (SqL.of h), t⟩
  | tup h t => cases e; exact ⟨_, _, rfl, .inr h, t⟩
  | _ => cases e
theorem R.itemsB {F : Hp} {v : V} {d : D} {ds : List D} (r : R M F v d) (e : items? d = some ds) : ∃ a vs b, v = .ref a ∧ SqE M.K F a vs b ∧ RA M F vs ds := by
  cases r with
  | lst h t => cases e; exact ⟨_, _, true, rfl, SqL.of h, t⟩
  | tup h t => cases e; exact ⟨_, _, false, rfl, h, t⟩
  | _ => cases e
theorem Sq2.ext {F H : Hp} {a : Addr} {vs : List V} (h : SqL M.K F a vs ∨ SqT M.K F a vs) (s : Same F H) : SqL M.K H a vs ∨ SqT M.K H a vs := h.elim (fun h => .inl (SqL.ext h s)) fun h => .inr (SqT.ext h s)
def fIn (x l : D) : Option D := (items? l).bind fun ds => if flat x = true then (inD x ds).map .bl else none
def fNotIn (x l : D) : Option D := (items? l).bind fun ds => if flat x = true then (inD x ds).map fun b => .bl (!b) else none
theorem od_in (hK : M.K = X.K) (ok : MOk M) : OpD X M (compareOp .In) fIn := OpRup op_in_seq fun x y H Q h => by
  obtain ⟨F, a, b, d, s, ra, rb, e, q⟩ := rD_two h
  unfold fIn at e
  cases z : items? b with
  | none => rw [z] at e; cases e
  | some ds =>
    rw [z] at e
    simp only [Option.bind_some] at e
    split at e
    · rename_i fa
      cases z2 : inD a ds with
      | none => rw [z2] at e; cases e
      | some c =>
        rw [z2] at e
        cases e
        obtain ⟨p, vs, rfl, hq, rs⟩ := rb.items z
        obtain ⟨q1, q2⟩ := inD_val ok ra fa rs z2
        rw [← hK]
        refine ⟨p, vs, rfl, Sq2.ext hq s.s, by rw [ra.flatV]; exact fa, by rw [rs.flat]; exact q1, ?_⟩
        rw [q2]
        exact q _ F H (Ex.refl s) (.bl c)
    · cases e
theorem od_notIn (hK : M.K = X.K) (ok : MOk M) : OpD X M (compareOp .NotIn) fNotIn := OpRup op_notIn_seq fun x y H Q h => by
  obtain ⟨F, a, b, d, s, ra, rb, e, q⟩ := rD_two h
  unfold fNotIn at e
  cases z : items? b with
  | none => rw [z] at e; cases e
  | some ds =>
    rw [z] at e
    simp only [Option.bind_some] at e
    split at e
    · rename_i fa
      cases z2 : inD a ds with
      | none => rw [z2] at e; cases e
      | some c =>
        rw [z2] at e
        cases e
        obtain ⟨p, vs, rfl, hq, rs⟩ := rb.items z
        obtain ⟨q1, q2⟩ := inD_val ok ra fa rs z2
        rw [← hK]
        refine ⟨p, vs, rfl, Sq2.ext hq s.s, by rw [ra.flatV]; exact fa, by rw [rs.flat]; exact q1, ?_⟩
        rw [q2]
        exact q _ F H (Ex.refl s) (.bl _)
    · cases e
end
end Pl

set_option maxRecDepth 100000
set_option maxHeartbeats 4000000
namespace Pl
open PySem PySem.Spec PyProof.Rows L2 Fx
open PySem.W (Frag)
/-! ### lists put together, wherever they lie -/
theorem op_catL {X : Cx} : OpR X (binaryOp .Add) (fun x y H Q => ∃ l b xs zs, x = V.ref l ∧ y = V.ref b ∧ SqL X.K H l xs ∧ SqL X.K H b zs ∧ xs.length + zs.length ≤ sizeLine ∧ ∀ p, H p = none → Q (.ref p) (upd H p (.lst (xs ++ zs)))) := by
  intro pins s σ H x y v u Q I rx ry h
  obtain ⟨l, b, xs, zs, rfl, rfl, hH, hB, hz, q⟩ := h
  cases rx
  cases ry
  obtain ⟨its, r, p1, _⟩ := I.list hH
  obtain ⟨its2, r2, p2, _⟩ := I.list hB
  have hl := r.length
  have hl2 := r2.length
  obtain ⟨⟨cls, dd, data, sl⟩, ho, hc, n, hd⟩ := id p1.isList
  obtain ⟨⟨cls2, dd2, data2, sl2⟩, ho2, hc2, n2, hd2⟩ := id p2.isList
  simp only at hc hd hc2 hd2
  subst hc hd hc2 hd2
  have e : its.toArray ++ its2.toArray = (its ++ its2).toArray := by simp
  refine concat_meets ⟨_, ho, rfl⟩ ⟨_, ho2, rfl⟩ noFill_list_add seq_list_add PySem.F.slot_list_add PySem.F.entry_list_add (PySem.F.args_list_add_2 _ _) (list_addW l b its.toArray its2.toArray n n2 dd dd2 sl sl2 (by rw [List.size_toArray, List.size_toArray]; omega)) ⟨ho, ho2, ?_⟩
  rw [e]
  exact ⟨.ref _, _, I.lnew (t' := s.toks) (r.append r2) (by rw [List.length_append]; omega), rfl, q _ I.fresh⟩
def fCat : D → D → Option D
  | .lst a, .lst b => if fit (a.length + b.length) = true then some (.lst (a ++ b)) else none
  | .tup a, .tup b => if fit (a.length + b.length) = true then some (.tup (a ++ b)) else none
  | .str (.lit a), .str (.lit b) => if fit (a.length + b.length) = true then some (.str (.lit (a ++ b))) else none
  | _, _ => none
theorem strOk_app {a b : Str} (ha : PyData.strOk a = true) (hb : PyData.strOk b = true) : PyData.strOk (a ++ b) = true := by
  unfold PyData.strOk at ha hb ⊢
  have e : (a ++ b).cps = a.cps ++ b.cps := rfl
  rw [e, Array.all_append, ha, hb]
  rfl
section
variable {X : Cx} {M : MC} {E : XK} {pos : Pos}
theorem od_cat (hK : M.K = X.K) : OpD X M (binaryOp .Add) fCat := OpRup (OpR.or op_catL (OpR.or op_catA op_add_str)) fun x y H Q h => by
  obtain ⟨F, a, b, d, s, ra, rb, e, q⟩ := rD_two h
  cases ra with
  | lst ha ra =>
    cases rb with
    | lst hb rb =>
      simp only [fCat] at e
      split at e
      · rename_i c
        cases e
        have c := of_decide_eq_true c
        rw [← hK]
        refine .inl ⟨_, _, _, _, rfl, rfl, SqL.of (s.s _ _ ha), SqL.of (s.s _ _ hb), by rw [ra.len, rb.len]; exact c, fun p hp => ?_⟩
        exact Post.newL (E := fun _ _ _ => False) (M := M) (ds := _ ++ _) q s (ra.app rb) hp
      · cases e
    | _ => cases e
  | tup ha ra =>
    cases rb with
    | tup hb rb =>
      simp only [fCat] at e
      split at e
      · rename_i c
        cases e
        have c := of_decide_eq_true c
        rw [← hK]
        refine .inr (.inl ⟨_, _, _, _, rfl, rfl, SqT.ext ha s.s, SqT.ext hb s.s, by rw [ra.len, rb.len]; exact c, fun z => ?_, fun z z2 => ?_, fun z z2 p hp => ?_⟩)
        · subst z
          cases ra
          exact q _ F H (Ex.refl s) (.tup hb rb)
        · subst z2
          cases rb
          rw [List.append_nil] at q
          exact q _ F H (Ex.refl s) (.tup ha ra)
        · exact Post.newT (E := fun _ _ _ => False) (M := M) (ds := _ ++ _) q s (ra.app rb) hp
      · cases e
    | _ => cases e
  | str ha =>
    cases rb with
    | str hb =>
      simp only [fCat] at e
      split at e
      · rename_i c
        cases e
        exact .inr (.inr ⟨_, _, rfl, rfl, of_decide_eq_true c, q _ F H (Ex.refl s) (.str (strOk_app ha hb))⟩)
      · cases e
    | _ => cases e
  | atm => cases rb <;> cases e
  | _ => cases e
/-- + of ints, lists, tuples, texts -/
def fPlus (a b : D) : Option D := (fAdd a b).or (fCat a b)
theorem od_plus (hK : M.K = X.K) : OpD X M (binaryOp .Add) fPlus := od_add.or (od_cat hK)
/-! ### items -/
theorem RA.atI {F : Hp} {vs : List V} {ds : List D} (r : RA M F vs ds) {i : Int} {d : D} (e : L2.atI ds i = some d) : ∃ v, L2.atI vs i = some v ∧ R M F v d := by
  unfold L2.atI at e ⊢
  rw [r.len]
  cases z : ixN ds.length i with
  | none => rw [z] at e; cases e
  | some j =>
    rw [z] at e
    exact r.at e
def fIx (a i : D) : Option D := match items? a, i with
  | some ds, .int i => L2.atI ds i
  | _, _ => none
theorem d_ix {a b : Expr} {ga gb : En → Oc D} (hK : M.K = X.K) (ha : PE X a (tP M E ga)) (hb : PE X b (tP M E gb)) (hs : PlainIx b := by exact fun _ _ => rfl) : PE X (.Subscript a b pos) (tP M E (b2 fIx ga gb)) :=
  PEup (pe_ix ix_seq ha hb hs) (b2_up fun x y H Q h => by
    obtain ⟨F, a, b, d, s, ra, rb, e, q⟩ := rD_two h
    unfold fIx at e
    split at e
    · rename_i ds i z
      cases rb
      obtain ⟨p, vs, rfl, hq, rs⟩ := ra.items z
      obtain ⟨v, e1, e2⟩ := rs.atI e
      rw [← hK]
      rcases hq with hq | hq
      · exact .inl ⟨p, vs, i, v, rfl, rfl, SqL.ext hq s.s, e1, q _ F H (Ex.refl s) e2⟩
      · exact .inr (.inl ⟨p, vs, i, v, rfl, rfl, SqT.ext hq s.s, e1, q _ F H (Ex.refl s) e2⟩)
    · cases e)
/-! ### slices -/
def cutD (xs : List D) (lo hi : Option Int) : List D := (xs.drop (HT.sIx xs.length 0 lo)).take (HT.sIx xs.length xs.length hi - HT.sIx xs.length 0 lo)
theorem RA.cut {F : Hp} {vs : List V} {ds : List D} (r : RA M F vs ds) (lo hi : Option Int) : RA M F (cutV vs lo hi) (cutD ds lo hi) := by
  unfold cutV cutD
  rw [r.len]
  exact (r.drop _).take _
theorem cutV_whole {vs : List V} {lo hi : Option Int} (z : HT.sIx vs.length 0 lo = 0 ∧ HT.sIx vs.length vs.length hi = vs.length) : cutV vs lo hi = vs := by
  unfold cutV
  rw [z.1, z.2, Nat.sub_zero, List.drop_zero, List.take_length]
def fSl (a : D) (lo hi : Option Int) : Option D := match a with
  | .lst ds => some (.lst (cutD ds lo hi))
  | .tup ds => some (.tup (cutD ds lo hi))
  | _ => none
def tPO (M : MC) (E : XK) (g : En → Oc (Option Int)) : TO := fun σ H Q => ∃ F en, Sx M.T F H ∧ REn M F σ en ∧ Post M E (fun _ a b => a = b) F H Q (g en)
theorem dp_none : PO X none (tPO M E fun _ => .ok none) := ⟨fun pins s σ H Q I h => by
  obtain ⟨F, en, s', _, p⟩ := h
  exact po_none.run pins s σ H Q I (p none F H (Ex.refl s') rfl)⟩
def toI : D → Oc (Option Int)
  | .int i => .ok (some i)
  | _ => .bad
theorem dp_some {e : Expr} {g : En → Oc D} (h : PE X e (tP M E g)) : PO X (some e) (tPO M E fun en => (g en).bind toI) := ⟨fun pins s σ H Q I hh => by
  obtain ⟨F, en, s', r, p⟩ := hh
  exact (po_some h).run pins s σ H Q I ⟨F, en, s', r, Post.bd p fun x a F1 H1 e1 r1 p1 => by
    cases r1 <;> first | exact p1.elim | exact ⟨_, rfl, p1 _ F1 H1 (Ex.refl e1.s) rfl⟩⟩⟩
def gSl (g : En → Oc D) (gl gh : En → Oc (Option Int)) : En → Oc D := fun en => (g en).bind fun a => (gl en).bind fun lo => (gh en).bind fun hi => .of (fSl a lo hi)
theorem d_slice {a : Expr} {lo hi : Option Expr} {g : En → Oc D} {gl gh : En → Oc (Option Int)} {p2 : Pos} (hK : M.K = X.K) (ha : PE X a (tP M E g)) (hl : PO X lo (tPO M E gl)) (hh : PO X hi (tPO M E gh)) : PE X (.Subscript a (.Slice lo hi none p2) pos) (tP M E (gSl g gl gh)) :=
  PEup (pe_slice (sl_list.or sl_tupA) ha hl hh) fun σ H Q ⟨F, en, s, r, p⟩ => ⟨F, en, s, r, Post.bd p fun x a F1 H1 e1 r1 p1 => ⟨F1, en, e1.s, r.ext e1.f, Post.bd p1 fun l l' F2 H2 e2 r2 p2 => ⟨F2, en, e2.s, (r.ext e1.f).ext e2.f, Post.bd p2 fun u u' F3 H3 e3 r3 p3 => by
    subst r2 r3
    have ra := (r1.ext e2.f).ext e3.f
    cases ra with
    | lst ha ra =>
      rw [← hK]
      exact .inl ⟨_, _, rfl, SqL.of (e3.s.s _ _ ha), fun q hq => Post.newL (ds := cutD _ l u) p3 e3.s (ra.cut l u) hq⟩
    | tup ha ra =>
      rw [← hK]
      refine .inr ⟨_, _, rfl, SqT.ext ha e3.s.s, fun z => ?_, fun z q hq => Post.newT (ds := cutD _ l u) p3 e3.s (ra.cut l u) hq⟩
      have ec := ra.cut l u
      rw [cutV_whole z] at ec
      exact Post.pure (d := .tup (cutD _ l u)) p3 e3.s (.tup ha ec)
    | _ => exact p3.elim⟩⟩⟩
/-! ### fields of a code -/
def fPl : D → Oc D
  | .code a _ _ => .ok a
  | _ => .bad
def fDr : D → Oc D
  | .code _ b _ => .ok b
  | _ => .bad
def fJm : D → Oc D
  | .code _ _ c => .ok c
  | _ => .bad
def gB1 (f : D → Oc D) (g : En → Oc D) : En → Oc D := fun en => (g en).bind f
theorem d_places {o : Expr} {g : En → Oc D} (cl : Cls X.K M.C) (n : NoAttr X.K M.C "places") (h : PE X o (tP M E g)) (hb : attributeBase o "places" X.env (eval o X.env) = eval o X.env := by rfl) : PE X (.Attribute o "places" pos) (tP M E (gB1 fPl g)) :=
  PEup (pe_fld h hb) fun σ H Q ⟨F, en, s, r, p⟩ => ⟨F, en, s, r, Post.bd p fun x a F1 H1 e1 r1 p1 => by
    cases r1 <;> first | exact p1.elim | skip
    rename_i hp ra rb rc
    exact ⟨_, M.C, _, _, _, rfl, e1.s.s _ _ hp, cl, n, rfl, p1.pure e1.s ra⟩⟩
theorem d_door {o : Expr} {g : En → Oc D} (cl : Cls X.K M.C) (n : NoAttr X.K M.C "door") (h : PE X o (tP M E g)) (hb : attributeBase o "door" X.env (eval o X.env) = eval o X.env := by rfl) : PE X (.Attribute o "door" pos) (tP M E (gB1 fDr g)) :=
  PEup (pe_fld h hb) fun σ H Q ⟨F, en, s, r, p⟩ => ⟨F, en, s, r, Post.bd p fun x a F1 H1 e1 r1 p1 => by
    cases r1 <;> first | exact p1.elim | skip
    rename_i hp ra rb rc
    exact ⟨_, M.C, _, _, _, rfl, e1.s.s _ _ hp, cl, n, rfl, p1.pure e1.s rb⟩⟩
theorem d_jumps {o : Expr} {g : En → Oc D} (cl : Cls X.K M.C) (n : NoAttr X.K M.C "jumps") (h : PE X o (tP M E g)) (hb : attributeBase o "jumps" X.env (eval o X.env) = eval o X.env := by rfl) : PE X (.Attribute o "jumps" pos) (tP M E (gB1 fJm g)) :=
  PEup (pe_fld h hb) fun σ H Q ⟨F, en, s, r, p⟩ => ⟨F, en, s, r, Post.bd p fun x a F1 H1 e1 r1 p1 => by
    cases r1 <;> first | exact p1.elim | skip
    rename_i hp ra rb rc
    exact ⟨_, M.C, _, _, _, rfl, e1.s.s _ _ hp, cl, n, rfl, p1.pure e1.s rc⟩⟩
/-! ### dicts -/
/-- whether two keys are one; none: not known -/
def keyEq : D → D → Option Bool
  | .int i, .int j => some (i == j)
  | .str s, .str t => s.eq? t
  | .int _, .str _ => some false
  | .str _, .int _ => some false
  | _, _ => none
def lookD (k : D) : List D → List D → Option (Option D)
  | y :: ys, v :: vs => match keyEq y k with
    | some true => some (some v)
    | some false => lookD k ys vs
    | none => none
  | _, _ => some none
def isKey : D → Bool
  | .int _ => true
  | .str _ => true
  | _ => false
theorem keyEq_val (ok : MOk M) {F : Hp} {k l : Key} {a b : D} {r : Bool} (ra : R M F (kV k) a) (rb : R M F (kV l) b) (e : keyEq a b = some r) : decide (k = l) = r := by
  cases k with
  | inl i =>
    cases ra
    cases l with
    | inl j =>
      cases rb
      rw [← Option.some.inj e, key_ll]
    | inr y =>
      have hs : ∃ s, b = .str s := by
        cases rb with
        | str _ => exact ⟨_, rfl⟩
        | atm _ _ => exact ⟨_, rfl⟩
      obtain ⟨s, rfl⟩ := hs
      rw [← Option.some.inj e, key_lr]
  | inr x =>
    obtain ⟨s, rfl⟩ : ∃ s, a = .str s := by
      cases ra with
      | str _ => exact ⟨_, rfl⟩
      | atm _ _ => exact ⟨_, rfl⟩
    cases l with
    | inl j =>
      cases rb
      rw [← Option.some.inj e, key_rl]
    | inr y =>
      obtain ⟨t, rfl⟩ : ∃ s, b = .str s := by
        cases rb with
        | str _ => exact ⟨_, rfl⟩
        | atm _ _ => exact ⟨_, rfl⟩
      obtain ⟨e1, i1, _⟩ := ra.str_inv
      obtain ⟨e2, i2, _⟩ := rb.str_inv
      have f1 : x = s.val M := V.str.inj e1
      have f2 : y = t.val M := V.str.inj e2
      subst f1 f2
      have q := eq?_val ok i1 i2 e
      rw [key_rr, ← q]
      rfl
theorem lookD_val (ok : MOk M) {F : Hp} {k : Key} {a : D} (rk : R M F (kV k) a) : ∀ {kvs : List (Key × V)} {ks vs : List D} {o : Option D}, RA M F (kvs.map fun p => kV p.1) ks → RA M F (kvs.map (·.2)) vs → lookD a ks vs = some o →
    (o = none → valV kvs k = none) ∧ ∀ d, o = some d → ∃ v, valV kvs k = some v ∧ R M F v d
  | [], _, _, o, h, g, e => by
    cases h
    cases e
    exact ⟨fun _ => rfl, fun d z => (by cases z)⟩
  | p :: kvs, _, _, o, h, g, e => by
    cases h with
    | cons h1 h2 =>
      cases g with
      | cons g1 g2 =>
        simp only [lookD] at e
        split at e
        · rename_i z
          cases e
          have q := of_decide_eq_true (keyEq_val ok h1 rk z)
          refine ⟨fun z => (by cases z), fun d z => ?_⟩
          cases z
          exact ⟨p.2, by obtain ⟨p1, p2⟩ := p; have q : p1 = k := q; subst q; exact valV_pos rfl, g1⟩
        · rename_i z
          have q := of_decide_eq_false (keyEq_val ok h1 rk z)
          obtain ⟨q1, q2⟩ := lookD_val ok rk h2 g2 e
          have en : valV (p :: kvs) k = valV kvs k := by
            obtain ⟨p1, p2⟩ := p
            exact valV_neg q
          rw [en]
          exact ⟨q1, q2⟩
        · cases e
theorem look_some {F : Hp} {u : Option V} {o : Option D} (g1 : o = none → u = none) (g2 : ∀ d, o = some d → ∃ v, u = some v ∧ R M F v d) : u.isSome = o.isSome := by
  cases o with
  | none => rw [g1 rfl]; rfl
  | some d' =>
    obtain ⟨v, g3, _⟩ := g2 d' rfl
    rw [g3]
    rfl
theorem R.key {F : Hp} {v : V} {d : D} (r : R M F v d) (h : isKey d = true) : ∃ k : Key, v = kV k ∧ R M F (kV k) d := by
  cases r with
  | int i => exact ⟨.inl i, rfl, .int i⟩
  | str h1 => exact ⟨.inr _, rfl, .str h1⟩
  | atm h1 g1 => exact ⟨.inr _, rfl, .atm h1 g1⟩
  | _ => cases h
def fDGet (d k : D) : Option D := match d with
  | .dic ks vs => if isKey k = true then (lookD k ks vs).bind id else none
  | _ => none
theorem d_dget {a b : Expr} {ga gb : En → Oc D} (ok : MOk M) (hu : X.A.units + 1 < cLine) (ha : PE X a (tP M E ga)) (hb : PE X b (tP M E gb)) (hs : NoSl b := by exact fun _ _ => rfl) : PE X (.Subscript a b pos) (tP M E (b2 fDGet ga gb)) :=
  PEup (pe_dget hu ha hb hs) (b2_up (r := fun x y H2 Q => ∃ a v, x = .ref a ∧ DGet H2 a y (some v) ∧ Q v H2) fun x y H Q h => by
    obtain ⟨F, a, b, d, s, ra, rb, e, q⟩ := rD_two h
    cases ra with
    | dic h1 h2 h3 =>
      simp only [fDGet] at e
      split at e
      · rename_i c
        obtain ⟨k, rfl, rk⟩ := rb.key c
        cases z : lookD b _ _ with
        | none => rw [z] at e; cases e
        | some o =>
          rw [z] at e
          have e : o = some d := e
          subst e
          obtain ⟨v, g1, g2⟩ := (lookD_val ok rk h2 h3 z).2 d rfl
          refine ⟨_, v, rfl, ?_, q _ F H (Ex.refl s) g2⟩
          rw [← g1]
          exact rdget (rd_same s.s h1)
      · cases e
    | _ => cases e)
def fDIn (k d : D) : Option D := match d with
  | .dic ks vs => if isKey k = true then (lookD k ks vs).map fun o => .bl o.isSome else none
  | _ => none
def fDNotIn (k d : D) : Option D := match d with
  | .dic ks vs => if isKey k = true then (lookD k ks vs).map fun o => .bl (!o.isSome) else none
  | _ => none
theorem din_up {E : XK} {ga gb : En → Oc D} (ok : MOk M) (σ : L2.St) (H : Hp) (Q : VK) (h : tP M E (b2 fDIn ga gb) σ H Q) : tDIn (tP M E ga) (tP M E gb) σ H Q := b2_up (r := fun y x H2 Q => ∃ a o, x = .ref a ∧ DGet H2 a y o ∧ Q (.bl o.isSome) H2) (fun y x H Q h => by
  obtain ⟨F, b, a, d, s, rb, ra, e, q⟩ := rD_two h
  cases ra with
  | dic h1 h2 h3 =>
    simp only [fDIn] at e
    split at e
    · rename_i c
      obtain ⟨k, rfl, rk⟩ := rb.key c
      cases z : lookD b _ _ with
      | none => rw [z] at e; cases e
      | some o =>
        rw [z] at e
        cases e
        obtain ⟨g1, g2⟩ := lookD_val ok rk h2 h3 z
        refine ⟨_, _, rfl, rdget (rd_same s.s h1), ?_⟩
        rw [look_some g1 g2]
        exact q _ F H (Ex.refl s) (.bl _)
    · cases e
  | _ => cases e) σ H Q h
theorem dnin_up {E : XK} {ga gb : En → Oc D} (ok : MOk M) (σ : L2.St) (H : Hp) (Q : VK) (h : tP M E (b2 fDNotIn ga gb) σ H Q) : tDNotIn (tP M E ga) (tP M E gb) σ H Q := b2_up (r := fun y x H2 Q => ∃ a o, x = .ref a ∧ DGet H2 a y o ∧ Q (.bl (!o.isSome)) H2) (fun y x H Q h => by
  obtain ⟨F, b, a, d, s, rb, ra, e, q⟩ := rD_two h
  cases ra with
  | dic h1 h2 h3 =>
    simp only [fDNotIn] at e
    split at e
    · rename_i c
      obtain ⟨k, rfl, rk⟩ := rb.key c
      cases z : lookD b _ _ with
      | none => rw [z] at e; cases e
      | some o =>
        rw [z] at e
        cases e
        obtain ⟨g1, g2⟩ := lookD_val ok rk h2 h3 z
        refine ⟨_, _, rfl, rdget (rd_same s.s h1), ?_⟩
        rw [look_some g1 g2]
        exact q _ F H (Ex.refl s) (.bl _)
    · cases e
  | _ => cases e) σ H Q h
theorem d_din {a b : Expr} {ga gb : En → Oc D} (ok : MOk M) (hu : X.A.units + 1 < cLine) (ha : PE X a (tP M E ga)) (hb : PE X b (tP M E gb)) (hm : behindInMarks .In b = false := by rfl) : PE X (.Compare a [.In] [b] pos) (tP M E (b2 fDIn ga gb)) :=
  PEup (pe_cmp (pc_din hu ha hb) hm) (din_up ok)
theorem d_dnin {a b : Expr} {ga gb : En → Oc D} (ok : MOk M) (hu : X.A.units + 1 < cLine) (ha : PE X a (tP M E ga)) (hb : PE X b (tP M E gb)) (hm : behindInMarks .NotIn b = false := by rfl) : PE X (.Compare a [.NotIn] [b] pos) (tP M E (b2 fDNotIn ga gb)) :=
  PEup (pe_cmp (pc_dnotin hu ha hb) hm) (dnin_up ok)
theorem dt_din {a b : Expr} {ga gb : En → Oc D} (ok : MOk M) (hu : X.A.units + 1 < cLine) (ha : PE X a (tP M E ga)) (hb : PE X b (tP M E gb)) (hm : behindInMarks .In b = false := by rfl) : PT X (.Compare a [.In] [b] pos) (tPT M E (gB (b2 fDIn ga gb))) :=
  PTup (pt_cmp (pc_din hu ha hb) hm) fun σ H Q ⟨F, en, s, r, p⟩ => din_up ok σ H _ ⟨F, en, s, r, Post.bd p fun x a F1 H1 e1 r1 p1 => toB_post p1 e1.s r1⟩
theorem dt_dnin {a b : Expr} {ga gb : En → Oc D} (ok : MOk M) (hu : X.A.units + 1 < cLine) (ha : PE X a (tP M E ga)) (hb : PE X b (tP M E gb)) (hm : behindInMarks .NotIn b = false := by rfl) : PT X (.Compare a [.NotIn] [b] pos) (tPT M E (gB (b2 fDNotIn ga gb))) :=
  PTup (pt_cmp (pc_dnotin hu ha hb) hm) fun σ H Q ⟨F, en, s, r, p⟩ => dnin_up ok σ H _ ⟨F, en, s, r, Post.bd p fun x a F1 H1 e1 r1 p1 => toB_post p1 e1.s r1⟩
end
end Pl

set_option maxRecDepth 100000
set_option maxHeartbeats 4000000
namespace Fx
open PySem PySem.Spec PyProof.Rows L2
open PySem.W (Frag)
/-- min(t), t a tuple of ints -/
def rMinT (K : Frag) : List V → Hp → VK → Prop := fun vs H Q => ∃ (a : Addr) (ns : List Int), vs = [V.ref a] ∧ SqT K H a (ns.map V.int) ∧ 0 < ns.length ∧ ∀ m, m ∈ ns → (∀ y ∈ ns, m ≤ y) → Q (.int m) H
theorem cr_minT {X : Cx} (hc : X.calm = true) : CallR X (.builtin "min") (rMinT X.K) := by
  intro pins s σ H vs us Q I r h
  obtain ⟨a, ns, rfl, hs, hne, q⟩ := h
  rw [Vals.ref1 r]
  obtain ⟨its, rv, p, _⟩ := I.tuple hs
  have hl : its.toArray.size = ns.length := by
    rw [List.size_toArray, ← rv.length, List.length_map]
  have hlt : a < s.heap.objs.size := by
    obtain ⟨o, ho, _⟩ := p
    exact Heap.lt_size ho
  have hval : ∀ (i : Nat) (v : Value), its.toArray[i]? = some v → ∃ t, v = Value.int (ns.getD i 0) t := fun i v hv => by
    have hi : i < ns.length := by
      have q := (Array.getElem?_eq_some_iff.mp hv).1
      omega
    obtain ⟨u, hu, t, rfl⟩ := rv.get (i := i) (x := .int (ns[i]'hi)) (by rw [List.getElem?_map, List.getElem?_eq_getElem hi]; rfl)
    rw [List.getElem?_toArray, hu] at hv
    refine ⟨t, ?_⟩
    rw [← Option.some.inj hv, List.getD_eq_getElem?_getD, List.getElem?_eq_getElem hi]
    rfl
  have p' : s.heap.IsTuple a its.toArray := p
  refine call_min_walk (wpAny_pyIter_tuple p' ?_)
  refine ⟨_, _, _, _, _, _, _, rfl, Walks.tuple (A := X.A.in1) (I.ok.hd hc) s.heap.objs.size a (Nat.ne_of_lt hlt) its.toArray, ⟨⟨_, Heap.get?_push_size _ rfl, rfl, rfl⟩, p'.push _⟩, fun b hb => ?_, by omega, CmpOf.ints_lt (fun i => ns.getD i 0) hval, fun v h' tk hP hk => ?_⟩
  · show b < (s.heap.push _).objs.size
    rw [Heap.size_push]
    rcases List.mem_cons.mp hb with e | hb
    · exact e ▸ Nat.lt_succ_self _
    · exact (List.mem_singleton.mp hb) ▸ Nat.lt_succ_of_lt hlt
  · obtain ⟨t, rfl⟩ := hval _ v hP
    obtain ⟨b1, b2⟩ := argBest_lt (fun i => ns.getD i 0) (its.toArray.size - 1)
    refine ⟨.int _, H, I.kept (t' := tk) fun b u e => hk b u (fun hm => ?_) (Heap.get?_push_of_some _ e), ⟨t, rfl⟩, q _ ?_ fun j hj => ?_⟩
    · exact Nat.ne_of_lt (Heap.lt_size e) (List.mem_singleton.mp hm)
    · have hb : argBest (fun i j => decide (ns.getD i 0 < ns.getD j 0)) (its.toArray.size - 1) < ns.length := by omega
      rw [List.getD_eq_getElem?_getD, List.getElem?_eq_getElem hb]
      exact List.getElem_mem hb
    · obtain ⟨i, hi, e⟩ := List.getElem_of_mem hj
      have e2 : ns.getD i 0 = j := by
        rw [List.getD_eq_getElem?_getD, List.getElem?_eq_getElem hi, ← e]
        rfl
      rw [← e2]
      exact b2 i (by omega)
end Fx

set_option maxRecDepth 100000
set_option maxHeartbeats 4000000
namespace Pl
open PySem PySem.Spec PyProof.Rows L2 Fx
open PySem.W (Frag)
/-! ### built-ins by values -/
section
variable {X : Cx} {M : MC} {E : XK} {pos : Pos}
theorem CallRup {f : Value} {r r' : List V → Hp → VK → Prop} (h : CallR X f r) (k : ∀ xs H Q, r' xs H Q → r xs H Q) : CallR X f r' := fun pins s σ H xs us Q I r z => h pins s σ H xs us Q I r (k xs H Q z)
def CallD (X : Cx) (M : MC) (f : Value) (g : List D → Option D) : Prop := CallR X f fun xs H Q => rD M (fun l => .of (g l)) xs H Q
def gC (f : List D → Option D) (gs : En → Oc (List D)) : En → Oc D := fun en => (gs en).bind fun ds => .of (f ds)
theorem gC_up {f : List D → Option D} {gs : En → Oc (List D)} (σ : L2.St) (H : Hp) (Q : VK) (h : tP M E (gC f gs) σ H Q) : tCB (fun xs H Q => rD M (fun l => .of (f l)) xs H Q) (tPA M E gs) σ H Q := by
  obtain ⟨F, en, s, r, p⟩ := h
  exact ⟨F, en, s, r, Post.bd p fun xs as F1 H1 e1 r1 p1 => rD_of p1 e1.s r1⟩
theorem d_call {x : Str} {p : Pos} {e : Expr} {es : List Expr} {id : String} {f : List D → Option D} {gs : En → Oc (List D)} (hc : CallD X M (.builtin id) f) (hg : Gl X x) (hm : X.mg x = none) (hv : bootBuiltins x = some (.builtin id)) (ha : PA X (e :: es) (tPA M E gs))
    (hn : x ≠ "__name__" := by decide) (hd : (x == ("__debug__" : Str)) = false := by decide) (he : starEach (e :: es) X.env = (false, eval e X.env) :: starEach es X.env := by rfl) (hpl : (backTo pos (starEach es X.env)).any (·.1) = false := by rfl) : PE X (.Call (.Name x p) (e :: es) [] pos) (tP M E (gC f gs)) :=
  PEup (pe_callB hc hg hm hv ha (hn := hn) (hdb := hd) (he := he) (hpl := hpl)) gC_up
theorem d_callT {x : Str} {p : Pos} {e : Expr} {es : List Expr} {T : String} {f : List D → Option D} {gs : En → Oc (List D)} (hc : CallD X M (.type T) f) (hg : Gl X x) (hm : X.mg x = none) (hv : bootBuiltins x = some (.type T)) (ha : PA X (e :: es) (tPA M E gs))
    (hn : x ≠ "__name__" := by decide) (hd : (x == ("__debug__" : Str)) = false := by decide) (he : starEach (e :: es) X.env = (false, eval e X.env) :: starEach es X.env := by rfl) (hpl : (backTo pos (starEach es X.env)).any (·.1) = false := by rfl) : PE X (.Call (.Name x p) (e :: es) [] pos) (tP M E (gC f gs)) :=
  PEup (pe_callTy hc hg hm hv ha (hn := hn) (hdb := hd) (he := he) (hpl := hpl)) gC_up
theorem rD_inv {f : List D → Option D} {vs : List V} {H : Hp} {Q : VK} (h : rD M (fun l => .of (f l)) vs H Q) : ∃ F ds d, Sx M.T F H ∧ RA M F vs ds ∧ f ds = some d ∧ ∀ v F' H', Ex M.T F H F' H' → R M F' v d → Q v H' := by
  obtain ⟨F, ds, d, s, r, e, q⟩ := h
  refine ⟨F, ds, d, s, r, ?_, q⟩
  have e : Oc.of (f ds) = .ok d := e
  cases z : f ds with
  | none =>
    rw [z] at e
    cases e
  | some d' =>
    rw [z] at e
    cases e
    rfl
theorem CallD.or {f : Value} {g h : List D → Option D} (a : CallD X M f g) (b : CallD X M f h) : CallD X M f fun l => (g l).or (h l) :=
  CallRup (CallR.or a b) fun xs H Q z => by
    obtain ⟨F, ds, d, s, r, e, q⟩ := rD_inv z
    cases eg : g ds with
    | some d' =>
      rw [eg] at e
      cases e
      exact .inl ⟨F, ds, _, s, r, by show Oc.of (g ds) = _; rw [eg]; rfl, q⟩
    | none =>
      rw [eg] at e
      exact .inr ⟨F, ds, d, s, r, by show Oc.of (h ds) = _; rw [show h ds = some d from e]; rfl, q⟩
/-- len -/
def fLenQ : List D → Option D
  | [a] => (items? a).map fun ds => .int ds.length
  | _ => none
def fLenS : List D → Option D
  | [.str (.lit x)] => if fit x.length = true then some (.int x.length) else none
  | _ => none
def fLenD : List D → Option D
  | [.dic ks _] => some (.int ks.length)
  | _ => none
theorem cd_lenQ (hK : M.K = X.K) : CallD X M (.builtin "len") fLenQ := CallRup call_len_seq fun xs H Q z => by
  obtain ⟨F, ds, d, s, r, e, q⟩ := rD_inv z
  match ds, e with
  | [a], e =>
    cases r with
    | cons ra r =>
      cases r
      simp only [fLenQ, Option.map_eq_some_iff] at e
      obtain ⟨es, e1, rfl⟩ := e
      obtain ⟨p, vs, rfl, hq, rs⟩ := ra.items e1
      rw [← hK]
      refine ⟨p, vs, rfl, Sq2.ext hq s.s, ?_⟩
      rw [rs.len]
      exact q _ F H (Ex.refl s) (.int _)
theorem cd_lenS : CallD X M (.builtin "len") fLenS := CallRup call_len_str fun xs H Q z => by
  obtain ⟨F, ds, d, s, r, e, q⟩ := rD_inv z
  unfold fLenS at e
  split at e
  · split at e
    · rename_i c
      cases e
      cases r with
      | cons ra r =>
        cases r
        cases ra
        exact ⟨_, rfl, of_decide_eq_true c, q _ F H (Ex.refl s) (.int _)⟩
    · cases e
  · cases e
theorem call_lenR : CallR X (.builtin "len") (fun xs H Q => ∃ a kvs, xs = [V.ref a] ∧ Rd H a (.dK kvs) ∧ Q (.int kvs.length) H) := by
  intro pins s σ H xs us Q I r h
  obtain ⟨a, kvs, rfl, ha, q⟩ := h
  obtain ⟨u, rfl, ru⟩ := vals1 r
  cases ru
  exact d_len I ha fun t s' I' => ⟨.int kvs.length, H, I', ⟨t, rfl⟩, q⟩
theorem cd_lenD : CallD X M (.builtin "len") fLenD := CallRup call_lenR fun xs H Q z => by
  obtain ⟨F, ds, d, s, r, e, q⟩ := rD_inv z
  unfold fLenD at e
  split at e
  · cases e
    cases r with
    | cons ra r =>
      cases r
      cases ra with
      | dic h1 h2 h3 =>
        refine ⟨_, _, rfl, rd_same s.s h1, ?_⟩
        have el := h2.len
        rw [List.length_map] at el
        rw [el]
        exact q _ F H (Ex.refl s) (.int _)
  · cases e
def fLen (l : List D) : Option D := (fLenQ l).or ((fLenS l).or (fLenD l))
theorem cd_len (hK : M.K = X.K) : CallD X M (.builtin "len") fLen := (cd_lenQ hK).or (cd_lenS.or cd_lenD)
/-- list, tuple of a list or tuple -/
def fList : List D → Option D
  | [a] => (items? a).map .lst
  | _ => none
def fTuple : List D → Option D
  | [a] => (items? a).map .tup
  | _ => none
theorem cd_list (hK : M.K = X.K) : CallD X M (.type "list") fList := CallRup call_list_of fun xs H Q z => by
  obtain ⟨F, ds, d, s, r, e, q⟩ := rD_inv z
  match ds, e with
  | [a], e =>
    cases r with
    | cons ra r =>
      cases r
      simp only [fList, Option.map_eq_some_iff] at e
      obtain ⟨es, e1, rfl⟩ := e
      obtain ⟨p, vs, rfl, hq, rs⟩ := ra.items e1
      rw [← hK]
      exact ⟨p, vs, rfl, Sq2.ext hq s.s, fun l hl => Post.newL (E := fun _ _ _ => False) (M := M) q s rs hl⟩
theorem cd_tuple (hK : M.K = X.K) : CallD X M (.type "tuple") fTuple := CallRup call_tuple_of fun xs H Q z => by
  obtain ⟨F, ds, d, s, r, e, q⟩ := rD_inv z
  match ds, e with
  | [a], e =>
    cases r with
    | cons ra r =>
      cases r
      simp only [fTuple, Option.map_eq_some_iff] at e
      obtain ⟨es, e1, rfl⟩ := e
      rw [← hK]
      cases ra with
      | lst ha ra =>
        cases e1
        exact ⟨_, _, rfl, .inl ⟨SqL.of (s.s _ _ ha), fun l hl => Post.newT (E := fun _ _ _ => False) (M := M) q s ra hl⟩⟩
      | tup ha ra =>
        cases e1
        exact ⟨_, _, rfl, .inr ⟨SqT.ext ha s.s, q _ F H (Ex.refl s) (.tup ha ra)⟩⟩
      | _ => cases e1
/-- sum, all, any -/
def fSum : List D → Option D
  | [.lst ds] => (ints? ds).map fun ns => .int ns.sum
  | _ => none
theorem cd_sum (hK : M.K = X.K) (hc : X.calm = true) : CallD X M (.builtin "sum") fSum := CallRup (cr_sum hc) fun xs H Q z => by
  obtain ⟨F, ds, d, s, r, e, q⟩ := rD_inv z
  unfold fSum at e
  split at e
  · simp only [Option.map_eq_some_iff] at e
    obtain ⟨ns, e1, rfl⟩ := e
    cases r with
    | cons ra r =>
      cases r
      cases ra with
      | lst ha ra =>
        have g1 := ints_eq e1
        subst g1
        have g2 := ra.ints
        subst g2
        rw [← hK]
        exact ⟨_, ns, rfl, SqL.of (s.s _ _ ha), q _ F H (Ex.refl s) (.int _)⟩
  · cases e
def bools? : List D → Option (List Bool)
  | [] => some []
  | .bl i :: r => (bools? r).map (i :: ·)
  | _ :: _ => none
theorem bools_eq : ∀ {ds : List D} {bs : List Bool}, bools? ds = some bs → ds = bs.map D.bl
  | [], ns, h => by cases h; rfl
  | .bl i :: r, ns, h => by
    simp only [bools?, Option.map_eq_some_iff] at h
    obtain ⟨ms, h1, rfl⟩ := h
    rw [bools_eq h1]
    rfl
  | .non :: r, ns, h => by cases h
  | .int _ :: r, ns, h => by cases h
  | .str _ :: r, ns, h => by cases h
  | .lst _ :: r, ns, h => by cases h
  | .tup _ :: r, ns, h => by cases h
  | .dic _ _ :: r, ns, h => by cases h
  | .code _ _ _ :: r, ns, h => by cases h
  | .adr _ :: r, ns, h => by cases h
  | .exv _ _ :: r, ns, h => by cases h
theorem bools_map (ns : List Bool) : bools? (ns.map D.bl) = some ns := by
  induction ns with
  | nil => rfl
  | cons n ns ih => simp [bools?, ih]
theorem RA.bools {H : Hp} : ∀ {vs : List V} {ns : List Bool}, RA M H vs (ns.map D.bl) → vs = ns.map V.bl
  | vs, [], h => by
    cases h
    rfl
  | vs, n :: ns, h => by
    cases h with
    | cons h t =>
      cases h
      rw [RA.bools t]
      rfl
def fAll : List D → Option D
  | [.lst ds] => (bools? ds).map fun ns => .bl (ns.all id)
  | _ => none
def fAny : List D → Option D
  | [.lst ds] => (bools? ds).map fun ns => .bl (ns.any id)
  | _ => none
theorem cd_all (hK : M.K = X.K) (hc : X.calm = true) : CallD X M (.builtin "all") fAll := CallRup (cr_all hc) fun xs H Q z => by
  obtain ⟨F, ds, d, s, r, e, q⟩ := rD_inv z
  unfold fAll at e
  split at e
  · simp only [Option.map_eq_some_iff] at e
    obtain ⟨ns, e1, rfl⟩ := e
    cases r with
    | cons ra r =>
      cases r
      cases ra with
      | lst ha ra =>
        have g1 := bools_eq e1
        subst g1
        have g2 := ra.bools
        subst g2
        rw [← hK]
        exact ⟨_, ns, rfl, SqL.of (s.s _ _ ha), q _ F H (Ex.refl s) (.bl _)⟩
  · cases e
theorem cd_any (hK : M.K = X.K) (hc : X.calm = true) : CallD X M (.builtin "any") fAny := CallRup (cr_any hc) fun xs H Q z => by
  obtain ⟨F, ds, d, s, r, e, q⟩ := rD_inv z
  unfold fAny at e
  split at e
  · simp only [Option.map_eq_some_iff] at e
    obtain ⟨ns, e1, rfl⟩ := e
    cases r with
    | cons ra r =>
      cases r
      cases ra with
      | lst ha ra =>
        have g1 := bools_eq e1
        subst g1
        have g2 := ra.bools
        subst g2
        rw [← hK]
        exact ⟨_, ns, rfl, SqL.of (s.s _ _ ha), q _ F H (Ex.refl s) (.bl _)⟩
  · cases e
/-- the least, the greatest -/
def minI : List Int → Int
  | [] => 0
  | [a] => a
  | a :: b :: r => min a (minI (b :: r))
def maxI : List Int → Int
  | [] => 0
  | [a] => a
  | a :: b :: r => max a (maxI (b :: r))
theorem minI_spec : ∀ {l : List Int} {m : Int}, m ∈ l → (∀ y ∈ l, m ≤ y) → m = minI l
  | [a], m, h, _ => (List.mem_singleton.mp h : m = a)
  | a :: b :: r, m, h, k => by
    have ih : ∀ m, m ∈ b :: r → (∀ y ∈ b :: r, m ≤ y) → m = minI (b :: r) := fun m => minI_spec
    have ex : minI (b :: r) ∈ b :: r ∧ ∀ y ∈ b :: r, minI (b :: r) ≤ y := by
      clear h k ih
      induction r generalizing b with
      | nil => simp [minI]
      | cons c r ih =>
        obtain ⟨i1, i2⟩ := ih c
        show min b (minI (c :: r)) ∈ _ ∧ ∀ y ∈ _, min b (minI (c :: r)) ≤ y
        refine ⟨?_, fun y hy => ?_⟩
        · rcases Int.le_total b (minI (c :: r)) with q | q
          · rw [Int.min_eq_left q]
            simp
          · rw [Int.min_eq_right q]
            exact List.mem_cons_of_mem _ i1
        · rcases List.mem_cons.mp hy with rfl | hy
          · exact Int.min_le_left _ _
          · exact Int.le_trans (Int.min_le_right _ _) (i2 y hy)
    show m = min a (minI (b :: r))
    have m1 := k a (List.mem_cons_self ..)
    have m2 := k _ (List.mem_cons_of_mem _ ex.1)
    rcases List.mem_cons.mp h with rfl | h
    · omega
    · have := ex.2 m h
      omega
theorem maxI_spec : ∀ {l : List Int} {m : Int}, m ∈ l → (∀ y ∈ l, y ≤ m) → m = maxI l
  | [a], m, h, _ => (List.mem_singleton.mp h : m = a)
  | a :: b :: r, m, h, k => by
    have ex : maxI (b :: r) ∈ b :: r ∧ ∀ y ∈ b :: r, y ≤ maxI (b :: r) := by
      clear h k
      induction r generalizing b with
      | nil => simp [maxI]
      | cons c r ih =>
        obtain ⟨i1, i2⟩ := ih c
        show max b (maxI (c :: r)) ∈ _ ∧ ∀ y ∈ _, y ≤ max b (maxI (c :: r))
        refine ⟨?_, fun y hy => ?_⟩
        · rcases Int.le_total (maxI (c :: r)) b with q | q
          · rw [Int.max_eq_left q]
            simp
          · rw [Int.max_eq_right q]
            exact List.mem_cons_of_mem _ i1
        · rcases List.mem_cons.mp hy with rfl | hy
          · exact Int.le_max_left _ _
          · exact Int.le_trans (i2 y hy) (Int.le_max_right _ _)
    show m = max a (maxI (b :: r))
    have m1 := k a (List.mem_cons_self ..)
    have m2 := k _ (List.mem_cons_of_mem _ ex.1)
    rcases List.mem_cons.mp h with rfl | h
    · omega
    · have := ex.2 m h
      omega
def fMinL : List D → Option D
  | [.lst ds] => (ints? ds).bind fun ns => if ns.isEmpty = true then none else some (.int (minI ns))
  | _ => none
def fMinT : List D → Option D
  | [.tup ds] => (ints? ds).bind fun ns => if ns.isEmpty = true then none else some (.int (minI ns))
  | _ => none
def fMaxL : List D → Option D
  | [.lst ds] => (ints? ds).bind fun ns => if ns.isEmpty = true then none else some (.int (maxI ns))
  | _ => none
def fMin2 : List D → Option D
  | [.int i, .int j] => some (.int (if j < i then j else i))
  | _ => none
def fMax2 : List D → Option D
  | [.int i, .int j] => some (.int (if j > i then j else i))
  | _ => none
theorem cd_minL (hK : M.K = X.K) (hc : X.calm = true) : CallD X M (.builtin "min") fMinL := CallRup (cr_min hc) fun xs H Q z0 => by
  obtain ⟨F, ds, d, s, r, e, q⟩ := rD_inv z0
  unfold fMinL at e
  split at e
  · cases z : ints? _ with
    | none => rw [z] at e; cases e
    | some ns =>
      rw [z] at e
      simp only [Option.bind_some] at e
      split at e
      · cases e
      · rename_i ne
        cases e
        cases r with
        | cons ra r =>
          cases r
          cases ra with
          | lst ha ra =>
            have g1 := ints_eq z
            subst g1
            have g2 := ra.ints
            subst g2
            rw [← hK]
            exact ⟨_, ns, rfl, SqL.of (s.s _ _ ha), by cases ns; exact absurd rfl ne; simp, fun m h1 h2 => by rw [minI_spec h1 h2]; exact q _ F H (Ex.refl s) (.int _)⟩
  · cases e
theorem cd_minT (hK : M.K = X.K) (hc : X.calm = true) : CallD X M (.builtin "min") fMinT := CallRup (cr_minT hc) fun xs H Q z0 => by
  obtain ⟨F, ds, d, s, r, e, q⟩ := rD_inv z0
  unfold fMinT at e
  split at e
  · cases z : ints? _ with
    | none => rw [z] at e; cases e
    | some ns =>
      rw [z] at e
      simp only [Option.bind_some] at e
      split at e
      · cases e
      · rename_i ne
        cases e
        cases r with
        | cons ra r =>
          cases r
          cases ra with
          | tup ha ra =>
            have g1 := ints_eq z
            subst g1
            have g2 := ra.ints
            subst g2
            rw [← hK]
            exact ⟨_, ns, rfl, SqT.ext ha s.s, by cases ns; exact absurd rfl ne; simp, fun m h1 h2 => by rw [minI_spec h1 h2]; exact q _ F H (Ex.refl s) (.int _)⟩
  · cases e
theorem cd_maxL (hK : M.K = X.K) (hc : X.calm = true) : CallD X M (.builtin "max") fMaxL := CallRup (cr_max hc) fun xs H Q z0 => by
  obtain ⟨F, ds, d, s, r, e, q⟩ := rD_inv z0
  unfold fMaxL at e
  split at e
  · cases z : ints? _ with
    | none => rw [z] at e; cases e
    | some ns =>
      rw [z] at e
      simp only [Option.bind_some] at e
      split at e
      · cases e
      · rename_i ne
        cases e
        cases r with
        | cons ra r =>
          cases r
          cases ra with
          | lst ha ra =>
            have g1 := ints_eq z
            subst g1
            have g2 := ra.ints
            subst g2
            rw [← hK]
            exact ⟨_, ns, rfl, SqL.of (s.s _ _ ha), by cases ns; exact absurd rfl ne; simp, fun m h1 h2 => by rw [maxI_spec h1 h2]; exact q _ F H (Ex.refl s) (.int _)⟩
  · cases e
theorem cd_min2 (hc : X.calm = true) : CallD X M (.builtin "min") fMin2 := CallRup (call_min2 hc) fun xs H Q z => by
  obtain ⟨F, ds, d, s, r, e, q⟩ := rD_inv z
  unfold fMin2 at e
  split at e
  · cases e
    cases r with
    | cons ra r =>
      cases r with
      | cons rb r =>
        cases r
        cases ra
        cases rb
        exact ⟨_, _, rfl, q _ F H (Ex.refl s) (.int _)⟩
  · cases e
theorem cd_max2 (hc : X.calm = true) : CallD X M (.builtin "max") fMax2 := CallRup (call_max2 hc) fun xs H Q z => by
  obtain ⟨F, ds, d, s, r, e, q⟩ := rD_inv z
  unfold fMax2 at e
  split at e
  · cases e
    cases r with
    | cons ra r =>
      cases r with
      | cons rb r =>
        cases r
        cases ra
        cases rb
        exact ⟨_, _, rfl, q _ F H (Ex.refl s) (.int _)⟩
  · cases e
def fMin (l : List D) : Option D := (fMinL l).or ((fMinT l).or (fMin2 l))
def fMax (l : List D) : Option D := (fMaxL l).or (fMax2 l)
theorem cd_min (hK : M.K = X.K) (hc : X.calm = true) : CallD X M (.builtin "min") fMin := (cd_minL hK hc).or ((cd_minT hK hc).or (cd_min2 hc))
theorem cd_max (hK : M.K = X.K) (hc : X.calm = true) : CallD X M (.builtin "max") fMax := (cd_maxL hK hc).or (cd_max2 hc)
/-! ### isinstance -/
def tyD : D → String
  | .non => "NoneType"
  | .bl _ => "bool"
  | .int _ => "int"
  | .str _ => "str"
  | .lst _ => "list"
  | .tup _ => "tuple"
  | .dic _ _ => "dict"
  | .code _ _ _ => "object"
  | .adr _ => "object"
  | .exv _ _ => "object"
def notCode : D → Bool
  | .code _ _ _ => false
  | .adr _ => false
  | .exv _ _ => false
  | _ => true
theorem R.ty {F : Hp} {v : V} {d : D} (r : R M F v d) (h : notCode d = true) : TyX M.K F v (.type (tyD d)) := by
  cases r with
  | non => exact .base .non
  | bl b => exact .base (.bl b)
  | int i => exact .base (.int i)
  | str _ => exact .base (.str _)
  | atm _ _ => exact .base (.str _)
  | lst g _ => exact .base (.lst g)
  | tup g _ =>
    rcases g with (g | ⟨o, g⟩) | ⟨o, its, n, h1, h2, _⟩
    · exact .base (.tup g)
    · exact .fTuple g
    · exact .kTuple h1 h2
  | dic g _ _ =>
    rcases g with g | ⟨o, g⟩
    · exact .base (.dK g)
    · exact .fDict g
  | code _ _ _ _ => cases h
  | adr _ => cases h
  | exv _ _ _ => cases h
def fIsi (T : String) (d : D) : Option D := if notCode d = true then (kitB (tyD d) T).map .bl else none
def g1 (f : D → Option D) (g : En → Oc D) : En → Oc D := fun en => (g en).bind fun a => .of (f a)
theorem d_isi {x T : Str} {p q : Pos} {e : Expr} {Ty : String} {g : En → Oc D} (hK : M.K = X.K) (hg : Gl X "isinstance") (hm : X.mg "isinstance" = none) (hgT : Gl X T) (hmT : X.mg T = none) (hvT : bootBuiltins T = some (.type Ty)) (he : PE X e (tP M E g)) (hn : T ≠ "__name__" := by decide) (hd : (T == ("__debug__" : Str)) = false := by decide)
    (hst : starEach [e, .Name T q] X.env = (false, eval e X.env) :: starEach [.Name T q] X.env := by rfl) :
    PE X (.Call (.Name "isinstance" p) [e, .Name T q] [] pos) (tP M E (g1 (fIsi Ty) g)) :=
  PEup (pe_callB call_isi hg hm (by decide +kernel) (pa_cons he (pa_cons (pe_bltn (v := .ty Ty) hgT hmT hvT rfl hn hd) pa_nil) hst) (he := hst)) fun σ H Q ⟨F, en, s, r, p⟩ => ⟨F, en, s, r, Post.bd p fun x a F1 H1 e1 r1 p1 => by
    unfold fIsi at p1
    split at p1
    · rename_i c
      cases z : kitB (tyD a) Ty with
      | none =>
        rw [z] at p1
        exact p1.elim
      | some b =>
        rw [z] at p1
        refine ⟨x, .ty Ty, _, _, b, rfl, .ty Ty, ?_, kit_ty z, p1.pure e1.s (.bl b)⟩
        rw [← hK]
        exact (r1.ext e1.s.s).ty c
    · exact p1.elim⟩
def fIsi2 (T U : String) (d : D) : Option D := if notCode d = true then (kitB (tyD d) T).bind fun a => (kitB (tyD d) U).map fun b => .bl (a || b) else none
theorem d_isi2 {T U : Str} {p q q2 q3 : Pos} {k : Nat} {e : Expr} {Ty Uy : String} {g : En → Oc D} (hK : M.K = X.K) (hg : Gl X "isinstance") (hm : X.mg "isinstance" = none) (hgT : Gl X T) (hmT : X.mg T = none) (hvT : bootBuiltins T = some (.type Ty)) (hgU : Gl X U) (hmU : X.mg U = none) (hvU : bootBuiltins U = some (.type Uy)) (he : PE X e (tP M E g))
    (hn : T ≠ "__name__" := by decide) (hd : (T == ("__debug__" : Str)) = false := by decide) (hnU : U ≠ "__name__" := by decide) (hdU : (U == ("__debug__" : Str)) = false := by decide)
    (hst : starEach [e, .Tuple [.Name T q, .Name U q2] k q3] X.env = (false, eval e X.env) :: starEach [.Tuple [.Name T q, .Name U q2] k q3] X.env := by rfl) :
    PE X (.Call (.Name "isinstance" p) [e, .Tuple [.Name T q, .Name U q2] k q3] [] pos) (tP M E (g1 (fIsi2 Ty Uy) g)) :=
  PEup (pe_callB call_isiT hg hm (by decide +kernel) (pa_cons he (pa_cons (pe_tup (pa_cons (pe_bltn (v := .ty Ty) hgT hmT hvT rfl hn hd) (pa_cons (pe_bltn (v := .ty Uy) hgU hmU hvU rfl hnU hdU) pa_nil))) pa_nil) hst) (he := hst)) fun σ H Q ⟨F, en, s, r, p⟩ => ⟨F, en, s, r, Post.bd p fun x a F1 H1 e1 r1 p1 => by
    unfold fIsi2 at p1
    split at p1
    · rename_i c
      cases z : kitB (tyD a) Ty with
      | none =>
        rw [z] at p1
        exact p1.elim
      | some b =>
        cases z2 : kitB (tyD a) Uy with
        | none =>
          rw [z, z2] at p1
          exact p1.elim
        | some b2 =>
          rw [z, z2] at p1
          refine ⟨by show 2 ≤ sizeLine; decide, fun tp htp => ⟨x, tp, _, .type (tyD a), _, b || b2, rfl, upd_same, .cons (.ty _) (.cons (.ty _) .nil), ?_, ?_, ?_⟩⟩
          · rw [← hK]
            exact ((r1.ext e1.s.s).ext (sNew (Same.refl H1) htp)).ty c
          · refine kitAny_cons (kit_ty z) (fun y => ?_) fun y => by rw [y]; rfl
            rw [y, Bool.false_or]
            refine kitAny_cons (kit_ty z2) (fun y => ?_) fun y => y
            rw [y]
            rfl
          · exact p1 _ F1 _ (Ex.junk e1.s (sNew (Same.refl H1) htp)) (.bl _)
    · exact p1.elim⟩
end
end Pl

set_option maxRecDepth 100000
set_option maxHeartbeats 4000000
namespace Pl
open PySem PySem.Spec PyProof.Rows L2 Fx
open PySem.W (Frag)
/-! ### what is walked -/
def YD (M : MC) (F' : Hp) (ds : List D) : Nat → Hp → V → Hp → Prop := fun i H x H' => ∀ Fi, Same F' Fi → Sx M.T Fi H → ∃ F2 d, Ex M.T Fi H F2 H' ∧ ds[i]? = some d ∧ R M F2 x d
def WD (M : MC) (F' : Hp) (J : It) (ds : List D) : Prop := ∃ G : Hp → Prop, (∀ H2, Same F' H2 → G H2) ∧ Walk J ds.length G (YD M F' ds)
def tPI (M : MC) (E : XK) (g : En → Oc (List D)) : TI := fun σ H R => ∃ F en, Sx M.T F H ∧ REn M F σ en ∧ Post M E (fun F' J ds => WD M F' J ds) F H R (g en)
section
variable {X : Cx} {M : MC} {E : XK} {pos : Pos}
theorem PIup {tg e : Expr} {t t' : TI} (h : PI X tg e t) (k : ∀ σ H Q, t' σ H Q → t σ H Q) : PI X tg e t' := ⟨fun pins s σ H R I z => h.run pins s σ H R I (k σ H R z)⟩
def gSeq (g : En → Oc D) : En → Oc (List D) := fun en => (g en).bind fun a => .of (items? a)
theorem wd_at {F : Hp} {J : It} {vs : List V} {ds : List D} {a : Addr} {b : Bool} (hq : SqE M.K F a vs b) (r : RA M F vs ds) (w : Walk J vs.length (fun H2 => SqE M.K H2 a vs b) (YAt vs)) : WD M F J ds := by
  rw [r.len] at w
  refine ⟨fun H2 => SqE M.K H2 a vs b, fun H2 s => hq.ext s, w.mono (fun _ h => h) fun i H x H' hi _ y Fi s1 s2 => ?_⟩
  obtain ⟨rfl, e⟩ := y
  obtain ⟨d, e1, e2⟩ := r.atV e
  exact ⟨Fi, d, Ex.refl s2, e1, e2.ext s1⟩
theorem di_seq {tg l : Expr} {g : En → Oc D} (hK : M.K = X.K) (hl : PE X l (tP M E g)) : PI X tg l (tPI M E (gSeq g)) :=
  PIup (pi_sqG hl) fun σ H Q ⟨F, en, s, r, p⟩ => ⟨F, en, s, r, Post.bd p fun x a F1 H1 e1 r1 p1 => by
    cases z : items? a with
    | none =>
      rw [z] at p1
      exact p1.elim
    | some ds =>
      rw [z] at p1
      obtain ⟨q, vs, b, rfl, hq, rs⟩ := r1.itemsB z
      refine ⟨q, vs, b, rfl, ?_, fun J w => p1 J F1 H1 (Ex.refl e1.s) (wd_at hq rs ?_)⟩
      · rw [← hK]
        exact hq.ext e1.s.s
      · rw [hK]
        exact w⟩
/-- pairs that are made while one walks -/
theorem wd_pair {F : Hp} {J : It} {n : Nat} {G : Hp → Prop} {f g : Nat → Option V} {ds : List D} (hG : ∀ H2, Same F H2 → G H2) (hn : n = ds.length) (w : Walk J n G (YPair f g)) (h : ∀ i x y, i < n → f i = some x → g i = some y → ∃ a b, ds[i]? = some (.tup [a, b]) ∧ R M F x a ∧ R M F y b) : WD M F J ds := by
  subst hn
  refine ⟨G, hG, w.mono (fun _ h => h) fun i H x H' hi _ y Fi s1 s2 => ?_⟩
  obtain ⟨T, u, v, rfl, hT, rfl, h1, h2⟩ := y
  obtain ⟨a, b, e, ra, rb⟩ := h i u v hi h1 h2
  have ex : Ex M.T Fi H (upd Fi T (.tup [u, v])) (upd H T (.tup [u, v])) := Ex.new s2 hT
  exact ⟨_, _, ex, e, .tup (SqT.of upd_same) (.two ((ra.ext s1).ext ex.f) ((rb.ext s1).ext ex.f))⟩
def enumD : Nat → List D → List D
  | _, [] => []
  | k, d :: ds => .tup [.int (k : Nat), d] :: enumD (k + 1) ds
theorem enumD_len : ∀ (ds : List D) (k : Nat), (enumD k ds).length = ds.length
  | [], _ => rfl
  | _ :: ds, k => congrArg (· + 1) (enumD_len ds (k + 1))
theorem enumD_at : ∀ (ds : List D) (k i : Nat), (enumD k ds)[i]? = (ds[i]?).map fun d => .tup [.int ((k + i : Nat) : Int), d]
  | [], k, i => by simp [enumD]
  | d :: ds, k, 0 => by simp [enumD]
  | d :: ds, k, i + 1 => by
    simp only [enumD, List.getElem?_cons_succ]
    rw [enumD_at ds (k + 1) i]
    congr 2
    funext x
    rw [show k + 1 + i = k + (i + 1) by omega]
def gEnum (gs : En → Oc (List D)) : En → Oc (List D) := fun en => (gs en).bind fun l => match l with
  | [a] => .of ((items? a).map (enumD 0))
  | _ => .bad
theorem di_enum {e : Expr} {gs : En → Oc (List D)} {p tpos : Pos} {elts : List Expr} {kk : Nat} (hK : M.K = X.K) (hg : Gl X "enumerate") (hm : X.mg "enumerate" = none) (ha : PA X [e] (tPA M E gs)) (hs : starEach [e] X.env = [(false, eval e X.env)] := by rfl) :
    PI X (.Tuple elts kk tpos) (.Call (.Name "enumerate" p) [e] [] pos) (tPI M E (gEnum gs)) :=
  PIup (pi_enumSqG hg hm ha hs) fun σ H Q ⟨F, en, s, r, p⟩ => ⟨F, en, s, r, Post.bd p fun x l F1 H1 e1 r1 p1 => by
    match l, p1, r1 with
    | [a], p1, .cons r1 .nil =>
      replace p1 : Post M E (fun F' J ds => WD M F' J ds) F1 H1 Q (.of ((items? a).map (enumD 0))) := p1
      cases z : items? a with
      | none =>
        rw [z] at p1
        exact p1.elim
      | some ds =>
        rw [z] at p1
        obtain ⟨q, vs, b, rfl, hq, rs⟩ := r1.itemsB z
        refine ⟨q, vs, b, rfl, ?_, fun J w => p1 J F1 H1 (Ex.refl e1.s) (wd_pair (G := fun H2 => SqE X.K H2 q vs b) (fun H2 s2 => ?_) (by rw [enumD_len, rs.len]) w fun i x y hi h1 h2 => ?_)⟩
        · rw [← hK]
          exact hq.ext e1.s.s
        · rw [← hK]
          exact hq.ext s2
        · cases h1
          obtain ⟨d, g1, g2⟩ := rs.atV h2
          refine ⟨.int (i : Nat), d, ?_, .int _, g2⟩
          rw [enumD_at, g1]
          simp⟩
def rangeD (lo : Int) : Nat → List D
  | 0 => []
  | n + 1 => .int lo :: rangeD (lo + 1) n
theorem rangeD_len : ∀ (n : Nat) (lo : Int), (rangeD lo n).length = n
  | 0, _ => rfl
  | n + 1, lo => congrArg (· + 1) (rangeD_len n (lo + 1))
theorem rangeD_at : ∀ (n : Nat) (lo : Int) (i : Nat), i < n → (rangeD lo n)[i]? = some (.int (lo + (i : Nat)))
  | 0, _, _, h => absurd h (Nat.not_lt_zero _)
  | n + 1, lo, 0, _ => by simp [rangeD]
  | n + 1, lo, i + 1, h => by
    simp only [rangeD, List.getElem?_cons_succ]
    rw [rangeD_at n (lo + 1) i (by omega)]
    congr 2
    omega
theorem wd_range {F : Hp} {lo : Int} {n : Nat} : WD M F (Itr lo n) (rangeD lo n) := by
  refine ⟨fun _ => True, fun _ _ => trivial, ?_⟩
  rw [rangeD_len]
  refine walk_range.mono (fun _ _ => trivial) fun i H x H' hi _ y Fi s1 s2 => ?_
  obtain ⟨rfl, rfl⟩ := y
  exact ⟨Fi, _, Ex.refl s2, rangeD_at n lo i hi, .int _⟩
def rOk (j : Int) : Bool := decide (-(2 ^ 62) ≤ j) && decide (j < 2 ^ 62)
def gRange1 (gs : En → Oc (List D)) : En → Oc (List D) := fun en => (gs en).bind fun l => match l with
  | [.int j] => if rOk j = true then .ok (rangeD 0 j.toNat) else .bad
  | _ => .bad
def gRange2 (gs : En → Oc (List D)) : En → Oc (List D) := fun en => (gs en).bind fun l => match l with
  | [.int i, .int j] => if rOk i = true ∧ rOk j = true then .ok (rangeD i (j - i).toNat) else .bad
  | _ => .bad
theorem di_range1 {tg a : Expr} {gs : En → Oc (List D)} {p : Pos} (hg : Gl X "range") (hm : X.mg "range" = none) (ha : PA X [a] (tPA M E gs)) (hs : starEach [a] X.env = [(false, eval a X.env)] := by rfl) : PI X tg (.Call (.Name "range" p) [a] [] pos) (tPI M E (gRange1 gs)) :=
  PIup (pi_range1 hg hm ha hs) fun σ H Q ⟨F, en, s, r, p⟩ => ⟨F, en, s, r, Post.bd p fun x l F1 H1 e1 r1 p1 => by
    split at p1
    · split at p1
      · rename_i c
        obtain ⟨c1, c2⟩ := Bool.and_eq_true_iff.mp c
        cases r1 with
        | cons ra r1 =>
          cases r1
          cases ra
          exact ⟨_, rfl, of_decide_eq_true c1, of_decide_eq_true c2, p1 _ F1 H1 (Ex.refl e1.s) wd_range⟩
      · exact p1.elim
    · exact p1.elim⟩
theorem di_range2 {tg a b : Expr} {gs : En → Oc (List D)} {p : Pos} (hg : Gl X "range") (hm : X.mg "range" = none) (ha : PA X [a, b] (tPA M E gs)) (hs : starEach [a, b] X.env = [(false, eval a X.env), (false, eval b X.env)] := by rfl) (hs2 : starEach [b] X.env = [(false, eval b X.env)] := by rfl) : PI X tg (.Call (.Name "range" p) [a, b] [] pos) (tPI M E (gRange2 gs)) :=
  PIup (pi_range2 hg hm ha hs hs2) fun σ H Q ⟨F, en, s, r, p⟩ => ⟨F, en, s, r, Post.bd p fun x l F1 H1 e1 r1 p1 => by
    split at p1
    · split at p1
      · rename_i c
        obtain ⟨c1, c2⟩ := Bool.and_eq_true_iff.mp c.1
        obtain ⟨c3, c4⟩ := Bool.and_eq_true_iff.mp c.2
        cases r1 with
        | cons ra r1 =>
          cases r1 with
          | cons rb r1 =>
            cases r1
            cases ra
            cases rb
            exact ⟨_, _, rfl, ⟨of_decide_eq_true c1, of_decide_eq_true c2, of_decide_eq_true c3, of_decide_eq_true c4⟩, p1 _ F1 H1 (Ex.refl e1.s) wd_range⟩
      · exact p1.elim
    · exact p1.elim⟩
def zipD : List D → List D → List D
  | a :: as, b :: bs => .tup [a, b] :: zipD as bs
  | _, _ => []
theorem zipD_len : ∀ as bs : List D, (zipD as bs).length = min as.length bs.length
  | [], bs => by simp [zipD]
  | a :: as, [] => by simp [zipD]
  | a :: as, b :: bs => by
    simp only [zipD, List.length_cons]
    rw [zipD_len as bs]
    omega
theorem zipD_at : ∀ (as bs : List D) (i : Nat) {a b : D}, as[i]? = some a → bs[i]? = some b → (zipD as bs)[i]? = some (.tup [a, b])
  | [], bs, i, a, b, h, _ => by simp at h
  | x :: as, [], i, a, b, _, h => by simp at h
  | x :: as, y :: bs, 0, a, b, h1, h2 => by
    simp at h1 h2
    subst h1 h2
    simp [zipD]
  | x :: as, y :: bs, i + 1, a, b, h1, h2 => by
    simp only [zipD, List.getElem?_cons_succ] at h1 h2 ⊢
    exact zipD_at as bs i h1 h2
def gZip (gs : En → Oc (List D)) : En → Oc (List D) := fun en => (gs en).bind fun l => match l with
  | [.lst a, .lst b] => .ok (zipD a b)
  | [.tup a, .tup b] => .ok (zipD a b)
  | _ => .bad
theorem di_zip {e e2 : Expr} {gs : En → Oc (List D)} {p tpos : Pos} {elts : List Expr} {kk : Nat} (hK : M.K = X.K) (hg : Gl X "zip") (hm : X.mg "zip" = none) (ha : PA X [e, e2] (tPA M E gs))
    (hs : starEach [e, e2] X.env = (false, eval e X.env) :: starEach [e2] X.env := by rfl) (hpl : (backTo pos (starEach [e2] X.env)).any (·.1) = false := by rfl) :
    PI X (.Tuple elts kk tpos) (.Call (.Name "zip" p) [e, e2] [] pos) (tPI M E (gZip gs)) :=
  PIup (RZ.pi_zipA hg hm ha hs hpl) fun σ H Q ⟨F, en, s, r, p⟩ => ⟨F, en, s, r, Post.bd p fun x l F1 H1 e1 r1 p1 => by
    split at p1
    · cases r1 with
      | cons ra r1 =>
        cases r1 with
        | cons rb r1 =>
          cases r1
          cases ra with
          | lst ha ra =>
            cases rb with
            | lst hb rb =>
              rw [← hK]
              refine ⟨_, _, _, _, rfl, .inl ⟨SqL.of (e1.s.s _ _ ha), SqL.of (e1.s.s _ _ hb), p1 _ F1 H1 (Ex.refl e1.s) (wd_pair (fun H2 s2 => ⟨SqL.of (s2 _ _ ha), SqL.of (s2 _ _ hb)⟩) ?_ (walk_zip rfl) fun i x y hi h1 h2 => ?_)⟩⟩
              · rw [zipD_len, ra.len, rb.len]
              · obtain ⟨a, g1, g2⟩ := ra.atV h1
                obtain ⟨b, g3, g4⟩ := rb.atV h2
                exact ⟨a, b, zipD_at _ _ _ g1 g3, g2, g4⟩
    · cases r1 with
      | cons ra r1 =>
        cases r1 with
        | cons rb r1 =>
          cases r1
          cases ra with
          | tup ha ra =>
            cases rb with
            | tup hb rb =>
              rw [← hK]
              refine ⟨_, _, _, _, rfl, .inr ⟨SqT.ext ha e1.s.s, SqT.ext hb e1.s.s, p1 _ F1 H1 (Ex.refl e1.s) (wd_pair (fun H2 s2 => ⟨SqT.ext ha s2, SqT.ext hb s2⟩) ?_ (walk_zipT rfl) fun i x y hi h1 h2 => ?_)⟩⟩
              · rw [zipD_len, ra.len, rb.len]
              · obtain ⟨a, g1, g2⟩ := ra.atV h1
                obtain ⟨b, g3, g4⟩ := rb.atV h2
                exact ⟨a, b, zipD_at _ _ _ g1 g3, g2, g4⟩
    · exact p1.elim⟩
/-! ### targets -/
def tPG (M : MC) (b : En → D → Option En) (sl : List Nat) : TG := fun x σ H Q => ∃ F en d en', Sx M.T F H ∧ REn M F σ en ∧ R M F x d ∧ b en d = some en' ∧ ∀ σ', σ'.length = σ.length → REn M F σ' en' → (∀ j, j ∉ sl → σ'[j]? = σ[j]?) → Q σ' H
def tPGs (M : MC) (b : En → List D → Option En) (sl : List Nat) : TGs := fun xs σ H Q => ∃ F en d en', Sx M.T F H ∧ REn M F σ en ∧ RA M F xs d ∧ b en d = some en' ∧ ∀ σ', σ'.length = σ.length → REn M F σ' en' → (∀ j, j ∉ sl → σ'[j]? = σ[j]?) → Q σ' H
theorem PGup {tg : Expr} {t t' : TG} (h : PG X tg t) (k : ∀ v σ H Q, t' v σ H Q → t v σ H Q) : PG X tg t' := ⟨fun pins s σ H v u Q I r z => h.run pins s σ H v u Q I r (k v σ H Q z)⟩
theorem PGsup {tg : List Expr} {t t' : TGs} (h : PGs X tg t) (k : ∀ v σ H Q, t' v σ H Q → t v σ H Q) : PGs X tg t' := ⟨fun pins s σ H v u Q I r z => h.run pins s σ H v u Q I r (k v σ H Q z)⟩
def bN (i : Nat) : En → D → Option En := fun en d => if i < en.length then some (en.set i (some d)) else none
theorem REn.set {F : Hp} {σ : L2.St} {en : En} {x : V} {d : D} {i : Nat} (r : REn M F σ en) (rx : R M F x d) (hi : i < en.length) : REn M F (σ.set i (some x)) (en.set i (some d)) := by
  refine ⟨by rw [List.length_set, List.length_set]; exact r.le, fun j e h => ?_⟩
  by_cases c : i = j
  · subst c
    rw [List.getElem?_set_self hi] at h
    cases h
    exact ⟨x, List.getElem?_set_self (Nat.lt_of_lt_of_le hi r.le), rx⟩
  · rw [List.getElem?_set_ne c] at h ⊢
    exact r.at_ j e h
theorem dg_name {i : Nat} {x : Str} (hN : X.N.Nodup) (hi : X.N[i]? = some x) (hx : Loc X.env.scope x) (hf : X.fn x = true ∨ X.env.scope.names.lookup x = some .local := by first | exact .inl rfl | exact .inr rfl | assumption) : PG X (.Name x pos) (tPG M (bN i) [i]) :=
  PGup (pg_name hN hi hx hf) fun v σ H Q ⟨F, en, d, en', s, r, rx, e, k⟩ => by
    unfold bN at e
    split at e
    · rename_i c
      cases e
      exact k _ (List.length_set ..) (r.set rx c) fun j hj => List.getElem?_set_ne fun z => hj (by rw [z]; exact List.mem_singleton.mpr rfl)
    · cases e
def bsNil : En → List D → Option En := fun en ds => if ds.isEmpty = true then some en else none
def bsCons (b : En → D → Option En) (bs : En → List D → Option En) : En → List D → Option En := fun en ds => match ds with
  | d :: r => (b en d).bind fun en1 => bs en1 r
  | [] => none
theorem dgs_nil : PGs X [] (tPGs M bsNil []) := PGsup pgs_nil fun v σ H Q ⟨F, en, d, en', s, r, rx, e, k⟩ => by
  unfold bsNil at e
  split at e
  · rename_i c
    cases e
    cases d with
    | nil =>
      cases rx
      exact ⟨rfl, k σ rfl r fun _ _ => rfl⟩
    | cons => cases c
  · cases e
theorem dgs_cons {e : Expr} {es : List Expr} {b : En → D → Option En} {bs : En → List D → Option En} {sl sls : List Nat} (h1 : PG X e (tPG M b sl)) (h2 : PGs X es (tPGs M bs sls))
    (hs : (assignEach (e :: es) X.env).map (·.2) = assign e X.env :: (assignEach es X.env).map (·.2) := by rfl) : PGs X (e :: es) (tPGs M (bsCons b bs) (sl ++ sls)) :=
  PGsup (pgs_cons h1 h2 hs) fun v σ H Q ⟨F, en, ds, en', s, r, rx, e, k⟩ => by
    cases ds with
    | nil => cases e
    | cons d ds =>
      cases rx with
      | cons r1 rx =>
        simp only [bsCons] at e
        cases z : b en d with
        | none => rw [z] at e; cases e
        | some en1 =>
          rw [z] at e
          refine ⟨_, _, rfl, F, en, d, en1, s, r, r1, z, fun σ1 l1 q1 o1 => ⟨F, en1, ds, en', s, q1, rx, e, fun σ2 l2 q2 o2 => k σ2 (l2.trans l1) q2 fun j hj => ?_⟩⟩
          rw [o2 j fun z => hj (List.mem_append_right _ z), o1 j fun z => hj (List.mem_append_left _ z)]
def bT (n : Nat) (bs : En → List D → Option En) : En → D → Option En := fun en d => match d with
  | .tup ds => if ds.length = n then bs en ds else none
  | _ => none
theorem dg_tup {es : List Expr} {k n : Nat} {bs : En → List D → Option En} {sl : List Nat} (hK : M.K = X.K) (hc : X.calm = true) (h : PGs X es (tPGs M bs sl)) (hn : (assignEach es X.env).length = n := by rfl) (hst : (assignEach es X.env).findIdx? (·.1) = none := by rfl) :
    PG X (.Tuple es k pos) (tPG M (bT n bs) sl) := PGup (pg_tup hc h hn hst) fun v σ H Q ⟨F, en, d, en', s, r, rx, e, k⟩ => by
  unfold bT at e
  split at e
  · split at e
    · rename_i c
      cases rx with
      | tup hq rs =>
        refine ⟨_, _, rfl, ?_, by rw [rs.len]; exact c, F, en, _, en', s, r, rs, e, k⟩
        rw [← hK]
        exact SqT.ext hq s.s
    · cases e
  · cases e
end
end Pl

set_option maxRecDepth 100000
set_option maxHeartbeats 4000000
namespace Pl
open PySem PySem.Spec PyProof.Rows L2 Fx
open PySem.W (Frag)
/-! ### a fresh list -/
section
variable {X : Cx} {M : MC} {E : XK} {pos : Pos} {F F1 H H1 : Hp}
def PostO (M : MC) (E : XK) (F H : Hp) (Q : VK) : Oc (List D) → Prop
  | .ok ds => ∀ p xs F' H', Ex M.T F H F' H' → H' p = none → RA M F' xs ds → Q (.ref p) (upd H' p (.lst xs))
  | .exc c a => ∀ x F' H' dx, Ex M.T F H F' H' → R M F' x a → H' dx = none → E (.ref (M.xa c)) (some dx) (upd H' dx (.xd [(M.fl c, x)]))
  | .bad => False
theorem PostO.later {Q : VK} {o : Oc (List D)} (h : PostO M E F H Q o) (x : Ex M.T F H F1 H1) : PostO M E F1 H1 Q o := by
  cases o with
  | ok a => exact fun p y F' H' e n r => h p y F' H' (x.trans e) n r
  | exc c a => exact fun y F' H' dx e r n => h y F' H' dx (x.trans e) r n
  | bad => exact h
theorem PostO.bd {v d : Type} {RR : Hp → v → d → Prop} {Q : VK} {o : Oc d} {k : d → Oc (List D)} {Q1 : v → Hp → Prop} (h : PostO M E F H Q (o.bind k)) (n : ∀ x a F1 H1, Ex M.T F H F1 H1 → RR F1 x a → PostO M E F1 H1 Q (k a) → Q1 x H1) : Post M E RR F H Q1 o := by
  cases o with
  | ok a => exact fun x F1 H1 e r => n x a F1 H1 e r (PostO.later h e)
  | exc c a => exact h
  | bad => exact h
def tPo (M : MC) (E : XK) (g : En → Oc (List D)) : TE := fun σ H Q => ∃ F en, Sx M.T F H ∧ REn M F σ en ∧ PostO M E F H Q (g en)
def asL (g : En → Oc (List D)) : En → Oc D := fun en => (g en).bind fun ds => .ok (.lst ds)
theorem d_ofO {e : Expr} {g : En → Oc (List D)} (h : PE X e (tPo M E g)) : PE X e (tP M E (asL g)) := PEup h fun σ H Q ⟨F, en, s, r, p⟩ => ⟨F, en, s, r, by
  unfold asL at p
  cases z : g en with
  | ok ds =>
    rw [z] at p
    exact fun q xs F' H' e n rs => Post.newL (E := E) (M := M) (ds := ds) (Post.later p e) e.s rs n
  | exc c a =>
    rw [z] at p
    exact p
  | bad =>
    rw [z] at p
    exact p.elim⟩
theorem PostO.new {Q : VK} {ds : List D} {xs : List V} {p : Addr} (h : PostO M E F H Q (.ok ds)) (s : Sx M.T F H) (r : RA M F xs ds) (hp : H p = none) : Q (.ref p) (upd H p (.lst xs)) := h p xs F H (Ex.refl s) hp r
def gDisp (gs : En → Oc (List D)) : En → Oc (List D) := fun en => (gs en).bind fun ds => if fit ds.length = true then .ok ds else .bad
theorem do_lst {es : List Expr} {gs : En → Oc (List D)} (h : PA X es (tPA M E gs)) : PE X (.List es pos) (tPo M E (gDisp gs)) :=
  PEup (pe_lst h) fun σ H Q ⟨F, en, s, r, p⟩ => ⟨F, en, s, r, PostO.bd p fun xs as F1 H1 e1 r1 p1 => by
    by_cases c : fit as.length = true
    · rw [if_pos c] at p1
      exact ⟨by rw [r1.len]; exact of_decide_eq_true c, fun q hq => p1.new e1.s r1 hq⟩
    · rw [if_neg c] at p1
      exact p1.elim⟩
def CallO (X : Cx) (M : MC) (f : Value) (g : List D → Option (List D)) : Prop := CallR X f fun xs H Q => ∃ F ds ds', Sx M.T F H ∧ RA M F xs ds ∧ g ds = some ds' ∧ PostO M (fun _ _ _ => False) F H Q (.ok ds')
def gCo (f : List D → Option (List D)) (gs : En → Oc (List D)) : En → Oc (List D) := fun en => (gs en).bind fun ds => .of (f ds)
theorem gCo_up {f : List D → Option (List D)} {gs : En → Oc (List D)} (σ : L2.St) (H : Hp) (Q : VK) (h : tPo M E (gCo f gs) σ H Q) : tCB (fun xs H Q => ∃ F ds ds', Sx M.T F H ∧ RA M F xs ds ∧ f ds = some ds' ∧ PostO M (fun _ _ _ => False) F H Q (.ok ds')) (tPA M E gs) σ H Q := by
  obtain ⟨F, en, s, r, p⟩ := h
  refine ⟨F, en, s, r, PostO.bd p fun xs as F1 H1 e1 r1 p1 => ?_⟩
  cases z : f as with
  | none =>
    rw [z] at p1
    exact p1.elim
  | some ds =>
    rw [z] at p1
    exact ⟨F1, as, ds, e1.s, r1, z, p1⟩
theorem do_call {x : Str} {p : Pos} {e : Expr} {es : List Expr} {id : String} {f : List D → Option (List D)} {gs : En → Oc (List D)} (hc : CallO X M (.builtin id) f) (hg : Gl X x) (hm : X.mg x = none) (hv : bootBuiltins x = some (.builtin id)) (ha : PA X (e :: es) (tPA M E gs))
    (hn : x ≠ "__name__" := by decide) (hd : (x == ("__debug__" : Str)) = false := by decide) (he : starEach (e :: es) X.env = (false, eval e X.env) :: starEach es X.env := by rfl) (hpl : (backTo pos (starEach es X.env)).any (·.1) = false := by rfl) : PE X (.Call (.Name x p) (e :: es) [] pos) (tPo M E (gCo f gs)) :=
  PEup (pe_callB hc hg hm hv ha (hn := hn) (hdb := hd) (he := he) (hpl := hpl)) gCo_up
theorem do_callT {x : Str} {p : Pos} {e : Expr} {es : List Expr} {T : String} {f : List D → Option (List D)} {gs : En → Oc (List D)} (hc : CallO X M (.type T) f) (hg : Gl X x) (hm : X.mg x = none) (hv : bootBuiltins x = some (.type T)) (ha : PA X (e :: es) (tPA M E gs))
    (hn : x ≠ "__name__" := by decide) (hd : (x == ("__debug__" : Str)) = false := by decide) (he : starEach (e :: es) X.env = (false, eval e X.env) :: starEach es X.env := by rfl) (hpl : (backTo pos (starEach es X.env)).any (·.1) = false := by rfl) : PE X (.Call (.Name x p) (e :: es) [] pos) (tPo M E (gCo f gs)) :=
  PEup (pe_callTy hc hg hm hv ha (hn := hn) (hdb := hd) (he := he) (hpl := hpl)) gCo_up
def oList : List D → Option (List D)
  | [a] => items? a
  | _ => none
theorem co_list (hK : M.K = X.K) : CallO X M (.type "list") oList := CallRup call_list_of fun xs H Q z => by
  obtain ⟨F, ds, d, s, r, e, q⟩ := z
  match ds, e with
  | [a], e =>
    cases r with
    | cons ra r =>
      cases r
      obtain ⟨p, vs, rfl, hq, rs⟩ := ra.items e
      rw [← hK]
      exact ⟨p, vs, rfl, Sq2.ext hq s.s, fun l hl => PostO.new q s rs hl⟩
/-- lists put together, fresh -/
def o2 (f : D → D → Option (List D)) (ga gb : En → Oc D) : En → Oc (List D) := fun en => (ga en).bind fun a => (gb en).bind fun b => .of (f a b)
def oCat : D → D → Option (List D)
  | .lst a, .lst b => if fit (a.length + b.length) = true then some (a ++ b) else none
  | _, _ => none
theorem do_cat {a b : Expr} {ga gb : En → Oc D} (hK : M.K = X.K) (ha : PE X a (tP M E ga)) (hb : PE X b (tP M E gb)) : PE X (.BinOp a .Add b pos) (tPo M E (o2 oCat ga gb)) :=
  PEup (pe_op op_catL ha hb) fun σ H Q ⟨F, en, s, r, p⟩ => ⟨F, en, s, r, PostO.bd p fun x a F1 H1 e1 r1 p1 => ⟨F1, en, e1.s, r.ext e1.f, PostO.bd p1 fun y b F2 H2 e2 r2 p2 => by
    have r1 := r1.ext e2.f
    cases z : oCat a b with
    | none =>
      rw [z] at p2
      exact p2.elim
    | some ds =>
      rw [z] at p2
      cases r1 with
      | lst hx rx =>
        cases r2 with
        | lst hy ry =>
          simp only [oCat] at z
          split at z
          · rename_i c
            cases z
            rw [← hK]
            exact ⟨_, _, _, _, rfl, rfl, SqL.of (e2.s.s _ _ hx), SqL.of (e2.s.s _ _ hy), by rw [rx.len, ry.len]; exact of_decide_eq_true c, fun q hq => PostO.new p2 e2.s (rx.app ry) hq⟩
          · cases z
        | _ => cases z
      | _ => cases z⟩⟩
/-! ### comprehensions -/
def wipeE (en : En) : List Nat → En
  | [] => en
  | v :: vs => (wipeE en vs).set v none
theorem wipeE_len (en : En) : ∀ vs : List Nat, (wipeE en vs).length = en.length
  | [] => rfl
  | v :: vs => by unfold wipeE; rw [List.length_set, wipeE_len en vs]
theorem wipeE_some {en : En} {i : Nat} {d : D} : ∀ {vs : List Nat}, (wipeE en vs)[i]? = some (some d) → en[i]? = some (some d) ∧ i ∉ vs
  | [], h => ⟨h, by simp⟩
  | v :: vs, h => by
    unfold wipeE at h
    by_cases c : v = i
    · subst c
      by_cases l : v < (wipeE en vs).length
      · rw [List.getElem?_set_self l] at h
        cases h
      · rw [List.getElem?_eq_none (by rw [List.length_set]; omega)] at h
        cases h
    · rw [List.getElem?_set_ne c] at h
      obtain ⟨a, b⟩ := wipeE_some h
      exact ⟨a, fun z => (List.mem_cons.mp z).elim (fun z => c z.symm) b⟩
theorem REn.wipe {σ : L2.St} {en : En} (r : REn M F σ en) (vs : List Nat) : REn M F (L2.wipe σ vs) (wipeE en vs) := by
  refine ⟨by rw [wipe_length, wipeE_len]; exact r.le, fun i d h => ?_⟩
  obtain ⟨a, b⟩ := wipeE_some h
  obtain ⟨v, e1, e2⟩ := r.at_ i d a
  exact ⟨v, by rw [wipe_out b]; exact e1, e2⟩
theorem wipe_at {σ : L2.St} {i : Nat} : ∀ {vs : List Nat}, i ∈ vs → i < σ.length → (L2.wipe σ vs)[i]? = some none
  | [], h, _ => by cases h
  | v :: vs, h, l => by
    unfold L2.wipe
    by_cases c : v = i
    · subst c
      exact List.getElem?_set_self (by rw [wipe_length]; exact l)
    · rw [List.getElem?_set_ne c]
      exact wipe_at ((List.mem_cons.mp h).resolve_left fun z => c z.symm) l
theorem wipe_congr {σ σ' : L2.St} {vs : List Nat} (hl : σ'.length = σ.length) (h : ∀ j, j ∉ vs → σ'[j]? = σ[j]?) : L2.wipe σ' vs = L2.wipe σ vs := by
  refine List.ext_getElem? fun i => ?_
  by_cases c : i ∈ vs
  · by_cases l : i < σ.length
    · rw [wipe_at c l, wipe_at c (by omega)]
    · rw [List.getElem?_eq_none (by rw [wipe_length]; omega), List.getElem?_eq_none (by rw [wipe_length]; omega)]
  · rw [wipe_out c, wipe_out c]
    exact h i c
abbrev NoX : XK := fun _ _ _ => False
theorem wipe_wipe {σ : L2.St} {vs : List Nat} : L2.wipe (L2.wipe σ vs) vs = L2.wipe σ vs := wipe_congr (wipe_length σ vs) fun _ h => wipe_out h
/-- what a comprehension makes of its items -/
def lcD (b : En → D → Option En) (gt : En → Oc Bool) (ge : En → Oc D) (en : En) : List D → Option (List D)
  | [] => some []
  | d :: ds => (b en d).bind fun en' => match gt en' with
    | .ok true => (match ge en' with
      | .ok y => (lcD b gt ge en ds).map (y :: ·)
      | _ => none)
    | .ok false => lcD b gt ge en ds
    | _ => none
theorem lcD_snoc {b : En → D → Option En} {gt : En → Oc Bool} {ge : En → Oc D} {en : En} : ∀ (as bs : List D), lcD b gt ge en (as ++ bs) = (lcD b gt ge en as).bind fun l => (lcD b gt ge en bs).map (l ++ ·)
  | [], bs => by
    simp only [lcD, List.nil_append, Option.bind_some]
    cases lcD b gt ge en bs <;> rfl
  | a :: as, bs => by
    simp only [lcD, List.cons_append]
    cases b en a with
    | none => rfl
    | some en' =>
      simp only [Option.bind_some]
      split
      · split
        · rw [lcD_snoc as bs]
          cases lcD b gt ge en as with
          | none => rfl
          | some l => cases lcD b gt ge en bs <;> rfl
        · rfl
      · exact lcD_snoc as bs
      · rfl
theorem lcD_len {b : En → D → Option En} {gt : En → Oc Bool} {ge : En → Oc D} {en : En} : ∀ {as ds : List D}, lcD b gt ge en as = some ds → ds.length ≤ as.length
  | [], ds, h => by cases h; exact Nat.le_refl _
  | a :: as, ds, h => by
    simp only [lcD] at h
    cases z : b en a with
    | none => rw [z] at h; cases h
    | some en' =>
      rw [z] at h
      simp only [Option.bind_some] at h
      split at h
      · split at h
        · cases z2 : lcD b gt ge en as with
          | none => rw [z2] at h; cases h
          | some l =>
            rw [z2] at h
            cases h
            have := lcD_len z2
            simp only [List.length_cons]
            omega
        · cases h
      · have := lcD_len h
        simp only [List.length_cons]
        omega
      · cases h
def gLc (b : En → D → Option En) (gt : En → Oc Bool) (ge : En → Oc D) (vs : List Nat) (gi : En → Oc (List D)) : En → Oc (List D) := fun en => (gi en).bind fun ds => if fit ds.length = true then .of (lcD b gt ge (wipeE en vs) ds) else .bad
def noIf : En → Oc Bool := fun _ => .ok true
theorem dts_nil : PTs X [] (tPT M E noIf) := ⟨fun pins s σ H Q I h => by
  obtain ⟨F, en, s', r, p⟩ := h
  exact pts_nil.run pins s σ H Q I (Post.pureB p s')⟩
theorem dts_one {c : Expr} {g : En → Oc Bool} (h : PT X c (tPT M E g)) : PTs X [c] (tPT M E g) := pts_one h
theorem lc_up {wi : TI} {b : En → D → Option En} {sl vs : List Nat} {gt : En → Oc Bool} {ge : En → Oc D} {gi : En → Oc (List D)} (hsl : ∀ j ∈ sl, j ∈ vs) (σ : L2.St) (H : Hp) (Q : VK) (h : tPo M E (gLc b gt ge vs gi) σ H Q) :
    tLc (tPI M E gi) (tPG M b sl) (tPT M NoX gt) (tP M NoX ge) vs σ H Q := by
  obtain ⟨F, en, s, r, p⟩ := h
  refine ⟨F, en, s, r, PostO.bd p fun J ds F1 H1 e1 w p1 D hD => ?_⟩
  have r1 := r.ext e1.f
  split at p1
  · rename_i c
    have c := of_decide_eq_true c
    cases z : lcD b gt ge (wipeE en vs) ds with
    | none =>
      rw [z] at p1
      exact p1.elim
    | some out =>
      rw [z] at p1
      obtain ⟨G, hG, w⟩ := w
      have fD : F1 D = none := e1.s.free hD
      refine lc_it w (fun i H2 => ∃ Fi Hi acc xs, H2 = upd Hi D (.lst xs) ∧ Ex M.T F1 H1 Fi Hi ∧ Hi D = none ∧ lcD b gt ge (wipeE en vs) (ds.take i) = some acc ∧ RA M Fi xs acc) ⟨F1, H1, [], [], rfl, Ex.refl e1.s, hD, by rw [List.take_zero]; rfl, .nil⟩ (fun i H2 _ ⟨Fi, Hi, acc, xs, e, x, n, _, _⟩ => hG H2 ?_) ?_ ?_
      · subst e
        exact sNew (x.f.trans x.s.s) n
      · rintro i x H2 H3 hi ⟨Fi, Hi, acc, xs, rfl, xe, n, ea, ra⟩ y
        obtain ⟨F3, d, e3, ed, rd⟩ := y Fi xe.f (xe.s.up n)
        have fD3 : F3 D = none := e3.n D (xe.s.free n) (has_lst upd_same)
        have H3D : H3 D = some (.lst xs) := e3.h _ _ upd_same lst_ne
        have split_ : ds = ds.take i ++ d :: ds.drop (i + 1) := by
          have hi' : i < ds.length := hi
          have := List.getElem?_eq_some_iff.mp ed
          obtain ⟨_, q⟩ := this
          rw [← q, ← List.drop_eq_getElem_cons hi', List.take_append_drop]
        have zz := z
        rw [split_, lcD_snoc, ea] at zz
        simp only [Option.bind_some, lcD] at zz
        have rw' : REn M F3 (L2.wipe σ vs) (wipeE en vs) := ((r1.wipe vs).ext xe.f).ext e3.f
        cases zb : b (wipeE en vs) d with
        | none => rw [zb] at zz; cases zz
        | some en' =>
          rw [zb] at zz
          simp only [Option.bind_some] at zz
          have step : lcD b gt ge (wipeE en vs) (ds.take (i + 1)) = (lcD b gt ge (wipeE en vs) [d]).map (acc ++ ·) := by
            rw [List.take_succ, ed, lcD_snoc, ea]
            rfl
          have one : lcD b gt ge (wipeE en vs) [d] = match gt en' with
            | .ok true => (match ge en' with
              | .ok y => some [y]
              | _ => none)
            | .ok false => some []
            | _ => none := by
            simp only [lcD, zb, Option.bind_some]
            split <;> first | rfl | (split <;> rfl)
          -- the heap without the list that grows
          refine ⟨F3, wipeE en vs, d, en', e3.s, rw', rd, zb, fun σ' l' q' o' => ⟨(wipe_congr l' fun j hj => o' j fun z => hj (hsl j z)).trans wipe_wipe, F3, en', e3.s, q', ?_⟩⟩
          have back : ∀ {F4 H4 : Hp}, Ex M.T F3 H3 F4 H4 → ∃ H5, H4 = upd H5 D (.lst xs) ∧ Ex M.T F1 H1 F4 H5 ∧ H5 D = none := fun {F4 H4} e4 => by
            have h4 : H4 D = some (.lst xs) := e4.h _ _ H3D lst_ne
            have f4 : F4 D = none := e4.n D fD3 (has_lst H3D)
            refine ⟨fun a => if a = D then none else H4 a, ?_, ⟨xe.f.trans (e3.f.trans e4.f), fun a o q nt => ?_, ⟨fun a o q => ?_, e4.s.nt, tabs_keep e4.s.tb h4 (.inl ⟨_, rfl⟩) fun b hb => if_neg hb⟩, fun a q1 q2 => ?_⟩, if_pos rfl⟩
            · funext a
              by_cases c : a = D
              · subst c
                rw [upd_same]
                exact h4
              · rw [upd_ne c]
                exact (if_neg c).symm
            · have c : a ≠ D := ne_of_none q hD
              refine (if_neg c).trans (e4.h _ _ (e3.h _ _ ?_ nt) nt)
              rw [upd_ne c]
              exact xe.h _ _ q nt
            · have c : a ≠ D := ne_of_none q f4
              exact (if_neg c).trans (e4.s.s _ _ q)
            · have c : a ≠ D := fun z => by
                obtain ⟨o, q, _⟩ := q2
                rw [z, hD] at q
                cases q
              have q3 : Has (upd Hi D (.lst xs)) a := by
                obtain ⟨o, q, t⟩ := q2.ext xe.h
                exact ⟨o, by rw [upd_ne c]; exact q, t⟩
              exact e4.n a (e3.n a (xe.n a q1 q2) q3) (q3.ext e3.h)
          cases zt : gt en' with
          | bad => rw [zt] at zz; cases zz
          | exc c d' => rw [zt] at zz; cases zz
          | ok t =>
            refine fun t' F4 H4 e4 et => ?_
            subst et
            cases t' with
            | false =>
              rw [if_neg (by decide)]
              obtain ⟨H5, g1, g2, g3⟩ := back e4
              rw [zt] at one
              refine ⟨F4, H5, acc, xs, g1, g2, g3, ?_, (ra.ext e3.f).ext e4.f⟩
              rw [step, one]
              simp
            | true =>
              rw [if_pos rfl]
              refine ⟨F4, en', e4.s, q'.ext e4.f, ?_⟩
              cases ze : ge en' with
              | bad => rw [zt, ze] at zz; cases zz
              | exc c d' => rw [zt, ze] at zz; cases zz
              | ok y =>
                refine fun u F6 H6 e6 ru => ?_
                obtain ⟨H5, g1, g2, g3⟩ := back (e4.trans e6)
                rw [zt, ze] at one
                have h6 : H6 D = some (.lst xs) := by rw [g1, upd_same]
                have la : xs.length ≤ i := by
                  rw [ra.len]
                  have q := lcD_len ea
                  rw [List.length_take] at q
                  omega
                refine ⟨xs, h6, by omega, F6, H5, acc ++ [y], xs ++ [u], ?_, g2, g3, ?_, (((ra.ext e3.f).ext e4.f).ext e6.f).app (.one ru)⟩
                · rw [g1, upd_upd]
                · rw [step, one]
                  rfl
      · rintro H2 ⟨Fi, Hi, acc, xs, rfl, xe, n, ea, ra⟩
        rw [List.take_length, z] at ea
        cases ea
        exact p1 D xs Fi Hi xe n ra
  · exact p1.elim
theorem do_lc {elt tg iter : Expr} {ifs : List Expr} {scope : Scope} {own : List (Str × Nat)} {b : En → D → Option En} {sl : List Nat} {gt : En → Oc Bool} {ge : En → Oc D} {gi : En → Oc (List D)} (hc : X.calm = true) (hN : X.N.Nodup) (hi : PI X tg iter (tPI M E gi)) (ok : BlkOk X.N X.env.scope scope own)
    (hg : ∀ (s : Shared) (H : Hp) (C : Addr) (cl : List (Str × Addr)) (fp : List Addr), PG (X.blk s H scope (compEnvC scope cl C X.env) fp) tg (tPG M b sl)) (ht : ∀ (s : Shared) (H : Hp) (C : Addr) (cl : List (Str × Addr)) (fp : List Addr), PTs (X.blk s H scope (compEnvC scope cl C X.env) fp) ifs (tPT M NoX gt))
    (he : ∀ (s : Shared) (H : Hp) (C : Addr) (cl : List (Str × Addr)) (fp : List Addr), PE (X.blk s H scope (compEnvC scope cl C X.env) fp) elt (tP M NoX ge)) (hsl : ∀ j ∈ sl, j ∈ own.map (·.2)) (hs : ∀ x, foldedSetIterable iter X.env x = pure x := by intro _; rfl) :
    PE X (.ListComp elt [⟨tg, iter, ifs, 0⟩] scope pos) (tPo M E (gLc b gt ge (own.map (·.2)) gi)) := PEup (pe_lc hc hN hi ok hg ht he hs) (lc_up (wi := tPI M E gi) hsl)
end
end Pl

set_option maxRecDepth 100000
set_option maxHeartbeats 4000000
namespace Pl
open PySem PySem.Spec PyProof.Rows L2 Fx
open PySem.W (Frag)
/-! ### statements: slots hold data, or a list or dict of the def's own -/
inductive Sl where
  | im (d : D)
  | ow (ds : List D)
  | od (ks vs : List D)
abbrev SE := List (Option Sl)
def Own (se : SE) (i : Nat) : Prop := (∃ ds, se[i]? = some (some (.ow ds))) ∨ ∃ ks vs, se[i]? = some (some (.od ks vs))
structure RSx (M : MC) (F0 H0 G B : Hp) (se : SE) (σ : L2.St) (H : Hp) : Prop where
  le : se.length ≤ σ.length
  g : Ex M.T F0 H0 G H
  b : ∀ p o, B p = some o → H p = some o ∧ G p = none ∧ ¬ Has H0 p ∧ Ld o
  im : ∀ (i : Nat) (d : D), se[i]? = some (some (.im d)) → ∃ v, σ[i]? = some (some v) ∧ R M G v d
  ow : ∀ (i : Nat) (ds : List D), se[i]? = some (some (.ow ds)) → ∃ p xs, σ[i]? = some (some (.ref p)) ∧ B p = some (.lst xs) ∧ RA M G xs ds
  od : ∀ (i : Nat) (ks vs : List D), se[i]? = some (some (.od ks vs)) → ∃ p kvs, σ[i]? = some (some (.ref p)) ∧ B p = some (.dK kvs) ∧ RA M G (kvs.map fun q => kV q.1) ks ∧ RA M G (kvs.map (·.2)) vs
  ap : ∀ (i j : Nat) (p : Addr), σ[i]? = some (some (.ref p)) → σ[j]? = some (some (.ref p)) → Own se i → Own se j → i = j
def slA : Option Sl → Option D
  | some (.im d) => some d
  | _ => none
def slB : Option Sl → Option D
  | some (.im d) => some d
  | some (.ow ds) => some (.lst ds)
  | some (.od ks vs) => some (.dic ks vs)
  | none => none
def enA (se : SE) : En := se.map slA
def enB (se : SE) : En := se.map slB
def gb (G B : Hp) : Hp := fun a => if (B a).isSome = true then B a else G a
section
variable {M : MC} {F0 H0 G B H H1 F1 : Hp} {se : SE} {σ : L2.St}
theorem gb_b {p : Addr} {o : HO} (h : B p = some o) : gb G B p = some o := by
  unfold gb
  rw [h]
  rfl
theorem gb_g {p : Addr} (h : B p = none) : gb G B p = G p := by
  unfold gb
  rw [h]
  rfl
theorem RSx.sG (r : RSx M F0 H0 G B se σ H) : Same G (gb G B) := fun a o e => by
  cases h : B a with
  | none => rw [gb_g h]; exact e
  | some u =>
    rw [(r.b a u h).2.1] at e
    cases e
theorem RSx.sB (r : RSx M F0 H0 G B se σ H) : Sx M.T (gb G B) H := ⟨fun a o e => by
  cases h : B a with
  | none =>
    rw [gb_g h] at e
    exact r.g.s.s a o e
  | some u =>
    rw [gb_b h] at e
    cases e
    exact (r.b a _ h).1, fun a ps e => by
  cases h : B a with
  | none =>
    rw [gb_g h] at e
    exact r.g.s.nt a ps e
  | some u =>
    rw [gb_b h] at e
    cases e
    exact (r.b a _ h).2.2.2.nt ps rfl, r.g.s.tb⟩
theorem RSx.exB (r : RSx M F0 H0 G B se σ H) : Ex M.T F0 H0 (gb G B) H := ⟨r.g.f.trans r.sG, r.g.h, r.sB, fun a h n => by
  cases q : B a with
  | none => rw [gb_g q]; exact r.g.n a h n
  | some u => exact absurd n (r.b a u q).2.2.1⟩
theorem RSx.enA (r : RSx M F0 H0 G B se σ H) : REn M G σ (enA se) := ⟨by unfold Pl.enA; rw [List.length_map]; exact r.le, fun i d h => by
  unfold Pl.enA at h
  rw [List.getElem?_map, Option.map_eq_some_iff] at h
  obtain ⟨s, h1, h2⟩ := h
  cases s with
  | none => cases h2
  | some s =>
    cases s with
    | im d' =>
      cases h2
      exact r.im i d h1
    | ow => cases h2
    | od => cases h2⟩
theorem RSx.enB (r : RSx M F0 H0 G B se σ H) : REn M (gb G B) σ (enB se) := ⟨by unfold Pl.enB; rw [List.length_map]; exact r.le, fun i d h => by
  unfold Pl.enB at h
  rw [List.getElem?_map, Option.map_eq_some_iff] at h
  obtain ⟨s, h1, h2⟩ := h
  cases s with
  | none => cases h2
  | some s =>
    cases s with
    | im d' =>
      cases h2
      obtain ⟨v, e1, e2⟩ := r.im i d h1
      exact ⟨v, e1, e2.ext r.sG⟩
    | ow ds =>
      cases h2
      obtain ⟨p, xs, e1, e2, e3⟩ := r.ow i ds h1
      exact ⟨.ref p, e1, .lst (gb_b e2) (e3.ext r.sG)⟩
    | od ks vs =>
      cases h2
      obtain ⟨p, kvs, e1, e2, e3, e4⟩ := r.od i ks vs h1
      exact ⟨.ref p, e1, .dic (.inl (gb_b e2)) (e3.ext r.sG) (e4.ext r.sG)⟩⟩
/-- the heap grows, nothing more is told -/
theorem RSx.grow (r : RSx M F0 H0 G B se σ H) (s : LamX.ExtN H H1) (g : Same G H1) (tb : LamX.Tabs M.T H1) : RSx M F0 H0 G B se σ H1 :=
  ⟨r.le, ⟨r.g.f, r.g.h.trans s, ⟨g, r.g.s.nt, tb⟩, r.g.n⟩, fun p o e => let ⟨a, b, c, d⟩ := r.b p o e; ⟨s _ _ a d.nt, b, c, d⟩, r.im, r.ow, r.od, r.ap⟩
theorem RSx.growG (r : RSx M F0 H0 G B se σ H) (x : Ex M.T G H F1 H1) : RSx M F0 H0 G B se σ H1 := r.grow x.h (x.f.trans x.s.s) x.s.tb
theorem RSx.growB (r : RSx M F0 H0 G B se σ H) (x : Ex M.T (gb G B) H F1 H1) : RSx M F0 H0 G B se σ H1 := r.grow x.h ((r.sG.trans x.f).trans x.s.s) x.s.tb
/-- more is told -/
theorem RSx.more (r : RSx M F0 H0 G B se σ H) (x : Ex M.T G H F1 H1) : RSx M F0 H0 F1 B se σ H1 :=
  ⟨r.le, r.g.trans x, fun p o e => let ⟨a, b, c, d⟩ := r.b p o e; ⟨x.h _ _ a d.nt, x.n p b ⟨o, a, d.nt⟩, c, d⟩,
    fun i d h => let ⟨v, a, b⟩ := r.im i d h; ⟨v, a, b.ext x.f⟩, fun i d h => let ⟨p, xs, a, b, c⟩ := r.ow i d h; ⟨p, xs, a, b, c.ext x.f⟩,
    fun i ks vs h => let ⟨p, xs, a, b, c, d⟩ := r.od i ks vs h; ⟨p, xs, a, b, c.ext x.f, d.ext x.f⟩, r.ap⟩
/-- what was told with the own things in sight, without them -/
def less (F B : Hp) : Hp := fun a => if (B a).isSome = true then none else F a
theorem less_b {F : Hp} {p : Addr} {o : HO} (h : B p = some o) : less F B p = none := by
  unfold less
  rw [h]
  rfl
theorem less_g {F : Hp} {p : Addr} (h : B p = none) : less F B p = F p := by
  unfold less
  rw [h]
  rfl
theorem RSx.less (r : RSx M F0 H0 G B se σ H) (x : Ex M.T (gb G B) H F1 H1) : Ex M.T G H (Pl.less F1 B) H1 := by
  refine ⟨fun a o e => ?_, x.h, ⟨fun a o e => ?_, fun a ps e => ?_, x.s.tb⟩, fun a h n => ?_⟩
  · cases q : B a with
    | none => rw [less_g q]; exact x.f _ _ (by rw [gb_g q]; exact e)
    | some u =>
      rw [(r.b a u q).2.1] at e
      cases e
  · cases q : B a with
    | none =>
      rw [less_g q] at e
      exact x.s.s _ _ e
    | some u =>
      rw [less_b q] at e
      cases e
  · cases q : B a with
    | none =>
      rw [less_g q] at e
      exact x.s.nt _ _ e
    | some u =>
      rw [less_b q] at e
      cases e
  · cases q : B a with
    | none => rw [less_g q]; exact x.n a (by rw [gb_g q]; exact h) n
    | some u => exact less_b q
end
mutual
/-- no list, no dict in it -/
def noMut : D → Bool
  | .lst _ => false
  | .dic _ _ => false
  | .tup xs => noMuts xs
  | .code a b c => noMut a && noMut b && noMut c
  | .exv _ d => noMut d
  | _ => true
def noMuts : List D → Bool
  | [] => true
  | x :: xs => noMut x && noMuts xs
end
section
variable {M : MC} {F0 H0 G B H H1 F1 : Hp} {se : SE} {σ : L2.St}
theorem sqT_less {K : Frag} {a : Addr} {xs : List V} (hb : ∀ p o, B p = some o → F1 p = some o ∧ Ld o) (h : SqT K F1 a xs) : SqT K (less F1 B) a xs := by
  rcases h with h | h
  · refine .inl ?_
    have q : B a = none := by
      cases q : B a with
      | none => rfl
      | some u =>
        obtain ⟨h1, h2⟩ := hb a u q
        rcases h with h | ⟨o, h⟩
        · rw [h] at h1
          cases h1
          rcases h2 with ⟨_, z⟩ | ⟨_, z⟩ <;> cases z
        · rw [h] at h1
          cases h1
          rcases h2 with ⟨_, z⟩ | ⟨_, z⟩ <;> cases z
    unfold Rd at h ⊢
    rw [less_g q]
    exact h
  · exact .inr h
mutual
theorem R.less (hb : ∀ p o, B p = some o → F1 p = some o ∧ Ld o) : ∀ {v : V} {d : D}, R M F1 v d → noMut d = true → R M (less F1 B) v d
  | _, _, .non, _ => .non
  | _, _, .bl b, _ => .bl b
  | _, _, .int i, _ => .int i
  | _, _, .str h, _ => .str h
  | _, _, .atm h g, _ => .atm h g
  | _, _, .lst h t, n => by simp [noMut] at n
  | _, _, .tup h t, n => .tup (sqT_less hb h) (RA.less hb t (by simpa [noMut] using n))
  | _, _, .dic h t u, n => by simp [noMut] at n
  | _, _, .adr a, _ => .adr a
  | _, _, .exv (a := p) (dx := dx) h g r, n => by
    refine .exv (dx := dx) ?_ ?_ (R.less hb r (by simpa [noMut] using n))
    · have q : B p = none := by
        cases q : B p with
        | none => rfl
        | some u =>
          obtain ⟨h1, h2⟩ := hb p u q
          rw [h] at h1
          cases h1
          unfold ExB at h2
          rcases h2 with ⟨_, z⟩ | ⟨_, z⟩ <;> cases z
      rw [less_g q]
      exact h
    · have q : B dx = none := by
        cases q : B dx with
        | none => rfl
        | some u =>
          obtain ⟨h1, h2⟩ := hb dx u q
          rw [g] at h1
          cases h1
          rcases h2 with ⟨_, z⟩ | ⟨_, z⟩ <;> cases z
      rw [less_g q]
      exact g
  | _, _, .code (p := p) (dx := dx) h a b c, n => by
    simp only [noMut, Bool.and_eq_true] at n
    refine .code (dx := dx) ?_ (R.less hb a n.1.1) (R.less hb b n.1.2) (R.less hb c n.2)
    have q : B p = none := by
      cases q : B p with
      | none => rfl
      | some u =>
        obtain ⟨h1, h2⟩ := hb p u q
        rw [h] at h1
        cases h1
        rcases h2 with ⟨_, z⟩ | ⟨_, z⟩ <;> cases z
    rw [less_g q]
    exact h
theorem RA.less (hb : ∀ p o, B p = some o → F1 p = some o ∧ Ld o) : ∀ {vs : List V} {ds : List D}, RA M F1 vs ds → noMuts ds = true → RA M (less F1 B) vs ds
  | _, _, .nil, _ => .nil
  | _, _, .cons h t, n => by
    simp only [noMuts, Bool.and_eq_true] at n
    exact .cons (R.less hb h n.1) (RA.less hb t n.2)
end
theorem RSx.hb (r : RSx M F0 H0 G B se σ H) (x : Ex M.T (gb G B) H F1 H1) : ∀ p o, B p = some o → F1 p = some o ∧ Ld o := fun p o e => ⟨x.f _ _ (gb_b e), (r.b p o e).2.2.2⟩
end
/-! ### what a block comes to -/
inductive SR where
  | nx (e : SE)
  | ret (d : D)
  | bk (e : SE)
  | ct (e : SE)
  | exc (c : Str) (d : D)
  | bad
def SPost (M : MC) (E : XK) (F0 H0 : Hp) (D' : Ends) : SR → Prop
  | .nx e => ∀ σ' H' G' B', RSx M F0 H0 G' B' e σ' H' → D'.nx σ' H'
  | .bk e => ∀ σ' H' G' B', RSx M F0 H0 G' B' e σ' H' → D'.bk σ' H'
  | .ct e => ∀ σ' H' G' B', RSx M F0 H0 G' B' e σ' H' → D'.ct σ' H'
  | .ret d => ∀ v F' H', Ex M.T F0 H0 F' H' → R M F' v d → D'.rt v H'
  | .exc c d => ∀ v F' H' dx, Ex M.T F0 H0 F' H' → R M F' v d → H' dx = none → E (.ref (M.xa c)) (some dx) (upd H' dx (.xd [(M.fl c, v)]))
  | .bad => False
def tS (M : MC) (E : XK) (s : SE → SR) : TS := fun D' σ H => ∃ F0 H0 G B se, RSx M F0 H0 G B se σ H ∧ SPost M E F0 H0 D' (s se)
/-- data of an expression: without the own things in sight; else with them, then nothing of them may be in it -/
def useE (g : En → Oc D) (se : SE) : Oc D := match g (enA se) with
  | .bad => (match g (enB se) with
    | .ok d => if noMut d = true then .ok d else .bad
    | r => r)
  | r => r
def useB (g : En → Oc Bool) (se : SE) : Oc Bool := match g (enA se) with
  | .bad => g (enB se)
  | r => r
def useL (g : En → Oc (List D)) (se : SE) : Oc (List D) := match g (enA se) with
  | .bad => (match g (enB se) with
    | .ok d => if noMuts d = true then .ok d else .bad
    | r => r)
  | r => r
/-- the exceptions of what was used -/
def XP (M : MC) (E : XK) (F0 H0 : Hp) (c : Str) (d : D) : Prop := ∀ v F' H' dx, Ex M.T F0 H0 F' H' → R M F' v d → H' dx = none → E (.ref (M.xa c)) (some dx) (upd H' dx (.xd [(M.fl c, v)]))
section
variable {M : MC} {E : XK} {F0 H0 G B H H1 F1 : Hp} {se : SE} {σ : L2.St}
/-- a value -/
def UP (M : MC) (E : XK) (F0 H0 : Hp) (P : D → Prop) : Oc D → Prop
  | .ok d => P d
  | .exc c d => XP M E F0 H0 c d
  | .bad => False
theorem use_ok {g : En → Oc D} {Q : VK} (r : RSx M F0 H0 G B se σ H) (h : UP M E F0 H0 (fun d => ∀ v G' H', RSx M F0 H0 G' B se σ H' → R M G' v d → Q v H') (useE g se)) : tP M E g σ H Q := by
  unfold useE at h
  cases z : g (enA se) with
  | ok d =>
    rw [z] at h
    refine ⟨G, enA se, r.g.s, r.enA, ?_⟩
    rw [z]
    exact fun v F' H' x rv => h v F' H' (r.more x) rv
  | exc c d =>
    rw [z] at h
    refine ⟨G, enA se, r.g.s, r.enA, ?_⟩
    rw [z]
    exact fun v F' H' dx x rv n => h v F' H' dx (r.g.trans x) rv n
  | bad =>
    rw [z] at h
    refine ⟨gb G B, enB se, r.sB, r.enB, ?_⟩
    cases z2 : g (enB se) with
    | ok d =>
      rw [z2] at h
      dsimp only at h
      split at h
      · rename_i c
        exact fun v F' H' x rv => h v (less F' B) H' (r.more (r.less x)) (rv.less (r.hb x) c)
      · exact h.elim
    | exc c d =>
      rw [z2] at h
      exact fun v F' H' dx x rv n => h v F' H' dx (r.exB.trans x) rv n
    | bad =>
      rw [z2] at h
      exact h.elim
def UPB (M : MC) (E : XK) (F0 H0 : Hp) (P : Bool → Prop) : Oc Bool → Prop
  | .ok d => P d
  | .exc c d => XP M E F0 H0 c d
  | .bad => False
theorem useB_ok {g : En → Oc Bool} {Q : Bool → Hp → Prop} (r : RSx M F0 H0 G B se σ H) (h : UPB M E F0 H0 (fun d => ∀ H', RSx M F0 H0 G B se σ H' → Q d H') (useB g se)) : tPT M E g σ H Q := by
  unfold useB at h
  cases z : g (enA se) with
  | ok d =>
    rw [z] at h
    refine ⟨G, enA se, r.g.s, r.enA, ?_⟩
    rw [z]
    intro v F' H' x rv
    cases rv
    exact h H' (r.growG x)
  | exc c d =>
    rw [z] at h
    refine ⟨G, enA se, r.g.s, r.enA, ?_⟩
    rw [z]
    exact fun v F' H' dx x rv n => h v F' H' dx (r.g.trans x) rv n
  | bad =>
    rw [z] at h
    refine ⟨gb G B, enB se, r.sB, r.enB, ?_⟩
    cases z2 : g (enB se) with
    | ok d =>
      rw [z2] at h
      intro v F' H' x rv
      cases rv
      exact h H' (r.growB x)
    | exc c d =>
      rw [z2] at h
      exact fun v F' H' dx x rv n => h v F' H' dx (r.exB.trans x) rv n
    | bad =>
      rw [z2] at h
      exact h.elim
def UPL (M : MC) (E : XK) (F0 H0 : Hp) (P : List D → Prop) : Oc (List D) → Prop
  | .ok d => P d
  | .exc c d => XP M E F0 H0 c d
  | .bad => False
/-- a fresh list, for the def alone -/
theorem useO_ok {g : En → Oc (List D)} {Q : VK} (r : RSx M F0 H0 G B se σ H) (h : UPL M E F0 H0 (fun ds => ∀ p xs G' H', RSx M F0 H0 G' B se σ H' → H' p = none → RA M G' xs ds → Q (.ref p) (upd H' p (.lst xs))) (useL g se)) : tPo M E g σ H Q := by
  unfold useL at h
  cases z : g (enA se) with
  | ok d =>
    rw [z] at h
    refine ⟨G, enA se, r.g.s, r.enA, ?_⟩
    rw [z]
    exact fun p xs F' H' x n rv => h p xs F' H' (r.more x) n rv
  | exc c d =>
    rw [z] at h
    refine ⟨G, enA se, r.g.s, r.enA, ?_⟩
    rw [z]
    exact fun v F' H' dx x rv n => h v F' H' dx (r.g.trans x) rv n
  | bad =>
    rw [z] at h
    refine ⟨gb G B, enB se, r.sB, r.enB, ?_⟩
    cases z2 : g (enB se) with
    | ok d =>
      rw [z2] at h
      dsimp only at h
      split at h
      · rename_i c
        exact fun p xs F' H' x n rv => h p xs (less F' B) H' (r.more (r.less x)) n (rv.less (r.hb x) c)
      · exact h.elim
    | exc c d =>
      rw [z2] at h
      exact fun v F' H' dx x rv n => h v F' H' dx (r.exB.trans x) rv n
    | bad =>
      rw [z2] at h
      exact h.elim
/-! ### slots are set -/
theorem own_set_im {i j : Nat} {d : D} (h : Own (se.set i (some (.im d))) j) : Own se j ∧ j ≠ i := by
  by_cases c : i = j
  · subst c
    rcases h with ⟨ds, h⟩ | ⟨ks, vs, h⟩
    all_goals
      by_cases l : i < se.length
      · rw [List.getElem?_set_self l] at h
        cases h
      · rw [List.getElem?_eq_none (by rw [List.length_set]; omega)] at h
        cases h
  · unfold Own at h
    rw [List.getElem?_set_ne c] at h
    exact ⟨h, fun z => c z.symm⟩
theorem RSx.setIm {i : Nat} {v : V} {d : D} (r : RSx M F0 H0 G B se σ H) (hi : i < se.length) (rv : R M G v d) : RSx M F0 H0 G B (se.set i (some (.im d))) (σ.set i (some v)) H := by
  have li : i < σ.length := Nat.lt_of_lt_of_le hi r.le
  refine ⟨by rw [List.length_set, List.length_set]; exact r.le, r.g, r.b, fun j e h => ?_, fun j e h => ?_, fun j ks vs h => ?_, fun j k p h1 h2 o1 o2 => ?_⟩
  · by_cases c : i = j
    · subst c
      rw [List.getElem?_set_self hi] at h
      cases h
      exact ⟨v, List.getElem?_set_self li, rv⟩
    · rw [List.getElem?_set_ne c] at h ⊢
      exact r.im j e h
  · obtain ⟨_, c⟩ := own_set_im (.inl ⟨e, h⟩)
    rw [List.getElem?_set_ne fun z => c z.symm] at h ⊢
    exact r.ow j e h
  · obtain ⟨_, c⟩ := own_set_im (.inr ⟨ks, vs, h⟩)
    rw [List.getElem?_set_ne fun z => c z.symm] at h ⊢
    exact r.od j ks vs h
  · obtain ⟨q1, c1⟩ := own_set_im o1
    obtain ⟨q2, c2⟩ := own_set_im o2
    rw [List.getElem?_set_ne fun z => c1 z.symm] at h1
    rw [List.getElem?_set_ne fun z => c2 z.symm] at h2
    exact r.ap j k p h1 h2 q1 q2
theorem own_set {i j : Nat} {s : Sl} (c : i ≠ j) (h : Own (se.set i (some s)) j) : Own se j := by
  unfold Own at h
  rw [List.getElem?_set_ne c] at h
  exact h
/-- a new own thing at slot i -/
theorem RSx.setOwn {i : Nat} {p : Addr} {o : HO} {s : Sl} (r : RSx M F0 H0 G B se σ H) (hi : i < se.length) (hp : H p = none) (ho : Ld o)
    (ok : ∀ B' : Hp, B' p = some o → (match s with
      | .im _ => False
      | .ow ds => ∃ xs, o = .lst xs ∧ RA M G xs ds
      | .od ks vs => ∃ kvs, o = .dK kvs ∧ RA M G (kvs.map fun q => kV q.1) ks ∧ RA M G (kvs.map (·.2)) vs)) :
    RSx M F0 H0 G (upd B p o) (se.set i (some s)) (σ.set i (some (.ref p))) (upd H p o) := by
  have li : i < σ.length := Nat.lt_of_lt_of_le hi r.le
  have gp : G p = none := r.g.s.free hp
  have h0p : ¬ Has H0 p := fun z => by
    obtain ⟨o, e, _⟩ := z.ext r.g.h
    rw [hp] at e
    cases e
  have bp : B p = none := by
    cases q : B p with
    | none => rfl
    | some u =>
      rw [(r.b p u q).1] at hp
      cases hp
  have far : ∀ j q, σ[j]? = some (some (.ref q)) → Own se j → q ≠ p := fun j q h o z => by
    subst z
    rcases o with ⟨ds, o⟩ | ⟨ks, vs, o⟩
    · obtain ⟨q', xs, e1, e2, _⟩ := r.ow j ds o
      rw [h] at e1
      cases e1
      rw [bp] at e2
      cases e2
    · obtain ⟨q', xs, e1, e2, _⟩ := r.od j ks vs o
      rw [h] at e1
      cases e1
      rw [bp] at e2
      cases e2
  refine ⟨by rw [List.length_set, List.length_set]; exact r.le, ⟨r.g.f, r.g.h.trans (extN_of (sNew (Same.refl _) hp)), r.g.s.up hp, r.g.n⟩, fun q u e => ?_, fun j e h => ?_, fun j e h => ?_, fun j ks vs h => ?_, fun j k q h1 h2 o1 o2 => ?_⟩
  · by_cases c : q = p
    · subst c
      rw [upd_same] at e
      cases e
      exact ⟨upd_same, gp, h0p, ho⟩
    · rw [upd_ne c] at e
      obtain ⟨a, b⟩ := r.b q u e
      exact ⟨by rw [upd_ne c]; exact a, b⟩
  · by_cases c : i = j
    · subst c
      rw [List.getElem?_set_self hi] at h
      cases h
      exact (ok (upd B p o) upd_same).elim
    · rw [List.getElem?_set_ne c] at h ⊢
      exact r.im j e h
  · by_cases c : i = j
    · subst c
      rw [List.getElem?_set_self hi] at h
      cases h
      obtain ⟨xs, rfl, rx⟩ := ok (upd B p o) upd_same
      exact ⟨p, xs, List.getElem?_set_self li, upd_same, rx⟩
    · rw [List.getElem?_set_ne c] at h ⊢
      obtain ⟨q, xs, e1, e2, e3⟩ := r.ow j e h
      exact ⟨q, xs, e1, by rw [upd_ne (far j q e1 (.inl ⟨e, h⟩))]; exact e2, e3⟩
  · by_cases c : i = j
    · subst c
      rw [List.getElem?_set_self hi] at h
      cases h
      obtain ⟨xs, rfl, rx⟩ := ok (upd B p o) upd_same
      exact ⟨p, xs, List.getElem?_set_self li, upd_same, rx⟩
    · rw [List.getElem?_set_ne c] at h ⊢
      obtain ⟨q, xs, e1, e2, e3⟩ := r.od j ks vs h
      exact ⟨q, xs, e1, by rw [upd_ne (far j q e1 (.inr ⟨ks, vs, h⟩))]; exact e2, e3⟩
  · by_cases c1 : i = j
    · by_cases c2 : i = k
      · omega
      · subst c1
        rw [List.getElem?_set_self li] at h1
        rw [List.getElem?_set_ne c2] at h2
        cases h1
        exact absurd rfl (far k p h2 (own_set c2 o2))
    · by_cases c2 : i = k
      · subst c2
        rw [List.getElem?_set_self li] at h2
        rw [List.getElem?_set_ne c1] at h1
        cases h2
        exact absurd rfl (far j p h1 (own_set c1 o1))
      · rw [List.getElem?_set_ne c1] at h1
        rw [List.getElem?_set_ne c2] at h2
        exact r.ap j k q h1 h2 (own_set c1 o1) (own_set c2 o2)
/-- an own thing is changed -/
theorem RSx.put {i : Nat} {p : Addr} {u o : HO} {s : Sl} (r : RSx M F0 H0 G B se σ H) (hi : i < se.length) (hs : σ[i]? = some (some (.ref p))) (hw : Own se i) (hp : B p = some u) (ho : Ld o)
    (ok : match s with
      | .im _ => False
      | .ow ds => ∃ xs, o = .lst xs ∧ RA M G xs ds
      | .od ks vs => ∃ kvs, o = .dK kvs ∧ RA M G (kvs.map fun q => kV q.1) ks ∧ RA M G (kvs.map (·.2)) vs) :
    RSx M F0 H0 G (upd B p o) (se.set i (some s)) σ (upd H p o) := by
  obtain ⟨hH, gp, h0p, ld⟩ := r.b p u hp
  have far : ∀ j q, i ≠ j → σ[j]? = some (some (.ref q)) → Own se j → q ≠ p := fun j q c h o z => c (r.ap i j p hs (by rw [← z]; exact h) hw o)
  have own2 : ∀ j, Own (se.set i (some s)) j → Own se j := fun j h => by
    by_cases c : i = j
    · subst c
      exact hw
    · exact own_set c h
  refine ⟨by rw [List.length_set]; exact r.le, ⟨r.g.f, fun b v e nt => by
    rw [upd_ne fun z => h0p (by rw [← z]; exact ⟨v, e, nt⟩)]
    exact r.g.h _ _ e nt, r.g.s.put gp hH ld, r.g.n⟩, fun q v e => ?_, fun j e h => ?_, fun j e h => ?_, fun j ks vs h => ?_, fun j k q h1 h2 o1 o2 => r.ap j k q h1 h2 (own2 j o1) (own2 k o2)⟩
  · by_cases c : q = p
    · subst c
      rw [upd_same] at e
      cases e
      exact ⟨upd_same, gp, h0p, ho⟩
    · rw [upd_ne c] at e
      obtain ⟨a, b⟩ := r.b q v e
      exact ⟨by rw [upd_ne c]; exact a, b⟩
  · by_cases c : i = j
    · subst c
      rw [List.getElem?_set_self hi] at h
      cases h
      exact ok.elim
    · rw [List.getElem?_set_ne c] at h
      exact r.im j e h
  · by_cases c : i = j
    · subst c
      rw [List.getElem?_set_self hi] at h
      cases h
      obtain ⟨xs, rfl, rx⟩ := ok
      exact ⟨p, xs, hs, upd_same, rx⟩
    · rw [List.getElem?_set_ne c] at h
      obtain ⟨q, xs, e1, e2, e3⟩ := r.ow j e h
      exact ⟨q, xs, e1, by rw [upd_ne (far j q c e1 (.inl ⟨e, h⟩))]; exact e2, e3⟩
  · by_cases c : i = j
    · subst c
      rw [List.getElem?_set_self hi] at h
      cases h
      obtain ⟨xs, rfl, rx⟩ := ok
      exact ⟨p, xs, hs, upd_same, rx⟩
    · rw [List.getElem?_set_ne c] at h
      obtain ⟨q, xs, e1, e2, e3⟩ := r.od j ks vs h
      exact ⟨q, xs, e1, by rw [upd_ne (far j q c e1 (.inr ⟨ks, vs, h⟩))]; exact e2, e3⟩
end
end Pl

set_option maxRecDepth 100000
set_option maxHeartbeats 4000000
namespace Pl
open PySem PySem.Spec PyProof.Rows L2 Fx
open PySem.W (Frag)
/-! ### statements by pure functions -/
def ocS {α : Type} (o : Oc α) (k : α → SR) : SR := match o with
  | .ok a => k a
  | .exc c d => .exc c d
  | .bad => .bad
def SR.bind (r : SR) (k : SE → SR) : SR := match r with
  | .nx e => k e
  | r => r
section
variable {X : Cx} {M : MC} {E : XK} {pos : Pos} {F0 H0 G B H H1 F1 : Hp} {se : SE} {σ : L2.St} {D : Ends}
theorem up_of {o : Oc D'} {k : D' → SR} (P : D' → Prop) (h : SPost M E F0 H0 D (ocS o k)) (n : ∀ d, SPost M E F0 H0 D (k d) → P d) : (match o with
  | .ok d => P d
  | .exc c d => XP M E F0 H0 c d
  | .bad => False) := by
  cases o with
  | ok d => exact n d h
  | exc c d => exact h
  | bad => exact h.elim
theorem upE {o : Oc Pl.D} {k : Pl.D → SR} {P : Pl.D → Prop} (h : SPost M E F0 H0 D (ocS o k)) (n : ∀ d, SPost M E F0 H0 D (k d) → P d) : UP M E F0 H0 P o := by
  cases o with
  | ok d => exact n d h
  | exc c d => exact h
  | bad => exact h.elim
theorem upB {o : Oc Bool} {k : Bool → SR} {P : Bool → Prop} (h : SPost M E F0 H0 D (ocS o k)) (n : ∀ d, SPost M E F0 H0 D (k d) → P d) : UPB M E F0 H0 P o := by
  cases o with
  | ok d => exact n d h
  | exc c d => exact h
  | bad => exact h.elim
theorem upL {o : Oc (List Pl.D)} {k : List Pl.D → SR} {P : List Pl.D → Prop} (h : SPost M E F0 H0 D (ocS o k)) (n : ∀ d, SPost M E F0 H0 D (k d) → P d) : UPL M E F0 H0 P o := by
  cases o with
  | ok d => exact n d h
  | exc c d => exact h
  | bad => exact h.elim
def qSeq (s t : SE → SR) : SE → SR := fun se => (s se).bind t
theorem s_nil : PSs X [] (tS M E .nx) := PSsup pss_nil fun D σ H ⟨F0, H0, G, B, se, r, p⟩ => p σ H G B r
theorem s_cons {st : Stmt} {rest : List Stmt} {s t : SE → SR} (h1 : PS X st (tS M E s)) (h2 : PSs X rest (tS M E t)) : PSs X (st :: rest) (tS M E (qSeq s t)) :=
  PSsup (pss_cons h1 h2) fun D σ H ⟨F0, H0, G, B, se, r, p⟩ => ⟨F0, H0, G, B, se, r, by
    unfold qSeq at p
    cases z : s se with
    | nx e =>
      rw [z] at p
      exact fun σ' H' G' B' r' => ⟨F0, H0, G', B', e, r', p⟩
    | bk e => rw [z] at p; exact p
    | ct e => rw [z] at p; exact p
    | ret d => rw [z] at p; exact p
    | exc c d => rw [z] at p; exact p
    | bad => rw [z] at p; exact p⟩
theorem s_one {st : Stmt} {s : SE → SR} (h1 : PS X st (tS M E s)) : PSs X [st] (tS M E s) := pss_one h1
theorem s_pass : PS X (.Pass pos) (tS M E .nx) := PSup ps_pass fun D σ H ⟨F0, H0, G, B, se, r, p⟩ => p σ H G B r
theorem s_break : PS X (.Break pos) (tS M E .bk) := PSup ps_break fun D σ H ⟨F0, H0, G, B, se, r, p⟩ => p σ H G B r
theorem s_cont : PS X (.Continue pos) (tS M E .ct) := PSup ps_continue fun D σ H ⟨F0, H0, G, B, se, r, p⟩ => p σ H G B r
theorem s_doc {x j pos pos'} : PS X (.Expr (.Constant (.str x) j pos) pos') (tS M E .nx) := PSup ps_doc fun D σ H ⟨F0, H0, G, B, se, r, p⟩ => p σ H G B r
def qExpr (g : En → Oc Pl.D) : SE → SR := fun se => ocS (useE g se) fun _ => .nx se
theorem s_expr {e : Expr} {g : En → Oc Pl.D} (h : PE X e (tP M E g)) (hs : swapsWith e none pos.line X.env = pure false := by rfl) : PS X (.Expr e pos) (tS M E (qExpr g)) :=
  PSup (ps_expr h hs) fun D σ H ⟨F0, H0, G, B, se, r, p⟩ => use_ok r (upE p fun d p v G' H' r' _ => p σ H' G' B r')
def qIf (c : En → Oc Bool) (s t : SE → SR) : SE → SR := fun se => ocS (useB c se) fun b => if b = true then s se else t se
theorem s_if {c : Expr} {a b : List Stmt} {g : En → Oc Bool} {s t : SE → SR} (hc : PT X c (tPT M E g)) (ha : PSs X a (tS M E s)) (hb : PSs X b (tS M E t)) : PS X (.If c a b pos) (tS M E (qIf g s t)) :=
  PSup (ps_if hc ha hb) fun D σ H ⟨F0, H0, G, B, se, r, p⟩ => useB_ok r (upB p fun d p H' r' => by
    cases d with
    | true =>
      rw [if_pos rfl] at p ⊢
      exact ⟨F0, H0, G, B, se, r', p⟩
    | false =>
      rw [if_neg (by decide)] at p ⊢
      exact ⟨F0, H0, G, B, se, r', p⟩)
/-! names -/
def setIm (i : Nat) (d : Pl.D) (se : SE) : SR := if i < se.length then .nx (se.set i (some (.im d))) else .bad
def setOw (i : Nat) (d : List Pl.D) (se : SE) : SR := if i < se.length then .nx (se.set i (some (.ow d))) else .bad
def qSet (i : Nat) (g : En → Oc Pl.D) : SE → SR := fun se => ocS (useE g se) fun d => setIm i d se
theorem s_setA {st : Stmt} {i : Nat} {te : TE} {g : En → Oc Pl.D} (h : PS X st (tAsg te (gName i))) (k : ∀ σ H Q, tP M E g σ H Q → te σ H Q) : PS X st (tS M E (qSet i g)) :=
  PSup h fun D σ H ⟨F0, H0, G, B, se, r, p⟩ => k σ H _ (use_ok r (upE p fun d p v G' H' r' rv => by
    unfold setIm at p
    split at p
    · rename_i c
      exact p _ _ _ _ (r'.setIm c rv)
    · exact p.elim))
theorem s_set {i : Nat} {x : Str} {e : Expr} {g : En → Oc Pl.D} {pos' : Pos} (hN : X.N.Nodup) (hi : X.N[i]? = some x) (hx : Loc X.env.scope x) (he : PE X e (tP M E g)) (hs : swapsWith e (some (.Name x pos')) pos.line X.env = pure false := by rfl) (hf : X.fn x = true ∨ X.env.scope.names.lookup x = some .local := by first | exact .inl rfl | exact .inr rfl | assumption) :
    PS X (.Assign [.Name x pos'] e pos) (tS M E (qSet i g)) := s_setA (ps_set hN hi hx he hs hf) fun _ _ _ z => z
def qSetO (i : Nat) (g : En → Oc (List Pl.D)) : SE → SR := fun se => ocS (useL g se) fun d => setOw i d se
theorem s_setOA {st : Stmt} {i : Nat} {te : TE} {g : En → Oc (List Pl.D)} (h : PS X st (tAsg te (gName i))) (k : ∀ σ H Q, tPo M E g σ H Q → te σ H Q) : PS X st (tS M E (qSetO i g)) :=
  PSup h fun D σ H ⟨F0, H0, G, B, se, r, p⟩ => k σ H _ (useO_ok r (upL p fun d p q xs G' H' r' hq rx => by
    unfold setOw at p
    split at p
    · rename_i c
      exact p _ _ _ _ (r'.setOwn c hq (.inl ⟨_, rfl⟩) fun _ _ => ⟨xs, rfl, rx⟩)
    · exact p.elim))
theorem s_setO {i : Nat} {x : Str} {e : Expr} {g : En → Oc (List Pl.D)} {pos' : Pos} (hN : X.N.Nodup) (hi : X.N[i]? = some x) (hx : Loc X.env.scope x) (he : PE X e (tPo M E g)) (hs : swapsWith e (some (.Name x pos')) pos.line X.env = pure false := by rfl) (hf : X.fn x = true ∨ X.env.scope.names.lookup x = some .local := by first | exact .inl rfl | exact .inr rfl | assumption) :
    PS X (.Assign [.Name x pos'] e pos) (tS M E (qSetO i g)) := s_setOA (ps_set hN hi hx he hs hf) fun _ _ _ z => z
/-- a fresh list as data -/
theorem tP_ofO {te : TE} {g : En → Oc (List Pl.D)} (k : ∀ σ H Q, tPo M E g σ H Q → te σ H Q) : ∀ σ H Q, tP M E (asL g) σ H Q → te σ H Q := fun σ H Q ⟨F, en, s, r, p⟩ => k σ H Q ⟨F, en, s, r, by
  unfold asL at p
  cases z : g en with
  | ok ds =>
    rw [z] at p
    exact fun q xs F' H' e n rs => Post.newL (E := E) (M := M) (ds := ds) (Post.later p e) e.s rs n
  | exc c a =>
    rw [z] at p
    exact p
  | bad =>
    rw [z] at p
    exact p.elim⟩
/-! return -/
def qRet (g : En → Oc Pl.D) : SE → SR := fun se => ocS (g (enB se)) .ret
theorem s_ret {e : Expr} {g : En → Oc Pl.D} (he : PE X e (tP M E g)) : PS X (.Return (some e) pos) (tS M E (qRet g)) :=
  PSup (ps_ret he) fun D σ H ⟨F0, H0, G, B, se, r, p⟩ => by
    refine ⟨gb G B, enB se, r.sB, r.enB, ?_⟩
    unfold qRet at p
    cases z : g (enB se) with
    | ok d =>
      rw [z] at p
      exact fun v F' H' x rv => p v F' H' (r.exB.trans x) rv
    | exc c d =>
      rw [z] at p
      exact fun v F' H' dx x rv n => p v F' H' dx (r.exB.trans x) rv n
    | bad =>
      rw [z] at p
      exact p.elim
theorem s_retN : PS X (.Return none pos) (tS M E fun _ => .ret .non) := PSup ps_retN fun D σ H ⟨F0, H0, G, B, se, r, p⟩ => p .non G H r.g .non
/-! raise -/
def qRaise (c : Str) (g : En → Oc Pl.D) : SE → SR := fun se => ocS (g (enB se)) (.exc c)
theorem s_raise {c : Str} {e : Expr} {te : Expr} {fld : Str} {g : En → Oc Pl.D} (hc : X.calm = true) (tk : Takes X (fun cls d _ H => E cls d H)) (he : PMk X e (tRx (M.xa c) (M.fl c) (tP M E g))) : PS X (.Raise (some e) none pos) (tS M E (qRaise c g)) :=
  PSup (ps_raise hc tk he) fun D σ H ⟨F0, H0, G, B, se, r, p⟩ => by
    refine ⟨gb G B, enB se, r.sB, r.enB, ?_⟩
    unfold qRaise at p
    cases z : g (enB se) with
    | ok d =>
      rw [z] at p
      exact fun v F' H' x rv dx n => p v F' H' dx (r.exB.trans x) rv n
    | exc c' d =>
      rw [z] at p
      exact fun v F' H' dx x rv n => p v F' H' dx (r.exB.trans x) rv n
    | bad =>
      rw [z] at p
      exact p.elim
/-! lists of the def's own -/
def ow? (se : SE) (i : Nat) : Option (List Pl.D) := match se[i]? with
  | some (some (.ow ds)) => some ds
  | _ => none
theorem ow?_eq {i : Nat} {ds : List Pl.D} (h : ow? se i = some ds) : se[i]? = some (some (.ow ds)) := by
  unfold ow? at h
  split at h
  · rename_i z
    rw [z, Option.some.inj h]
  · cases h
def qApp (i : Nat) (g : En → Oc Pl.D) : SE → SR := fun se => match ow? se i with
  | some ds => ocS (useE g se) fun d => if fit (ds.length + 1) = true then .nx (se.set i (some (.ow (ds ++ [d])))) else .bad
  | none => .bad
theorem RSx.own {i : Nat} {ds : List Pl.D} (r : RSx M F0 H0 G B se σ H) (h : se[i]? = some (some (.ow ds))) : ∃ p xs, σ[i]? = some (some (.ref p)) ∧ B p = some (.lst xs) ∧ H p = some (.lst xs) ∧ RA M G xs ds := by
  obtain ⟨p, xs, a, b, c⟩ := r.ow i ds h
  exact ⟨p, xs, a, b, (r.b p _ b).1, c⟩
theorem lt_of_get {i : Nat} {s : Option Sl} (h : se[i]? = some s) : i < se.length := (List.getElem?_eq_some_iff.mp h).1
theorem s_app {i : Nat} {x : Str} {e : Expr} {g : En → Oc Pl.D} {p1 p2 p3 : Pos} (hN : X.N[i]? = some x) (hv : Vis X.env.scope x) (he : PE X e (tP M E g))
    (hbase : attributeBase (.Name x p1) "append" X.env (eval (.Name x p1) X.env) = eval (.Name x p1) X.env := by rfl)
    (hfew : ((backTo p3 (starEach [e] X.env)).all (fun x => !x.1) && (backToKw p3 (keywordEach [] X.env)).all (fun x => x.1.isSome)
      && decide ([e].length + ([] : List Keyword).length + (if ([] : List Keyword).isEmpty then 0 else 1) < 30)) = true := by rfl)
    (hline : (p2.endLine == p3.line) = true := by rfl) (hs : starEach [e] X.env = (false, eval e X.env) :: starEach [] X.env := by rfl) (hplain : (backTo p3 (starEach [] X.env)).any (·.1) = false := by rfl)
    (hs2 : swapsWith (.Call (.Attribute (.Name x p1) "append" p2) [e] [] p3) none pos.line X.env = pure false := by rfl)
    (hd : (x == ("__debug__" : Str)) = false := by decide) (hcd : (x == ("__classdict__" : Str)) = false := by decide) :
    PS X (.Expr (.Call (.Attribute (.Name x p1) "append" p2) [e] [] p3) pos) (tS M E (qApp i g)) :=
  PSup (ps_expr (pe_bm PySem.F.plainAttrs_list PySem.F.slot_list_append PySem.F.type_list_append mt_append (pe_var hN hv hd hcd) (pa_cons he pa_nil hs) hbase hfew hline hs hplain) hs2) fun D σ H ⟨F0, H0, G, B, se, r, p⟩ => by
    unfold qApp at p
    split at p
    · rename_i ds z
      have z := ow?_eq z
      obtain ⟨q, xs, a, b, c, d⟩ := r.own z
      refine ⟨_, a, .inl ⟨rfl, xs, SqL.of c⟩, use_ok r (upE p fun d p v G' H' r' rv => ?_)⟩
      split at p
      · rename_i f
        obtain ⟨q', xs', a', b', c', d'⟩ := r'.own z
        rw [a] at a'
        cases a'
        have f : _ + 1 ≤ sizeLine := of_decide_eq_true f
        have l := d'.len
        refine ⟨_, xs', v, rfl, rfl, c', by rw [l]; exact f, ?_⟩
        exact p _ _ _ _ (r'.put (lt_of_get z) a (.inl ⟨_, z⟩) b' (.inl ⟨_, rfl⟩) ⟨xs' ++ [v], rfl, d'.app (.one rv)⟩)
      · exact p.elim
    · exact p.elim
def qPop (i j : Nat) : SE → SR := fun se => match ow? se j with
  | some ds => if i ≠ j then (match ds[ds.length - 1]? with
    | some d => setIm i d (se.set j (some (.ow ds.dropLast)))
    | none => .bad) else .bad
  | none => .bad
def qAug (i : Nat) (f : Pl.D → Pl.D → Option Pl.D) (g : En → Oc Pl.D) : SE → SR := fun se => match se[i]? with
  | some (some (.im a)) => ocS (useE g se) fun b => (match f a b with
    | some d => setIm i d se
    | none => .bad)
  | _ => .bad
theorem s_aug {i : Nat} {x : Str} {e : Expr} {g : En → Oc Pl.D} {op : Operator} {f : Pl.D → Pl.D → Option Pl.D} {pos' : Pos} (hN : X.N.Nodup) (hi : X.N[i]? = some x) (hx : Loc X.env.scope x) (he : PE X e (tP M E g)) (ho : OpD X M (inplaceOp op) f) (hf : X.fn x = true ∨ X.env.scope.names.lookup x = some .local := by first | exact .inl rfl | exact .inr rfl | assumption) :
    PS X (.AugAssign (.Name x pos') op e pos) (tS M E (qAug i f g)) :=
  PSup (ps_aug hN hi hx he (ti := fun x y H Q => rD M (fun l => .of (l2 f l)) [x, y] H Q) ho hf) fun D σ H ⟨F0, H0, G, B, se, r, p⟩ => by
    unfold qAug at p
    split at p
    · rename_i a z
      obtain ⟨v, e1, e2⟩ := r.im i a z
      refine ⟨v, e1, use_ok r (upE p fun b p y G' H' r' ry => ?_)⟩
      obtain ⟨v', e1', e2'⟩ := r'.im i a z
      rw [e1] at e1'
      cases e1'
      split at p
      · rename_i d zf
        refine ⟨G', [a, b], d, r'.g.s, .two e2' ry, by show Oc.of (f a b) = _; rw [zf]; rfl, fun w F2 H2 x2 rw2 => ?_⟩
        unfold setIm at p
        split at p
        · rename_i c
          exact p _ _ _ _ ((r'.more x2).setIm c rw2)
        · exact p.elim
      · exact p.elim
    · exact p.elim
end
end Pl

set_option maxRecDepth 100000
set_option maxHeartbeats 4000000
namespace Pl
open PySem PySem.Spec PyProof.Rows L2 Fx
open PySem.W (Frag)
/-! ### slots by a target -/
def mergeE (se : SE) (en : En) : List Nat → SE
  | [] => se
  | j :: js => (mergeE se en js).set j ((en[j]?.join).map .im)
theorem mergeE_len (se : SE) (en : En) : ∀ js, (mergeE se en js).length = se.length
  | [] => rfl
  | j :: js => by unfold mergeE; rw [List.length_set, mergeE_len se en js]
theorem mergeE_at {se : SE} {en : En} {i : Nat} {s : Sl} : ∀ {js : List Nat}, (mergeE se en js)[i]? = some (some s) → (i ∈ js ∧ ∃ d, s = .im d ∧ en[i]? = some (some d)) ∨ (i ∉ js ∧ se[i]? = some (some s))
  | [], h => .inr ⟨by simp, h⟩
  | j :: js, h => by
    unfold mergeE at h
    by_cases c : j = i
    · subst c
      by_cases l : j < (mergeE se en js).length
      · rw [List.getElem?_set_self l] at h
        have h := Option.some.inj h
        simp only [Option.map_eq_some_iff] at h
        obtain ⟨d, h1, h2⟩ := h
        refine .inl ⟨List.mem_cons_self .., d, h2.symm, ?_⟩
        cases z : en[j]? with
        | none => rw [z] at h1; cases h1
        | some o => rw [z] at h1; rw [← h1]; rfl
      · rw [List.getElem?_eq_none (by rw [List.length_set]; omega)] at h
        cases h
    · rw [List.getElem?_set_ne c] at h
      rcases mergeE_at h with ⟨a, b⟩ | ⟨a, b⟩
      · exact .inl ⟨List.mem_cons_of_mem _ a, b⟩
      · exact .inr ⟨fun z => (List.mem_cons.mp z).elim (fun z => c z.symm) a, b⟩
section
variable {X : Cx} {M : MC} {E : XK} {pos : Pos} {F0 H0 G B H H1 F1 : Hp} {se : SE} {σ : L2.St} {D : Ends}
theorem own_merge {en : En} {sl : List Nat} {i : Nat} (h : Own (mergeE se en sl) i) : Own se i ∧ i ∉ sl := by
  rcases h with ⟨ds, h⟩ | ⟨ks, vs, h⟩
  · rcases mergeE_at h with ⟨_, d, z, _⟩ | ⟨a, b⟩
    · cases z
    · exact ⟨.inl ⟨ds, b⟩, a⟩
  · rcases mergeE_at h with ⟨_, d, z, _⟩ | ⟨a, b⟩
    · cases z
    · exact ⟨.inr ⟨ks, vs, b⟩, a⟩
theorem RSx.merge {en : En} {sl : List Nat} {σ' : L2.St} (r : RSx M F0 H0 G B se σ H) (hl : σ'.length = σ.length) (re : REn M G σ' en) (ho : ∀ j, j ∉ sl → σ'[j]? = σ[j]?) : RSx M F0 H0 G B (mergeE se en sl) σ' H := by
  refine ⟨by rw [mergeE_len, hl]; exact r.le, r.g, r.b, fun j e h => ?_, fun j e h => ?_, fun j ks vs h => ?_, fun j k p h1 h2 o1 o2 => ?_⟩
  · rcases mergeE_at h with ⟨_, d, z, q⟩ | ⟨a, b⟩
    · cases z
      exact re.at_ j _ q
    · rw [ho j a]
      exact r.im j e b
  · obtain ⟨_, a⟩ := own_merge (.inl ⟨e, h⟩)
    rcases mergeE_at h with ⟨_, d, z, q⟩ | ⟨a, b⟩
    · cases z
    · rw [ho j a]
      exact r.ow j e b
  · rcases mergeE_at h with ⟨_, d, z, q⟩ | ⟨a, b⟩
    · cases z
    · rw [ho j a]
      exact r.od j ks vs b
  · obtain ⟨q1, a1⟩ := own_merge o1
    obtain ⟨q2, a2⟩ := own_merge o2
    rw [ho j a1] at h1
    rw [ho k a2] at h2
    exact r.ap j k p h1 h2 q1 q2
def bindE (b : En → Pl.D → Option En) (sl : List Nat) (d : Pl.D) (se : SE) : SR := match b (enA se) d with
  | some en => .nx (mergeE se en sl)
  | none => .bad
def qAsg (b : En → Pl.D → Option En) (sl : List Nat) (g : En → Oc Pl.D) : SE → SR := fun se => ocS (useE g se) fun d => bindE b sl d se
theorem s_asg {tg e : Expr} {b : En → Pl.D → Option En} {sl : List Nat} {g : En → Oc Pl.D} (he : PE X e (tP M E g)) (hg : PG X tg (tPG M b sl)) (hs : swapsWithSole [tg] e pos.line X.env = pure false := by rfl) (hw : swappedStores [tg] e X.env = pure none := by rfl)
    (h1 : (assignEach [tg] X.env).map (·.2) = [assign tg X.env] := by rfl) : PS X (.Assign [tg] e pos) (tS M E (qAsg b sl g)) :=
  PSup (ps_asg he hg hs hw h1) fun D σ H ⟨F0, H0, G, B, se, r, p⟩ => use_ok r (upE p fun d p v G' H' r' rv => by
    unfold bindE at p
    split at p
    · rename_i en z
      exact ⟨G', enA se, d, en, r'.g.s, r'.enA, rv, z, fun σ' l re ho => p _ _ _ _ (r'.merge l re ho)⟩
    · exact p.elim)
/-! a, b = x, y -/
def qPar (i j : Nat) (g : En → Oc (List Pl.D)) : SE → SR := fun se => ocS (useL g se) fun l => match l with
  | [a, b] => (setIm i a se).bind (setIm j b)
  | _ => .bad
theorem useL_ok {g : En → Oc (List Pl.D)} {Q : List V → Hp → Prop} (r : RSx M F0 H0 G B se σ H) (h : UPL M E F0 H0 (fun ds => ∀ xs G' H', RSx M F0 H0 G' B se σ H' → RA M G' xs ds → Q xs H') (useL g se)) : tPA M E g σ H Q := by
  unfold useL at h
  cases z : g (enA se) with
  | ok d =>
    rw [z] at h
    refine ⟨G, enA se, r.g.s, r.enA, ?_⟩
    rw [z]
    exact fun v F' H' x rv => h v F' H' (r.more x) rv
  | exc c d =>
    rw [z] at h
    refine ⟨G, enA se, r.g.s, r.enA, ?_⟩
    rw [z]
    exact fun v F' H' dx x rv n => h v F' H' dx (r.g.trans x) rv n
  | bad =>
    rw [z] at h
    refine ⟨gb G B, enB se, r.sB, r.enB, ?_⟩
    cases z2 : g (enB se) with
    | ok d =>
      rw [z2] at h
      dsimp only at h
      split at h
      · rename_i c
        exact fun v F' H' x rv => h v (less F' B) H' (r.more (r.less x)) (rv.less (r.hb x) c)
      · exact h.elim
    | exc c d =>
      rw [z2] at h
      exact fun v F' H' dx x rv n => h v F' H' dx (r.exB.trans x) rv n
    | bad =>
      rw [z2] at h
      exact h.elim
theorem s_par {i j : Nat} {x y : Str} {a b : Expr} {g : En → Oc (List Pl.D)} {px py pt : Pos} {kt k2 pt2} (hc : X.calm = true) (hN : X.N.Nodup) (hi : X.N[i]? = some x) (hj : X.N[j]? = some y)
    (hx : X.env.scope.names.lookup x = some .local) (hy : X.env.scope.names.lookup y = some .local) (ha : PA X [a, b] (tPA M E g)) (hij : i ≠ j := by decide)
    (hw : swappedStores [.Tuple [.Name x px, .Name y py] kt pt] (.Tuple [a, b] k2 pt2) X.env = pure (some [x, y]) := by rfl)
    (hs : swapsWithSole [.Tuple [.Name x px, .Name y py] kt pt] (.Tuple [a, b] k2 pt2) pos.line X.env = pure false := by rfl) :
    PS X (.Assign [.Tuple [.Name x px, .Name y py] kt pt] (.Tuple [a, b] k2 pt2) pos) (tS M E (qPar i j g)) :=
  PSup (ps_par hc hN hi hj hij hx hy ha hw hs) fun D σ H ⟨F0, H0, G, B, se, r, p⟩ => useL_ok r (upL p fun l p xs G' H' r' rx => by
    match l, p, rx with
    | [], p, _ => exact p.elim
    | [_], p, _ => exact p.elim
    | _ :: _ :: _ :: _, p, _ => exact p.elim
    | [d1, d2], p, .cons r1 (.cons r2 .nil) =>
      refine ⟨_, _, rfl, ?_⟩
      dsimp only at p
      unfold setIm at p
      split at p
      · rename_i c
        dsimp only [SR.bind] at p
        split at p
        · rename_i c2
          exact p _ _ _ _ ((r'.setIm c r1).setIm c2 r2)
        · exact p.elim
      · exact p.elim)
/-! while -/
def whileD (c : En → Oc Bool) (body : SE → SR) : Nat → SE → SR
  | 0, _ => .bad
  | n + 1, se => ocS (useB c se) fun b => if b = true then (match body se with
    | .nx e => whileD c body n e
    | .ct e => whileD c body n e
    | .bk e => .nx e
    | r => r) else .nx se
theorem s_while {c : Expr} {body : List Stmt} {gc : En → Oc Bool} {s : SE → SR} (hp : PassesOwn (model X.prog X.w) X.A X.env X.xe) (hc : PT X c (tPT M E gc)) (hb : PSs X body (tS M E s)) (n : Nat) : PS X (.While c body [] pos) (tS M E (whileD gc s n)) :=
  PSup (ps_while hp hc hb) fun D σ H ⟨F0, H0, G, B, se, r, p⟩ => by
    refine ⟨fun m σ H => ∃ G B se, RSx M F0 H0 G B se σ H ∧ SPost M E F0 H0 D (whileD gc s m se), ⟨n, G, B, se, r, p⟩, ?_⟩
    rintro m σ H ⟨G, B, se, r, p⟩
    cases m with
    | zero => exact p.elim
    | succ m =>
      unfold whileD at p
      refine useB_ok r (upB p fun b p H' r' => ?_)
      cases b with
      | false => exact p _ _ _ _ r'
      | true =>
        rw [if_pos rfl] at p ⊢
        refine ⟨fun σ H => ∃ G B se, RSx M F0 H0 G B se σ H ∧ SPost M E F0 H0 D (whileD gc s m se), fun σ' H' z => ⟨m, Nat.lt_succ_self m, z⟩, F0, H0, G, B, se, r', ?_⟩
        cases z : s se with
        | nx e => rw [z] at p; exact fun σ' H' G' B' r' => ⟨G', B', e, r', p⟩
        | ct e => rw [z] at p; exact fun σ' H' G' B' r' => ⟨G', B', e, r', p⟩
        | bk e => rw [z] at p; exact p
        | ret d => rw [z] at p; exact p
        | exc c d => rw [z] at p; exact p
        | bad => rw [z] at p; exact p
/-! for -/
def forD (b : En → Pl.D → Option En) (sl : List Nat) (body : SE → SR) : List Pl.D → SE → SR
  | [], se => .nx se
  | d :: ds, se => match bindE b sl d se with
    | .nx e => (match body e with
      | .nx e => forD b sl body ds e
      | .ct e => forD b sl body ds e
      | .bk e => .nx e
      | r => r)
    | r => r
theorem SPost.base {F1' H1' : Hp} {q : SR} (x : Ex M.T F0 H0 F1' H1') (p : SPost M E F0 H0 D q) : SPost M E F1' H1' D q := by
  have up : ∀ {σ' H' G' B' e}, RSx M F1' H1' G' B' e σ' H' → RSx M F0 H0 G' B' e σ' H' := fun r => ⟨r.le, x.trans r.g, fun q o e => let ⟨b1, b2, b3, b4⟩ := r.b q o e; ⟨b1, b2, fun z => b3 (z.ext x.h), b4⟩, r.im, r.ow, r.od, r.ap⟩
  cases q with
  | nx e => exact fun σ' H' G' B' r => p σ' H' G' B' (up r)
  | bk e => exact fun σ' H' G' B' r => p σ' H' G' B' (up r)
  | ct e => exact fun σ' H' G' B' r => p σ' H' G' B' (up r)
  | ret d => exact fun v F' H' y rv => p v F' H' (x.trans y) rv
  | exc c d => exact fun v F' H' dx y rv n => p v F' H' dx (x.trans y) rv n
  | bad => exact p
def qFor (b : En → Pl.D → Option En) (sl : List Nat) (gi : En → Oc (List Pl.D)) (body : SE → SR) : SE → SR := fun se => ocS (gi (enA se)) fun ds => forD b sl body ds se
theorem for_up {b : En → Pl.D → Option En} {sl : List Nat} {gi : En → Oc (List Pl.D)} {s : SE → SR} (D : Ends) (σ : L2.St) (H : Hp) (h : tS M E (qFor b sl gi s) D σ H) : tFor (tPI M E gi) (tPG M b sl) (tS M E s) D σ H := by
  obtain ⟨F0, H0, G, B, se, r, p⟩ := h
  refine ⟨G, enA se, r.g.s, r.enA, ?_⟩
  unfold qFor at p
  cases z : gi (enA se) with
  | bad => rw [z] at p; exact p.elim
  | exc c d =>
    rw [z] at p
    exact fun v F' H' dx x rv n => p v F' H' dx (r.g.trans x) rv n
  | ok ds =>
    rw [z] at p
    intro J F1 H1 e1 w
    obtain ⟨Gp, hG, w⟩ := w
    have r1 := r.more e1
    have keepT : LamX.Tabs M.T (less H1 B) := fun z hz => by
      obtain ⟨ps, e1, e2, e3⟩ := r1.g.s.tb z hz
      have nb : ∀ a o, H1 a = some o → (∀ u, Ld u → u ≠ o) → B a = none := fun a o e n => by
        cases q : B a with
        | none => rfl
        | some u =>
          obtain ⟨b1, _, _, b4⟩ := r1.b a u q
          rw [e] at b1
          cases b1
          exact absurd rfl (n _ b4)
      refine ⟨ps, ?_, e2, fun pos cv hc => ?_⟩
      · rw [less_g (nb _ _ e1 fun u l => l.nt ps)]
        exact e1
      · obtain ⟨c, g1, g2⟩ := e3 pos cv hc
        refine ⟨c, g1, ?_⟩
        rw [less_g (nb _ _ g2 fun u l => l.nc _ _)]
        exact g2
    have sL : Same F1 (less H1 B) := fun a o e => by
      cases q : B a with
      | none => rw [less_g q]; exact r1.g.s.s _ _ e
      | some u =>
        rw [(r1.b a u q).2.1] at e
        cases e
    have x : Ex M.T F0 H0 F1 (less H1 B) := by
      have h0 : LamX.ExtN H0 (less H1 B) := fun a o e nt => by
        cases q : B a with
        | none => rw [less_g q]; exact r1.g.h _ _ e nt
        | some u => exact absurd ⟨o, e, nt⟩ (r1.b a u q).2.2.1
      exact ⟨r1.g.f, h0, ⟨sL, r1.g.s.nt, keepT⟩, r1.g.n⟩
    have base : RSx M F1 (less H1 B) F1 B se σ H1 := by
      refine ⟨r1.le, ⟨Same.refl _, fun a o e nt => ?_, r1.g.s, fun _ h _ => h⟩, fun q o e => ?_, r1.im, r1.ow, r1.od, r1.ap⟩
      · cases q : B a with
        | none => rw [less_g q] at e; exact e
        | some u => rw [less_b q] at e; cases e
      · obtain ⟨b1, b2, b3, b4⟩ := r1.b q o e
        refine ⟨b1, b2, fun z => ?_, b4⟩
        obtain ⟨u, z, _⟩ := z
        rw [less_b e] at z
        cases z
    refine for_it w (fun i σ H => ∃ G B' se, RSx M F1 (less H1 B) G B' se σ H ∧ SPost M E F1 (less H1 B) D (forD b sl s (ds.drop i) se)) ⟨F1, B, se, base, SPost.base x p⟩ (fun i σ H _ ⟨G, B', se, r, _⟩ => hG H (r.g.f.trans r.g.s.s)) ?_ ?_
    · rintro i x σ H H' hi ⟨G, B', se, r, p⟩ y
      obtain ⟨F2, d, e2, ed, rd⟩ := y G r.g.f r.g.s
      have r2 := r.more e2
      have split_ : ds.drop i = d :: ds.drop (i + 1) := by
        have hi' : i < ds.length := hi
        obtain ⟨_, q⟩ := List.getElem?_eq_some_iff.mp ed
        rw [← q, List.drop_eq_getElem_cons hi']
      rw [split_] at p
      simp only [forD, bindE] at p
      cases zb : b (enA se) d with
      | none => rw [zb] at p; exact p.elim
      | some en =>
        rw [zb] at p
        dsimp only at p
        refine ⟨F2, enA se, d, en, e2.s, r2.enA, rd, zb, fun σ' l re ho => ⟨F1, less H1 B, F2, B', _, r2.merge l re ho, ?_⟩⟩
        cases z2 : s (mergeE se en sl) with
        | nx e => rw [z2] at p; exact fun σ' H' G' B' r' => ⟨G', B', e, r', p⟩
        | ct e => rw [z2] at p; exact fun σ' H' G' B' r' => ⟨G', B', e, r', p⟩
        | bk e => rw [z2] at p; exact p
        | ret d => rw [z2] at p; exact p
        | exc c d => rw [z2] at p; exact p
        | bad => rw [z2] at p; exact p
    · rintro σ H ⟨G, B', se, r, p⟩
      rw [List.drop_length] at p
      exact p _ _ _ _ r
theorem s_for {tg iter : Expr} {body : List Stmt} {b : En → Pl.D → Option En} {sl : List Nat} {gi : En → Oc (List Pl.D)} {s : SE → SR} (hp : PassesOwn (model X.prog X.w) X.A X.env X.xe) (hc : X.calm = true) (hi : PI X tg iter (tPI M E gi)) (hg : PG X tg (tPG M b sl)) (hb : PSs X body (tS M E s))
    (hs : ∀ x, foldedSetIterable iter X.env x = pure x := by intro _; rfl) : PS X (.For tg iter body [] pos) (tS M E (qFor b sl gi s)) := PSup (ps_for hp hc hi hg hb hs) for_up
end
end Pl

set_option maxRecDepth 100000
set_option maxHeartbeats 4000000
namespace Pl
open PySem PySem.Spec PyProof.Rows L2 Fx
open PySem.W (Frag)
/-! ### a def by a pure function -/
def many (n : Nat) (φ : List D → Oc D) (ds : List D) : Oc D := if ds.length = n then φ ds else .bad
def spD (M : MC) (n : Nat) (φ : List D → Oc D) : Sp := fun vs H Q E => ∃ F ds, Sx M.T F H ∧ RA M F vs ds ∧ Post M E (R M) F H Q (many n φ ds)
theorem spD_len {M : MC} {n : Nat} {φ : List D → Oc D} {vs : List V} {H : Hp} {Q : VK} {E : XK} (h : spD M n φ vs H Q E) : vs.length = n := by
  obtain ⟨F, ds, s, r, p⟩ := h
  unfold many at p
  split at p
  · rename_i c
    rw [r.len, c]
  · exact p.elim
def se0 (N : Nat) (ds : List D) : SE := ds.map (fun d => some (.im d)) ++ List.replicate (N - ds.length) none
def fin : SR → Oc D
  | .ret d => .ok d
  | .nx _ => .ok .non
  | .exc c d => .exc c d
  | _ => .bad
def run (N : Nat) (s : SE → SR) : List D → Oc D := fun ds => fin (s (se0 N ds))
theorem rs_start {M : MC} {N : List Str} {F H : Hp} {vs : List V} {ds : List D} (x : Sx M.T F H) (r : RA M F vs ds) : RSx M F H F (fun _ => none) (se0 N.length ds) (L2.start N vs) H := by
  refine ⟨?_, Ex.refl x, fun p o e => (by cases e), fun i d e => ?_, fun i d e => ?_, fun i d e g => ?_, fun i j p _ _ o _ => ?_⟩
  · unfold se0 L2.start
    simp only [List.length_append, List.length_map, List.length_replicate, r.len]
    exact Nat.le_refl _
  · unfold se0 at e
    by_cases c : i < ds.length
    · rw [List.getElem?_append_left (by rw [List.length_map]; exact c), List.getElem?_map, Option.map_eq_some_iff] at e
      obtain ⟨d', e1, e2⟩ := e
      have e2 : some (Sl.im d') = some (Sl.im d) := e2
      cases e2
      obtain ⟨v, g1, g2⟩ := r.at e1
      refine ⟨v, ?_, g2⟩
      unfold L2.start
      rw [List.getElem?_append_left (by rw [List.length_map, r.len]; exact c), List.getElem?_map, g1]
      rfl
    · rw [List.getElem?_append_right (by rw [List.length_map]; omega)] at e
      have e := List.mem_of_getElem? e
      rw [List.mem_replicate] at e
      cases e.2
  all_goals
    have key : ∀ (i : Nat) (u : Sl), (se0 N.length ds)[i]? = some (some u) → ∃ d, u = .im d := fun i u e => by
      unfold se0 at e
      by_cases c : i < ds.length
      · rw [List.getElem?_append_left (by rw [List.length_map]; exact c), List.getElem?_map, Option.map_eq_some_iff] at e
        obtain ⟨d', e1, e2⟩ := e
        exact ⟨d', (Option.some.inj e2).symm⟩
      · rw [List.getElem?_append_right (by rw [List.length_map]; omega)] at e
        have e := List.mem_of_getElem? e
        rw [List.mem_replicate] at e
        cases e.2
  · obtain ⟨_, z⟩ := key _ _ e
    cases z
  · obtain ⟨_, z⟩ := key _ _ g
    cases z
  · rcases o with ⟨_, o⟩ | ⟨_, _, o⟩
    · obtain ⟨_, z⟩ := key _ _ o
      cases z
    · obtain ⟨_, z⟩ := key _ _ o
      cases z
theorem run_ok {M : MC} {E : XK} {N : List Str} {s : SE → SR} {F H : Hp} {vs : List V} {ds : List D} {Q : VK} (x : Sx M.T F H) (r : RA M F vs ds) (h : Post M E (R M) F H Q (run N.length s ds)) : tS M E s { nx := fun _ H' => Q .non H', rt := Q } (L2.start N vs) H := by
  refine ⟨F, H, F, fun _ => none, se0 N.length ds, rs_start x r, ?_⟩
  unfold run at h
  generalize s (se0 N.length ds) = z at h
  cases z with
  | nx e => exact fun σ' H' G' B' r' => h .non G' H' r'.g .non
  | bk e => exact (show False from h).elim
  | ct e => exact (show False from h).elim
  | ret d => exact h
  | exc c d => exact fun v F' H' dx x rv n => h v F' H' dx x rv n
  | bad => exact h
/-- what is known of a def -/
structure DF (P : Program) (w : World) (K : Frag) (mg : Str → Option Value) (base : Heap) (M : MC) (k : Nat) (x : Str) (n : Nat) (φ : List D → Oc D) : Prop where
  ex : ∃ (f : Addr) (fd : FuncData) (ps : List Str), FnG P w K mg base (L2.CX P w) k f fd ps (spD M n φ) ∧ PySem.W.keepIn K (.ref f) = true ∧ Binds K fd ps [] ∧ mg x = some (.ref f)
def gF (n : Nat) (φ : List D → Oc D) (gs : En → Oc (List D)) : En → Oc D := fun en => (gs en).bind (many n φ)
section
variable {X : Cx} {M : MC} {E : XK} {pos : Pos}
theorem d_fn {k n : Nat} {x : Str} {φ : List D → Oc D} {p : Pos} {e : Expr} {es : List Expr} {gs : En → Oc (List D)} (W : DF X.prog X.w X.K X.mg X.base M k x n φ) (hgd : X.A.guards = some []) (hr : Room k X.A) (hx : Passes (L2.CX X.prog X.w) X E) (ha : PA X (e :: es) (tPA M E gs))
    (hg : Gl X x := by rfl) (hdb : (x == ("__debug__" : Str)) = false := by decide) (he : starEach (e :: es) X.env = (false, eval e X.env) :: starEach es X.env := by rfl) (hpl : (backTo pos (starEach es X.env)).any (·.1) = false := by rfl) :
    PE X (.Call (.Name x p) (e :: es) [] pos) (tP M E (gF n φ gs)) := by
  obtain ⟨f, fd, ps, F, hk, hb, hm⟩ := W.ex
  exact PEup (pe_callG F hgd hr hg hm hk hb .nil hx ha hdb he hpl) fun σ H Q ⟨F, en, s, r, p⟩ => ⟨F, en, s, r, Post.bd p fun xs as F1 H1 e1 r1 p1 => by
    rw [List.append_nil]
    exact ⟨F1, as, e1.s, r1, p1⟩⟩
theorem passN : Passes (L2.CX X.prog X.w) X NoX := fun pins σ H s e s' I c => by
  obtain ⟨_, _, _, _, _, _, _, _, _, _, _, _, z⟩ := c
  exact z.elim
end
section
variable {P : Program} {w : World} {K : Frag} {mg : Str → Option Value} {base : Heap} {M : MC}
theorem Binds.lenOk {K : Frag} {fd : FuncData} {ps : List Str} {ds : List Value} (h : Binds K fd ps ds) : True := trivial
/-- the rule for a def -/
theorem defG {x qual : Str} {st : Stmt} {f : Addr} {fd : FuncData} {N ps : List Str} {k n : Nat} {s : SE → SR} (F : Fun K x qual st f fd) (S : FnScope N ps (defScope st)) (hn : ps.length = n)
    (hbody : ∀ (cdv : Value) (A : Around) (outer : List Env) (s0 : Shared) (H : Hp) (E : XK), (A.deeper (envOfC qual (defScope st) s0.heap.objs.size f cdv)).guards = some [] → Room k (A.deeper (envOfC qual (defScope st) s0.heap.objs.size f cdv)) →
      PSs (cxOf (L2.CX P w) P w K mg base N qual (defScope st) f cdv A outer s0 H E) (defBody st) (tS M E s)) : FnG P w K mg base (L2.CX P w) (k + 1) f fd ps (spD M n (run N.length s)) := by
  obtain ⟨oc, od, kV, doc, pm, an, cdv, ct, osl, rfl, lk, hcd⟩ := F.ex
  refine fnG_of lk hcd S (fun vs H Q E h => by rw [spD_len h, hn]) fun A outer s0 H vs Q E hg hr hsp => ?_
  obtain ⟨Fh, ds, sx, r, p⟩ := hsp
  refine ⟨_, hbody cdv A outer s0 H E hg hr, run_ok sx r ?_⟩
  unfold many at p
  split at p
  · exact p
  · exact p.elim
end
end Pl

set_option maxRecDepth 100000
set_option maxHeartbeats 4000000
namespace Pl
open PySem PySem.Spec PyProof.Rows L2 Fx
open PySem.W (Frag)
/-! ### defs of the program -/
structure DO (P : Program) (w : World) (K : Frag) (mg : Str → Option Value) (base : Heap) (M : MC) (k : Nat) (x : Str) (n : Nat) (φ : List D → Oc D) : Prop where
  ex : ∃ (f : Addr) (fd : FuncData) (ps : List Str), FnOk P w K mg base (L2.CX P w) k f fd ps (spD M n φ) ∧ PySem.W.keepIn K (.ref f) = true ∧ Binds K fd ps [] ∧ mg x = some (.ref f)
theorem DO.mono {P : Program} {w : World} {K : Frag} {mg : Str → Option Value} {base : Heap} {M : MC} {j k : Nat} {x : Str} {n : Nat} {φ : List D → Oc D} (W : DO P w K mg base M j x n φ) (h : j ≤ k) : DO P w K mg base M k x n φ := by
  obtain ⟨f, fd, ps, F, r⟩ := W.ex
  exact ⟨f, fd, ps, F.mono h, r⟩
section
variable {X : Cx} {M : MC} {E : XK} {pos : Pos}
theorem d_fo {k n : Nat} {x : Str} {φ : List D → Oc D} {p : Pos} {e : Expr} {es : List Expr} {gs : En → Oc (List D)} (W : DO X.prog X.w X.K X.mg X.base M k x n φ) (hr : Room k X.A) (hx : Passes (L2.CX X.prog X.w) X E) (ha : PA X (e :: es) (tPA M E gs))
    (hg : Gl X x := by rfl) (hdb : (x == ("__debug__" : Str)) = false := by decide) (he : starEach (e :: es) X.env = (false, eval e X.env) :: starEach es X.env := by rfl) (hpl : (backTo pos (starEach es X.env)).any (·.1) = false := by rfl) :
    PE X (.Call (.Name x p) (e :: es) [] pos) (tP M E (gF n φ gs)) := by
  obtain ⟨f, fd, ps, F, hk, hb, hm⟩ := W.ex
  exact PEup (pe_call F hr hg hm hk hb .nil hx ha hdb he hpl) fun σ H Q ⟨F, en, s, r, p⟩ => ⟨F, en, s, r, Post.bd p fun xs as F1 H1 e1 r1 p1 => by
    rw [List.append_nil]
    exact ⟨F1, as, e1.s, r1, p1⟩⟩
/-! ### - -/
def fNeg : D → Option D
  | .int i => some (.int (-i))
  | _ => none
theorem d_neg {e : Expr} {g : En → Oc D} (h : PE X e (tP M E g)) : PE X (.UnaryOp .USub e pos) (tP M E (g1 fNeg g)) :=
  PEup (pe_un un_neg h) fun σ H Q ⟨F, en, s, r, p⟩ => ⟨F, en, s, r, Post.bd p fun x a F1 H1 e1 r1 p1 => by
    cases r1 <;> first | exact p1.elim | exact ⟨_, rfl, p1.pure e1.s (.int _)⟩⟩
/-! ### how many jumps a code has -/
def fLenC (φ : List D → Oc D) : List D → Option D
  | [.code a b c] => match many 1 φ [.code a b c] with
    | .ok (.int n) => if 0 ≤ n ∧ n < 2 ^ 63 then some (.int n) else none
    | _ => none
  | _ => none
theorem cd_lenC {φ : List D → Oc D} {f : Addr} {fd : FuncData} {k : Nat} {ps : List Str} (F : FnOk X.prog X.w X.K X.mg X.base (L2.CX X.prog X.w) k f fd ps (spD M 1 φ)) (hs : PySem.W.findIn X.K (.ref M.C) "__len__" = some (some (.ref f))) (hf : PySem.W.isFn X.K (.ref f) = true) (hb : Binds X.K fd ps []) (hx : Passes (L2.CX X.prog X.w) X NoX) (hr : Room (k + 1) X.A) :
    CallD X M (.builtin "len") (fLenC φ) := CallRup (call_lenI F hs hf hb hx hr) fun xs H Q z => by
  obtain ⟨F0, ds, d, s, r, e, q⟩ := rD_inv z
  unfold fLenC at e
  split at e
  · rename_i a b c
    obtain ⟨x, rfl⟩ : ∃ x, xs = [x] := by
      cases r with
      | cons _ r => cases r; exact ⟨_, rfl⟩
    have r0 := r
    cases r with
    | cons ra r =>
      cases ra with
      | code hp r1 r2 r3 =>
        refine ⟨_, _, _, rfl, s.s _ _ hp, F0, _, s, r0, ?_⟩
        split at e
        · rename_i n z
          rw [z]
          split at e
          · rename_i c
            cases e
            intro v F' H' x rv
            cases rv
            exact ⟨n, rfl, c.1, c.2, q _ _ _ x (.int n)⟩
          · cases e
        · cases e
  · cases e
/-! ### lists of the def's own, longer -/
variable {F0 H0 G B H H1 F1 : Hp} {se : SE} {σ : L2.St} {D : Ends}
def qExt (i : Nat) (g : En → Oc Pl.D) : SE → SR := fun se => match ow? se i with
  | some ds => ocS (useE g se) fun d => (match d with
    | .lst es => if fit (ds.length + es.length) = true then .nx (se.set i (some (.ow (ds ++ es)))) else .bad
    | _ => .bad)
  | none => .bad
theorem s_ext {i : Nat} {x : Str} {e : Expr} {g : En → Oc Pl.D} {p1 p2 p3 : Pos} (hN : X.N[i]? = some x) (hv : Vis X.env.scope x) (he : PE X e (tP M E g))
    (hbase : attributeBase (.Name x p1) "extend" X.env (eval (.Name x p1) X.env) = eval (.Name x p1) X.env := by rfl)
    (hfew : ((backTo p3 (starEach [e] X.env)).all (fun x => !x.1) && (backToKw p3 (keywordEach [] X.env)).all (fun x => x.1.isSome)
      && decide ([e].length + ([] : List Keyword).length + (if ([] : List Keyword).isEmpty then 0 else 1) < 30)) = true := by rfl)
    (hline : (p2.endLine == p3.line) = true := by rfl) (hs : starEach [e] X.env = (false, eval e X.env) :: starEach [] X.env := by rfl) (hplain : (backTo p3 (starEach [] X.env)).any (·.1) = false := by rfl)
    (hs2 : swapsWith (.Call (.Attribute (.Name x p1) "extend" p2) [e] [] p3) none pos.line X.env = pure false := by rfl)
    (hd : (x == ("__debug__" : Str)) = false := by decide) (hcd : (x == ("__classdict__" : Str)) = false := by decide) :
    PS X (.Expr (.Call (.Attribute (.Name x p1) "extend" p2) [e] [] p3) pos) (tS M E (qExt i g)) :=
  PSup (ps_expr (pe_bm PySem.F.plainAttrs_list PySem.F.slot_list_extend PySem.F.type_list_extend mt_extend (pe_var hN hv hd hcd) (pa_cons he pa_nil hs) hbase hfew hline hs hplain) hs2) fun D σ H ⟨F0, H0, G, B, se, r, p⟩ => by
    unfold qExt at p
    split at p
    · rename_i ds z
      have z := ow?_eq z
      obtain ⟨q, xs, a, b, c, d⟩ := r.own z
      refine ⟨_, a, .inl ⟨rfl, xs, SqL.of c⟩, use_ok r (upE p fun d p v G' H' r' rv => ?_)⟩
      split at p
      · rename_i es
        split at p
        · rename_i f
          obtain ⟨q', xs', a', b', c', d'⟩ := r'.own z
          rw [a] at a'
          cases a'
          have f : _ + _ ≤ sizeLine := of_decide_eq_true f
          have l := d'.len
          cases rv with
          | lst hv rv =>
            have l2 := rv.len
            refine ⟨_, _, xs', _, rfl, rfl, c', r'.g.s.s _ _ hv, by rw [l, l2]; exact f, ?_⟩
            exact p _ _ _ _ (r'.put (lt_of_get z) a (.inl ⟨_, z⟩) b' (.inl ⟨_, rfl⟩) ⟨xs' ++ _, rfl, d'.app rv⟩)
        · exact p.elim
      · exact p.elim
    · exact p.elim
end
section
variable {P : Program} {w : World} {K : Frag} {mg : Str → Option Value} {base : Heap} {M : MC}
theorem defO {x qual : Str} {st : Stmt} {f : Addr} {fd : FuncData} {N ps : List Str} {k n : Nat} {s : SE → SR} (F : Fun K x qual st f fd) (S : FnScope N ps (defScope st)) (hn : ps.length = n)
    (hbody : ∀ (cdv : Value) (A : Around) (outer : List Env) (s0 : Shared) (H : Hp) (E : XK), Room k (A.deeper (envOfC qual (defScope st) s0.heap.objs.size f cdv)) →
      PSs (cxOf (L2.CX P w) P w K mg base N qual (defScope st) f cdv A outer s0 H E) (defBody st) (tS M E s)) : FnOk P w K mg base (L2.CX P w) (k + 1) f fd ps (spD M n (run N.length s)) :=
  F.okX S (fun vs H Q E h => by rw [spD_len h, hn]) fun cdv A outer s0 H vs Q E hr hsp => by
    obtain ⟨Fh, ds, sx, r, p⟩ := hsp
    refine ⟨_, hbody cdv A outer s0 H E hr, run_ok sx r ?_⟩
    unfold many at p
    split at p
    · exact p
    · exact p.elim
end
end Pl

set_option maxRecDepth 100000
set_option maxHeartbeats 4000000
namespace Fx
open PySem PySem.Spec PyProof.Rows L2
open PySem.W (Frag)
/-! ### how many unlike texts there are -/
def addS (l : List Str) (v : Str) : List Str := if v ∈ l then l else l ++ [v]
def nubS (l : List Str) : List Str := l.foldl addS []
theorem nubS_snoc (l : List Str) (v : Str) : nubS (l ++ [v]) = addS (nubS l) v := by
  unfold nubS
  rw [List.foldl_append]
  rfl
theorem mem_addS {l : List Str} {v x : Str} : x ∈ addS l v ↔ x ∈ l ∨ x = v := by
  unfold addS
  by_cases h : v ∈ l
  · rw [if_pos h]
    exact ⟨.inl, fun q => q.elim id fun e => e ▸ h⟩
  · rw [if_neg h]
    simp
theorem mem_nubL (l : List Str) (acc : List Str) (x : Str) : x ∈ l.foldl addS acc ↔ x ∈ acc ∨ x ∈ l := by
  induction l generalizing acc with
  | nil => simp
  | cons a r ih =>
    rw [List.foldl_cons, ih, mem_addS, List.mem_cons]
    constructor
    · rintro ((h | h) | h)
      · exact .inl h
      · exact .inr (.inl h)
      · exact .inr (.inr h)
    · rintro (h | h | h)
      · exact .inl (.inl h)
      · exact .inl (.inr h)
      · exact .inr h
theorem mem_nubS {l : List Str} {x : Str} : x ∈ nubS l ↔ x ∈ l := by
  unfold nubS
  rw [mem_nubL]
  simp
theorem len_addS (l : List Str) (v : Str) : (addS l v).length = if v ∈ l then l.length else l.length + 1 := by
  unfold addS
  split <;> simp
theorem len_nubL (l acc : List Str) : (l.foldl addS acc).length ≤ acc.length + l.length := by
  induction l generalizing acc with
  | nil => simp
  | cons a r ih =>
    rw [List.foldl_cons]
    have h := ih (addS acc a)
    have h2 := len_addS acc a
    split at h2 <;> (rw [List.length_cons]; omega)
theorem len_nubS (l : List Str) : (nubS l).length ≤ l.length := by
  have h := len_nubL l []
  simpa [nubS] using h
/-- at S: the set of the first i of xs -/
def SetAt (P : Program) (w : World) (h : Heap) (S : Addr) (l : List Str) : Prop := h.SetOf (PySem.strKind P w) S (fun k => decide (k ∈ l)) (nubS l).length
theorem SetAt.keep {P : Program} {w : World} {h h' : Heap} {S : Addr} {l : List Str} (x : SetAt P w h S l) (k : ∀ o, h.get? S = some o → h'.get? S = some o) : SetAt P w h' S l := by
  obtain ⟨o, es, ep, t, ho, r⟩ := x
  exact ⟨o, es, ep, t, k o ho, r⟩
section
variable {prog : Program} {w : World} {A : Around} {R : Result → Shared → Prop} {I : Addr} {fp wr : List Addr} {G : Array GenState → Array GenState → Prop} {n : Nat} {P : Nat → Value → Prop} {St : Nat → Shared → Prop}
theorem fillS (W : WalksS prog w A.in1 I fp wr G n P St) (S : Addr) (hSf : S ∉ fp) (xs : List Str) (hsz : xs.length = n) (hb : n + 1 < scanBound) (hval : ∀ i v, P i v → ∃ x t, xs[i]? = some x ∧ v = .str x t) (j : Nat) :
    ∀ (i : Nat) (s : Shared), i + j = n → St i s → SetAt prog w s.heap S (xs.take i) → (∀ s', Moved (S :: wr) G s s' → SetAt prog w s'.heap S xs → R (.ok (.ret .none)) s') →
      codeAny (model prog w) A (.builtin "set.update.loop" ⟨[.ref S, .ref I], []⟩) R s := by
  have nw : S ∉ wr := fun h => hSf (W.sub _ h)
  have up : ∀ b ∈ wr, b ∈ S :: wr := fun b h => List.mem_cons_of_mem _ h
  induction j with
  | zero =>
    intro i s hi st hS hR
    obtain rfl : i = n := by omega
    rw [List.take_of_length_le (by omega)] at hS
    refine codeAny_builtin F.entry_set_update_loop ?_
    rw [Around.under_plainId F.plain_set_update_loop _]
    exact wpAny_bind (m := pyNext (.ref I)) (W.done s _ _ st fun s' m => wpAny_pure (hR s' (m.mono up) (hS.keep fun o e => m.heap S o nw e)))
  | succ j ih =>
    intro i s hi st hS hR
    have hlt : i < n := by omega
    refine codeAny_builtin F.entry_set_update_loop ?_
    rw [Around.under_plainId F.plain_set_update_loop _]
    refine wpAny_bind (m := pyNext (.ref I)) (W.item i s _ _ hlt st fun v s' hP st' m => ?_)
    obtain ⟨x, t, hx, rfl⟩ := hval i v hP
    have hS' := hS.keep (h' := s'.heap) fun o e => m.heap S o nw e
    show wpAny _ A.in1 (holding [Value.str x t] (setAdd S (.str x t)) >>= _) _ _ s'
    refine wpAny_bind (wpAny_holding ?_)
    unfold setAdd
    refine wpAny_holding (wpAny_bind ((PySem.strKind prog w).pyHash (k := x) (strKind_is _ _ _ _) ?_))
    have room : (nubS (xs.take i)).length + 1 < scanBound := by
      have q := len_nubS (xs.take i)
      rw [List.length_take] at q
      omega
    refine wpAny_setAddHashed_of (knd := PySem.strKind prog w) (s := { s' with toks := s'.toks + 1 }) (strKind_is _ _ _ _) rfl hS' room fun h' sb new => ?_
    have e1 : xs.take (i + 1) = xs.take i ++ [x] := by
      rw [List.take_succ, hx]
      rfl
    have new' : SetAt prog w h' S (xs.take (i + 1)) := by
      unfold SetAt
      rw [e1, nubS_snoc, len_addS]
      refine SetOf_congr new (fun k => ?_) ?_
      · by_cases c1 : k ∈ xs.take i <;> by_cases c2 : k = x <;> simp [c1, c2]
      · by_cases c : x ∈ xs.take i
        · rw [if_pos (by simpa using c), if_pos (mem_nubS.mpr c)]
        · rw [if_neg (by simpa using c), if_neg (fun q => c (mem_nubS.mp q))]
    refine wpAny_pure ⟨plainId_quiet F.plain_set_update_loop _, ih (i + 1) _ (by omega) (W.frame _ s' _ _ st' (Nat.le_succ _) fun b hb' o e => ?_) new' fun s2 m2 hS2 => ?_⟩
    · exact (sb.2 b fun z => hSf (z ▸ hb')).trans e
    · exact hR s2 (Moved.trans W.gtrans ((m.mono up).then_heap (Nat.le_succ _) fun b o hb' e => (sb.2 b fun z => hb' (z ▸ List.mem_cons_self)).trans e) m2) hS2
end
abbrev noSet (led : Bool) : Obj := { cls := .type "set", dict := none, data := .set #[] 0 (.fresh 0 0 led) }
section
variable {prog : Program} {w : World} {A : Around} {E : Value → Shared → Prop} {s : Shared}
/-- set(xs), xs a list of texts -/
theorem call_setS {l : Addr} {items : Array Value} {xs : List Str} {Q : Value → Shared → Prop} (hh : A.handled = none) (hl : s.heap.IsList l items) (hz : xs.length = items.size) (hv : ∀ (i : Nat) (v : Value), items[i]? = some v → ∃ x t, xs[i]? = some x ∧ v = Value.str x t) (hb : items.size + 1 < scanBound)
    (h : ∀ (h' : Heap) (tk : Nat), SetAt prog w h' s.heap.objs.size xs → (∀ b o, b < s.heap.objs.size → s.heap.get? b = some o → h'.get? b = some o) → Q (.ref s.heap.objs.size) { s with heap := h', toks := tk }) :
    wpAny (model prog w) A (call (.type "set") [.ref l]) Q E s := by
  obtain ⟨c, tl, hm⟩ := PySem.F.called_set.mro
  have f1 := PySem.F.called_set.made
  have f2 := PySem.F.called_set.sub
  refine wpAny_call (codeAny_of_tree (show wpAny _ _ (callAny (.type "set") _) _ _ _ from ?_))
  refine wpAny_pure ⟨Code.quiet_builtin _ (by decide +kernel), codeAny_builtin PySem.F.entry_type_call ?_⟩
  rw [Around.under_plain (weight_type_call_type "set" [.ref l] []) rfl]
  have f3 := PySem.F.called_set.notType
  have f4 := PySem.F.called_set.canCreate
  have f5 := PySem.F.typeCall_set_1 (.ref l)
  repeat (any_goals (first | assumption | wp_step))
  refine codeAny_mono (code_set_new_1 (.ref l) (E := E) (Q₁ := fun ob t => ∃ led : Bool, ob = .ref s.heap.objs.size ∧ t = { s with heap := s.heap.push (noSet led) }) fun led => ⟨led, rfl, rfl⟩) fun r t hr => ?_
  cases r with
  | error e => exact hr
  | ok fl =>
    cases fl with
    | ret ob =>
      obtain ⟨led, rfl, rfl⟩ := hr
      have hS : (s.heap.push (noSet led)).get? s.heap.objs.size = some (noSet led) := Heap.get?_push_size _ rfl
      have hT : Shared.TypeIs { s with heap := s.heap.push (noSet led) } (.ref s.heap.objs.size) "set" := ⟨_, hS, rfl⟩
      have f6 := PySem.F.called_set.init.lookup
      have f7 := PySem.F.called_set.init.bind (.ref s.heap.objs.size)
      repeat (any_goals (first | assumption | wp_step))
      refine codeAny_mono (codeAny_call_builtin (R := wants (fun r t => r = .none ∧ ∃ h' tk, t = { s with heap := h', toks := tk } ∧ SetAt prog w h' s.heap.objs.size xs ∧ (∀ b o, b < s.heap.objs.size → s.heap.get? b = some o → h'.get? b = some o)) E)
          PySem.F.called_set.init.plain PySem.F.entry_set_init (check_set_init_1 hT ?_)) fun r2 t2 h2 => ?_
      · obtain ⟨⟨oc, od, dt, sl⟩, ho, hc, nl, hd⟩ := hl
        replace hc : oc = .type "list" := hc
        replace hd : dt = .seq items nl := hd
        subst hc hd
        have ho1 := Heap.get?_push_of_some (noSet led) ho
        have g1 := PySem.F.sub_list_set
        have g2 := PySem.F.sub_list_frozenset
        have g3 : (Value.type "list" == Value.type "dict") = false := by decide
        have hl1 : (s.heap.push (noSet led)).IsList l items := ⟨_, ho1, rfl, nl, rfl⟩
        unfold Builtin.«set.__init__» noKeywords Builtin.Frozenset.updateFrom
        generalize ep : pyIter = PI
        wp_walk
        subst ep
        refine wpAny_pyIter_list hl1 (wpAny_bind (wpAny_runValue ?_))
        have sz := Heap.size_push s.heap (noSet led)
        have ll : l < s.heap.objs.size := Heap.lt_size ho
        have n1 : l ≠ (s.heap.push (noSet led)).objs.size := by
          rw [Heap.size_push]
          exact Nat.ne_of_lt (Nat.lt_succ_of_lt ll)
        have n2 : s.heap.objs.size ∉ [(s.heap.push (noSet led)).objs.size, l] := fun z => by
          rw [Heap.size_push] at z
          rcases List.mem_cons.mp z with z | z
          · exact absurd z (Nat.ne_of_lt (Nat.lt_succ_self _))
          · exact absurd (List.mem_singleton.mp z) (Nat.ne_of_gt ll)
        refine fillS ((Walks.list (by simp [hh]) _ l n1 items).toS) s.heap.objs.size n2 xs hz hb hv items.size 0 _ (Nat.zero_add _) ⟨⟨_, Heap.get?_push_size _ rfl, rfl, rfl⟩, (hl1.push _)⟩ ?zfill ?zdone
        case zfill => exact SetOf_congr ((setObjOf_fresh (knd := PySem.strKind prog w) led).setOf (Heap.get?_push_of_some _ hS) (by unfold scanBound; omega)) (fun k => by simp) rfl
        case zdone =>
          rintro ⟨h', g', d', tk', os'⟩ m hS'
          have e1 : g' = s.gens := m.gens
          have e2 : d' = s.drawn := m.drawn
          have e3 : os' = s.os := m.os
          subst e1 e2 e3
          show wpAny _ _ _ _ _ _
          refine wpAny_pure (show wpAny _ _ (ret Value.none) _ _ _ from wpAny_pure ⟨rfl, h', tk', rfl, hS', fun b o hb' e => ?_⟩)
          refine m.heap b o (fun z => ?_) (Heap.get?_push_of_some _ (Heap.get?_push_of_some _ e))
          rw [Heap.size_push] at z
          rcases List.mem_cons.mp z with z | z
          · exact absurd z (Nat.ne_of_lt hb')
          · exact absurd (List.mem_singleton.mp z) (Nat.ne_of_lt (Nat.lt_succ_of_lt hb'))
      · cases r2 with
        | error e => exact h2
        | ok fl2 =>
          cases fl2 with
          | ret r =>
            obtain ⟨rfl, h', tk, rfl, a1, a2⟩ := h2
            repeat (any_goals (first | assumption | wp_step))
            exact h _ _ a1 a2
          | _ => exact h2.elim
    | _ => exact hr.elim
end
/-- len(set(e)), e a list of texts -/
def tLenNub (K : Frag) (ta : TE) : TE := fun σ H Q => ta σ H fun x H1 => ∃ (l : Addr) (xs : List Str), x = .ref l ∧ SqL K H1 l (xs.map V.str) ∧ xs.length + 1 < scanBound ∧ Q (.int (nubS xs).length) H1
theorem pe_lenNub {X : Cx} {a : Expr} {ta : TE} {p p2 q pos : Pos} (hg : Gl X "len") (hm : X.mg "len" = none) (hg2 : Gl X "set") (hm2 : X.mg "set" = none) (ha : PE X a ta) (hc : X.calm = true := by rfl) (na : starEach [a] X.env = (false, eval a X.env) :: starEach [] X.env := by rfl) :
    PE X (.Call (.Name "len" p) [.Call (.Name "set" p2) [a] [] q] [] pos) (tLenNub X.K ta) := by
  refine ⟨fun pins s σ H Q I h => ?_⟩
  refine Call_ (ld_blt I hg hm PySem.boot_len ?_)
  refine PyProof.Rows.callWith_builtin1 (PyProof.Rows.args_cons ?_ rfl) rfl rfl
  refine Call_ (ld_blt I hg2 hm2 PyProof.Rows.boot_set ?_)
  refine PyProof.Rows.callWith_type1 (PyProof.Rows.args_cons (thn (ha.run pins s σ H _ I h) fun v s1 ⟨x, H1, I1, r1, q1⟩ => PyProof.Rows.args_nil ?_) na) na rfl
  obtain ⟨l, xs, rfl, hq, hb, q1⟩ := q1
  cases r1
  obtain ⟨its, r, pl, hz⟩ := I1.list hq
  have hl : its.toArray.size = xs.length := by rw [List.size_toArray, ← r.length, List.length_map]
  refine call_setS (I1.ok.hd hc) pl.isList (xs := xs) hl.symm (fun i v hv => ?_) (by omega) fun h' tk hS hk => ?_
  · have hi : i < xs.length := by
      have q := (Array.getElem?_eq_some_iff.mp hv).1
      omega
    obtain ⟨u, hu, t, rfl⟩ := r.get (i := i) (x := .str (xs[i]'hi)) (by rw [List.getElem?_map, List.getElem?_eq_getElem hi]; rfl)
    refine ⟨_, t, List.getElem?_eq_getElem hi, ?_⟩
    have e : its.toArray[i]? = some v := hv
    rw [List.getElem?_toArray, hu] at e
    exact (Option.some.inj e).symm
  · refine PyProof.Rows.args_nil ?_
    obtain ⟨o, es, ep, t, ho, hex, hd, _, _, _, hf, hn⟩ := hS
    have I2 : Inv X pins σ H1 { s1 with heap := h', toks := tk } := I1.kept fun b o e => hk b o (Heap.lt_size e) e
    refine call_len_set ho hex hd hf (by rw [hn]; have := len_nubS xs; unfold scanBound at hb; omega) ⟨.int (nubS xs).length, H1, I2.tok _, ⟨_, by rw [hn]⟩, q1⟩
end Fx

set_option maxRecDepth 100000
set_option maxHeartbeats 4000000
namespace Fx
open PySem PySem.Spec PyProof.Rows L2
open PySem.W (Frag)
/-! ### sets of texts that are walked -/
def txOf (e : Int × Value) : Str := match e.2 with
  | .str x _ => x
  | _ => ⟨#[]⟩
def TxE (P : Program) (w : World) (e : Int × Value) : Prop := ∃ x tk, e.2 = Value.str x tk ∧ e.1 = (PySem.strKind P w).hash x
abbrev txs (es : Array (Int × Value)) : List Str := es.toList.map txOf
/-- the set of the texts of l at a -/
def TxSet (P : Program) (w : World) (h : Heap) (a : Addr) (l : List Str) : Prop :=
  ∃ o es ep t, h.get? a = some o ∧ o.ExactSet ∧ o.data = .set es ep t ∧ (∀ e ∈ es.toList, TxE P w e) ∧ (txs es).Nodup ∧ (∀ x, x ∈ txs es ↔ x ∈ l) ∧
    es.size < scanBound ∧ t.fits es.size = true ∧ Ris t.place.toList ∧ (w.params.followText "set-order" = true ∨ t.led = true)
section
variable {P : Program} {w : World} {h h' : Heap} {a : Addr} {l : List Str}
theorem TxSet.keep (R : TxSet P w h a l) (k : ∀ o, h.get? a = some o → h'.get? a = some o) : TxSet P w h' a l := by
  obtain ⟨o, es, ep, t, e1, r⟩ := R
  exact ⟨o, es, ep, t, k o e1, r⟩
theorem tx_elems {l : List (Int × Value)} (g : ∀ e ∈ l, TxE P w e) : ElemsOf (PySem.strKind P w) l := fun e he => by
  obtain ⟨x, tk, h1, h2⟩ := g e he
  exact ⟨⟨x, by rw [h1]; exact strKind_is P w x tk, h2⟩, by rw [h1] <;> rfl⟩
theorem tx_is {e : Int × Value} (g : TxE P w e) (x : Str) : (PySem.strKind P w).is x e.2 = true ↔ txOf e = x := by
  obtain ⟨y, tk, h1, _⟩ := g
  have e2 : txOf e = y := by
    unfold txOf
    rw [h1]
  rw [e2, h1]
  constructor
  · intro q
    exact (PySem.strKind P w).inj _ _ _ (strKind_is P w y tk) q
  · rintro rfl
    exact strKind_is P w y tk
theorem tx_mem {l : List (Int × Value)} (g : ∀ e ∈ l, TxE P w e) (x : Str) : x ∈ l.map txOf ↔ ∃ e ∈ l, (PySem.strKind P w).is x e.2 = true := by
  rw [List.mem_map]
  exact ⟨fun ⟨e, he, q⟩ => ⟨e, he, (tx_is (g e he) x).2 q⟩, fun ⟨e, he, q⟩ => ⟨e, he, (tx_is (g e he) x).1 q⟩⟩
end
section
variable {P : Program} {w : World} {A : Around} {E : Value → Shared → Prop} {s : Shared} {a : Addr} {l : List Str}
theorem tx_tail {g : Bool → Sem Unit} (hg : ∀ (b : Bool) (s1 : Shared) (Q1 : Unit → Shared → Prop), Q1 () s1 → wpAny (model P w) A (g b) Q1 E s1)
    {o : Obj} {es : Array (Int × Value)} {ep : Nat} {t : SetTable} (eo : s.heap.get? a = some o) (ex : o.ExactSet) (ed : o.data = .set es ep t)
    {fs : Array (Int × Value)} {u : SetTable} {l' : List Str} (gd : ∀ e ∈ fs.toList, TxE P w e) (nd : (txs fs).Nodup) (mm : ∀ x, x ∈ txs fs ↔ x ∈ l')
    (bd : fs.size < scanBound) (ft : u.fits fs.size = true) (rs : Ris u.place.toList) (ld : w.params.followText "set-order" = true ∨ u.led = true) {dm : Bool} {R : Option Bool → Shared → Prop}
    (fin : ∀ h', Heap.SameBut a s.heap h' → TxSet P w h' a l' → R (some true) { s with heap := h' }) :
    wpAny (model P w) A (do
        storeSet a fs u
        if (!dm && u.tooFull) = true then do
            g (relayAll u fs (SetTable.grown fs.size)).2.2
            storeSet a (relayAll u fs (SetTable.grown fs.size)).1 (relayAll u fs (SetTable.grown fs.size)).2.1
            pure (some true)
          else pure (some true)) R E s := by
  refine wpAny_bind (wpAny_storeSet_of eo ed ?_ (fits_of_scanBound bd))
  have eo1 := store_at (es' := fs) (t' := u) eo ed
  have sb := Heap.SameBut.update s.heap a (Obj.putSet fs u)
  split
  · have p1 := relayAll_perm u fs (SetTable.grown fs.size)
    have p2 := relayAll_fits u fs (SetTable.grown fs.size)
    have p3 := relayAll_ris u fs (SetTable.grown fs.size)
    have p4 := relayAll_led u fs (SetTable.grown fs.size)
    generalize relayAll u fs (SetTable.grown fs.size) = Z at p1 p2 p3 p4 ⊢
    obtain ⟨gs, v, gave⟩ := Z
    dsimp only at p1 p2 p3 p4 ⊢
    have z1 : gs.size = fs.size := by rw [← Array.length_toList, p1.length_eq, Array.length_toList]
    have z2 : gs.size < scanBound := by rw [z1]; exact bd
    refine wpAny_bind (hg _ _ _ (wpAny_bind (wpAny_storeSet_of eo1 rfl ?_ (fits_of_scanBound z2))))
    have eo2 := store_at (es' := gs) (t' := v) eo1 rfl
    refine wpAny_pure (fin _ (sb.trans (Heap.SameBut.update _ a _)) ?_)
    exact ⟨_, gs, _, v, eo2, ex, rfl, fun e he => gd e (p1.mem_iff.mp he), (p1.map txOf).nodup_iff.mpr nd, fun x => (p1.map txOf).mem_iff.trans (mm x), z2, p2, p3,
      ld.imp id fun z => by rw [p4]; exact z⟩
  · exact wpAny_pure (fin _ sb ⟨_, fs, _, u, eo1, ex, rfl, gd, nd, mm, bd, ft, rs, ld⟩)
theorem tx_size {P : Program} {w : World} {h : Heap} (R : TxSet P w h a l) : ∃ o es ep t, h.get? a = some o ∧ o.data = .set es ep t ∧ es.size = (nubS l).length := by
  obtain ⟨o, es, ep, t, e1, _, e3, _, nd, mm, _⟩ := R
  refine ⟨o, es, ep, t, e1, e3, ?_⟩
  have n2 : (nubS l).Nodup := by
    unfold nubS
    have : ∀ (r acc : List Str), acc.Nodup → (r.foldl addS acc).Nodup := fun r => by
      induction r with
      | nil => exact fun acc h => h
      | cons b r ih =>
        intro acc hc
        rw [List.foldl_cons]
        refine ih _ ?_
        unfold addS
        split
        · exact hc
        · rename_i nb
          rw [List.nodup_append]
          exact ⟨hc, by simp, fun x hx y hy => by
            obtain rfl := List.mem_singleton.mp hy
            exact fun z => nb (z ▸ hx)⟩
    exact this l [] (by simp)
  have pm : (txs es).Perm (nubS l) := (List.perm_ext_iff_of_nodup nd n2).mpr fun x => by rw [mm x, mem_nubS]
  have q := pm.length_eq
  rw [List.length_map, Array.length_toList] at q
  exact q
theorem tx_add {x : Str} {tk : Tok} {Q : Bool → Shared → Prop} (R : TxSet P w s.heap a l) (room : (nubS l).length + 1 < scanBound)
    (fin : ∀ (b : Bool) h', Heap.SameBut a s.heap h' → TxSet P w h' a (l ++ [x]) → Q b { s with heap := h' }) :
    wpAny (model P w) A (setAddHashed a (.str x tk) ((PySem.strKind P w).hash x)) Q E s := by
  have zz := tx_size R
  obtain ⟨o, es, ep, t, eo, ex, ed, g, nd, mm, bd, ft, rs, ld⟩ := R
  obtain ⟨o', es', ep', t', q1, q2, zs⟩ := zz
  rw [eo] at q1
  cases q1
  rw [ed] at q2
  cases q2
  have hk : (PySem.strKind P w).is x (.str x tk) = true := strKind_is P w x tk
  have sc : (Value.str x tk).scannable = true := rfl
  have el : ElemsOf (PySem.strKind P w) es.toList := tx_elems g
  unfold setAddHashed setAddHashedIn
  refine wpAny_holding (wpAny_bind (wpAny_setState_of eo ed ft ?_))
  dsimp only
  rw [byScan_of sc bd el]
  simp only [↓reduceIte]
  unfold setAddByScan
  refine wpAny_bind (wpAny_bind (wpAny_rule (wpAny_bind (wpAny_setScan_of hk eo ed ft el ?_))))
  cases hf : List.findIdx? (fun e => (PySem.strKind P w).is x e.2) es.toList with
  | some j =>
    dsimp only
    obtain ⟨hj, pj, _⟩ := List.findIdx?_eq_some_iff_getElem.mp hf
    have xm : x ∈ l := (mm x).1 ((tx_mem (P := P) (w := w) g x).2 ⟨es.toList[j], List.getElem_mem hj, pj⟩)
    refine wpAny_pure (wpAny_pure (fin _ s.heap (Heap.SameBut.refl a s.heap) ⟨o, es, ep, t, eo, ex, ed, g, nd, fun y => ?_, bd, ft, rs, ld⟩))
    rw [mm y, List.mem_append, List.mem_singleton]
    exact ⟨.inl, fun z => z.elim id fun e => e ▸ xm⟩
  | none =>
    dsimp only
    have xn : x ∉ txs es := fun z => by
      obtain ⟨e, he, q⟩ := (tx_mem (P := P) (w := w) g x).1 z
      have c := List.findIdx?_eq_none_iff.mp hf e he
      rw [q] at c
      cases c
    have gw : ∀ (b : Bool) {s1 : Shared} {Q1 : Unit → Shared → Prop}, Q1 () s1 → wpAny (model P w) A (match b with | true => rule "set.scan.the-table-gave-way" | false => pure ()) Q1 E s1 :=
      fun b s1 Q1 q => by cases b <;> first | exact wpAny_pure q | exact wpAny_rule q
    have p1 := layNew_perm t es ((PySem.strKind P w).hash x) (.str x tk)
    have p2 := layNew_fits t es ((PySem.strKind P w).hash x) (.str x tk)
    have p3 := layNew_ris t es ((PySem.strKind P w).hash x) (.str x tk) rs
    have p4 := layNew_led t es ((PySem.strKind P w).hash x) (.str x tk)
    generalize layNew t es ((PySem.strKind P w).hash x) (.str x tk) = Z at p1 p2 p3 p4 ⊢
    obtain ⟨fs, u, dm, gave⟩ := Z
    dsimp only at p1 p2 p3 p4 ⊢
    rw [Array.toList_push] at p1
    have pc : fs.toList.Perm (((PySem.strKind P w).hash x, Value.str x tk) :: es.toList) := p1.trans (List.perm_append_singleton _ _)
    have pk : (txs fs).Perm (x :: txs es) := pc.map txOf
    have g1 : ∀ e ∈ fs.toList, TxE P w e := fun e he => by
      rcases List.mem_cons.mp (pc.mem_iff.mp he) with z | z
      · exact ⟨x, tk, by rw [z], by rw [z]⟩
      · exact g e z
    have nd1 : (txs fs).Nodup := pk.nodup_iff.mpr (List.nodup_cons.mpr ⟨xn, nd⟩)
    have m1 : ∀ y, y ∈ txs fs ↔ y ∈ l ++ [x] := fun y => by
      rw [pk.mem_iff, List.mem_cons, mm y, List.mem_append, List.mem_singleton]
      exact Or.comm
    have zf : fs.size = es.size + 1 := by rw [← Array.length_toList, pc.length_eq, List.length_cons, Array.length_toList]
    have b1 : fs.size < scanBound := by rw [zf, zs]; exact room
    have ld1 : w.params.followText "set-order" = true ∨ u.led = true := ld.imp id fun z => by rw [p4]; exact z
    refine wpAny_bind (gw _ ?_)
    split
    · refine wpAny_bind ?_
      rw [hashByValue_scannable 8 sc]
      refine wpAny_pure (tx_tail (l' := l ++ [x]) ?_ eo ex ed g1 nd1 m1 b1 ?_ ?_ ?_ ?_)
      · intro b s1 Q1 q; cases b <;> first | exact wpAny_pure q | exact wpAny_rule q
      · first | (split <;> first | exact p2 | exact SetTable.fits_plain_off p2) | exact p2
      · first | (split <;> exact p3) | exact p3
      · first | (split <;> exact ld1) | exact ld1
      · intro h' sb r; dsimp only; exact wpAny_pure (fin _ h' sb r)
    · refine wpAny_bind (wpAny_pure ?_)
      simp only [↓reduceIte]
      refine tx_tail (l' := l ++ [x]) ?_ eo ex ed g1 nd1 m1 b1 p2 p3 ld1 ?_
      · intro b s1 Q1 q; cases b <;> first | exact wpAny_pure q | exact wpAny_rule q
      · intro h' sb r; dsimp only; exact wpAny_pure (fin _ h' sb r)
end
section
variable {prog : Program} {w : World} {A : Around} {R : Result → Shared → Prop} {I : Addr} {fp wr : List Addr} {G : Array GenState → Array GenState → Prop} {n : Nat} {P : Nat → Value → Prop} {St : Nat → Shared → Prop}
theorem fillT (W : WalksS prog w A.in1 I fp wr G n P St) (S : Addr) (hSf : S ∉ fp) (xs : List Str) (hsz : xs.length = n) (hb : n + 1 < scanBound) (hval : ∀ i v, P i v → ∃ x t, xs[i]? = some x ∧ v = .str x t) (j : Nat) :
    ∀ (i : Nat) (s : Shared), i + j = n → St i s → TxSet prog w s.heap S (xs.take i) → (∀ s', Moved (S :: wr) G s s' → TxSet prog w s'.heap S xs → R (.ok (.ret .none)) s') →
      codeAny (model prog w) A (.builtin "set.update.loop" ⟨[.ref S, .ref I], []⟩) R s := by
  have nw : S ∉ wr := fun h => hSf (W.sub _ h)
  have up : ∀ b ∈ wr, b ∈ S :: wr := fun b h => List.mem_cons_of_mem _ h
  induction j with
  | zero =>
    intro i s hi st hS hR
    obtain rfl : i = n := by omega
    rw [List.take_of_length_le (by omega)] at hS
    refine codeAny_builtin F.entry_set_update_loop ?_
    rw [Around.under_plainId F.plain_set_update_loop _]
    exact wpAny_bind (m := pyNext (.ref I)) (W.done s _ _ st fun s' m => wpAny_pure (hR s' (m.mono up) (hS.keep fun o e => m.heap S o nw e)))
  | succ j ih =>
    intro i s hi st hS hR
    have hlt : i < n := by omega
    refine codeAny_builtin F.entry_set_update_loop ?_
    rw [Around.under_plainId F.plain_set_update_loop _]
    refine wpAny_bind (m := pyNext (.ref I)) (W.item i s _ _ hlt st fun v s' hP st' m => ?_)
    obtain ⟨x, t, hx, rfl⟩ := hval i v hP
    have hS2 := hS.keep (h' := s'.heap) fun o e => m.heap S o nw e
    show wpAny _ A.in1 (holding [Value.str x t] (setAdd S (.str x t)) >>= _) _ _ s'
    refine wpAny_bind (wpAny_holding ?_)
    unfold setAdd
    refine wpAny_holding (wpAny_bind ((PySem.strKind prog w).pyHash (k := x) (strKind_is _ _ _ _) ?_))
    have room : (nubS (xs.take i)).length + 1 < scanBound := by
      have q := len_nubS (xs.take i)
      rw [List.length_take] at q
      omega
    refine tx_add (s := { s' with toks := s'.toks + 1 }) hS2 room fun b h' sb new => ?_
    have e1 : xs.take (i + 1) = xs.take i ++ [x] := by
      rw [List.take_succ, hx]
      rfl
    rw [← e1] at new
    refine wpAny_pure ⟨plainId_quiet F.plain_set_update_loop _, ih (i + 1) _ (by omega) (W.frame _ s' _ _ st' (Nat.le_succ _) fun b hb' o e => ?_) new fun s2 m2 hS3 => ?_⟩
    · exact (sb.2 b fun z => hSf (z ▸ hb')).trans e
    · exact hR s2 (Moved.trans W.gtrans ((m.mono up).then_heap (Nat.le_succ _) fun b o hb' e => (sb.2 b fun z => hb' (z ▸ List.mem_cons_self)).trans e) m2) hS3
end
abbrev freshT (w : World) : Obj := { cls := .type "set", dict := none, data := .set #[] 0 (.fresh 0 0 (!w.params.followText "set-order")) }
section
variable {prog : Program} {w : World} {A : Around} {E : Value → Shared → Prop} {s : Shared}
theorem code_set_ledT (a : Value) {Q1 : Value → Shared → Prop} (h : Q1 (.ref s.heap.objs.size) { s with heap := s.heap.push (freshT w) }) :
    codeAny (model prog w) A (.call (.builtin "set.__new__") ⟨[.type "set", a], []⟩) (wants Q1 E) s := by
  refine codeAny_of_tree ?_
  show wpAny _ A.in1 (do
    checkBuiltinCall "set.__new__" ⟨[.type "set", a], []⟩
    again (.builtin "set.__new__" ⟨[.type "set", a], []⟩)) _ _ s
  refine wpAny_bind (wpAny_of_eq (F.newCall_set_1 a) (wpAny_pure ⟨plainId_quiet F.plain_set_new _, codeAny_builtin (F.entry_set_new) ?_⟩))
  rw [Around.under_plainId F.plain_set_new _]
  unfold Builtin.«set.__new__» Builtin.Frozenset.newClass
  have hsub := sub_set_self
  obtain ⟨hp, g, d, tk, os⟩ := s
  dsimp only
  wp_walk
  refine wpAny_askSetting (wpAny_pure ?_)
  dsimp only
  simp only [newObj]
  refine wpAny_bind (wpAny_alloc (wpAny_pure ?_))
  exact wpAny_pure h
theorem fresh_tx {h : Heap} : TxSet prog w (h.push (freshT w)) h.objs.size [] :=
  ⟨_, #[], 0, _, Heap.get?_push_size _ rfl, ⟨rfl, rfl, rfl⟩, rfl, (fun e he => by simp at he), (by simp [txs]), (fun k => by simp [txs]), (by decide), (by rfl), List.Pairwise.nil, by
    show _ ∨ (!w.params.followText "set-order") = true
    cases w.params.followText "set-order"
    · exact .inr rfl
    · exact .inl rfl⟩
/-- set(xs), xs a list of texts -/
theorem call_setT {l : Addr} {items : Array Value} {xs : List Str} {Q : Value → Shared → Prop} (hh : A.handled = none) (hl : s.heap.IsList l items) (hz : xs.length = items.size) (hv : ∀ (i : Nat) (v : Value), items[i]? = some v → ∃ x t, xs[i]? = some x ∧ v = .str x t) (hb : items.size + 1 < scanBound)
    (h : ∀ (h' : Heap) (tk : Nat), TxSet prog w h' s.heap.objs.size xs → s.heap.objs.size < h'.objs.size → (∀ b o, b < s.heap.objs.size → s.heap.get? b = some o → h'.get? b = some o) → Q (.ref s.heap.objs.size) { s with heap := h', toks := tk }) :
    wpAny (model prog w) A (call (.type "set") [.ref l]) Q E s := by
  obtain ⟨c, tl, hm⟩ := PySem.F.called_set.mro
  have f1 := PySem.F.called_set.made
  have f2 := PySem.F.called_set.sub
  refine wpAny_call (codeAny_of_tree (show wpAny _ _ (callAny (.type "set") _) _ _ _ from ?_))
  refine wpAny_pure ⟨Code.quiet_builtin _ (by decide +kernel), codeAny_builtin PySem.F.entry_type_call ?_⟩
  rw [Around.under_plain (weight_type_call_type "set" [.ref l] []) rfl]
  have f3 := PySem.F.called_set.notType
  have f4 := PySem.F.called_set.canCreate
  have f5 := PySem.F.typeCall_set_1 (.ref l)
  repeat (any_goals (first | assumption | wp_step))
  refine codeAny_mono (code_set_ledT (.ref l) (E := E) (Q1 := fun ob t => ob = .ref s.heap.objs.size ∧ t = { s with heap := s.heap.push (freshT w) }) ⟨rfl, rfl⟩) fun r t hr => ?_
  cases r with
  | error e => exact hr
  | ok fl =>
    cases fl with
    | ret ob =>
      obtain ⟨rfl, rfl⟩ := hr
      have hS : (s.heap.push (freshT w)).get? s.heap.objs.size = some (freshT w) := Heap.get?_push_size _ rfl
      have hT : Shared.TypeIs { s with heap := s.heap.push (freshT w) } (.ref s.heap.objs.size) "set" := ⟨_, hS, rfl⟩
      have f6 := PySem.F.called_set.init.lookup
      have f7 := PySem.F.called_set.init.bind (.ref s.heap.objs.size)
      repeat (any_goals (first | assumption | wp_step))
      refine codeAny_mono (codeAny_call_builtin (R := wants (fun r t => r = .none ∧ ∃ h' tk, t = { s with heap := h', toks := tk } ∧ TxSet prog w h' s.heap.objs.size xs ∧ s.heap.objs.size < h'.objs.size ∧ (∀ b o, b < s.heap.objs.size → s.heap.get? b = some o → h'.get? b = some o)) E)
          PySem.F.called_set.init.plain PySem.F.entry_set_init (check_set_init_1 hT ?_)) fun r2 t2 h2 => ?_
      · obtain ⟨⟨oc, od, dt, sl⟩, ho, hc, nl, hd⟩ := hl
        replace hc : oc = .type "list" := hc
        replace hd : dt = .seq items nl := hd
        subst hc hd
        have ho1 := Heap.get?_push_of_some (freshT w) ho
        have g1 := PySem.F.sub_list_set
        have g2 := PySem.F.sub_list_frozenset
        have g3 : (Value.type "list" == Value.type "dict") = false := by decide
        have hl1 : (s.heap.push (freshT w)).IsList l items := ⟨_, ho1, rfl, nl, rfl⟩
        unfold Builtin.«set.__init__» noKeywords Builtin.Frozenset.updateFrom
        generalize ep : pyIter = PI
        wp_walk
        subst ep
        refine wpAny_pyIter_list hl1 (wpAny_bind (wpAny_runValue ?_))
        have sz := Heap.size_push s.heap (freshT w)
        have ll : l < s.heap.objs.size := Heap.lt_size ho
        have n1 : l ≠ (s.heap.push (freshT w)).objs.size := by
          rw [Heap.size_push]
          exact Nat.ne_of_lt (Nat.lt_succ_of_lt ll)
        have n2 : s.heap.objs.size ∉ [(s.heap.push (freshT w)).objs.size, l] := fun z => by
          rw [Heap.size_push] at z
          rcases List.mem_cons.mp z with z | z
          · exact absurd z (Nat.ne_of_lt (Nat.lt_succ_self _))
          · exact absurd (List.mem_singleton.mp z) (Nat.ne_of_gt ll)
        refine fillT ((Walks.list (by simp [hh]) _ l n1 items).toS) s.heap.objs.size n2 xs hz hb hv items.size 0 _ (Nat.zero_add _) ⟨⟨_, Heap.get?_push_size _ rfl, rfl, rfl⟩, (hl1.push _)⟩ ?zfill ?zdone
        case zfill => exact fresh_tx.keep fun o e => Heap.get?_push_of_some _ e
        case zdone =>
          rintro ⟨h', g', d', tk', os'⟩ m hS'
          have e1 : g' = s.gens := m.gens
          have e2 : d' = s.drawn := m.drawn
          have e3 : os' = s.os := m.os
          subst e1 e2 e3
          show wpAny _ _ _ _ _ _
          refine wpAny_pure (show wpAny _ _ (ret Value.none) _ _ _ from wpAny_pure ⟨rfl, h', tk', rfl, hS', ?_, fun b o hb' e => ?_⟩)
          · obtain ⟨o, _, _, _, e, _⟩ := hS'
            exact Heap.lt_size e
          refine m.heap b o (fun z => ?_) (Heap.get?_push_of_some _ (Heap.get?_push_of_some _ e))
          rw [Heap.size_push] at z
          rcases List.mem_cons.mp z with z | z
          · exact absurd z (Nat.ne_of_lt hb')
          · exact absurd (List.mem_singleton.mp z) (Nat.ne_of_lt (Nat.lt_succ_of_lt hb'))
      · cases r2 with
        | error e => exact h2
        | ok fl2 =>
          cases fl2 with
          | ret r =>
            obtain ⟨rfl, h', tk, rfl, a1, a2, a3⟩ := h2
            repeat (any_goals (first | assumption | wp_step))
            exact h _ _ a1 a2 a3
          | _ => exact h2.elim
    | _ => exact hr.elim
/-- sorted(set(xs)) -/
theorem sorted_tx {a : Addr} {l : List Str} {Q : Value → Shared → Prop} (R : TxSet prog w s.heap a l) (hh : A.handled = none)
    (fin : ∀ s' p (out : Array Value) (c : Nat) (ss : List Str), (∀ b o, s.heap.get? b = some o → s'.heap.get? b = some o) → s'.gens = s.gens → s'.os = s.os → s.heap.objs.size ≤ p →
      s'.heap.get? p = some (seqObj "list" out c) → StrsAre out.toList ss → sortedS ss = true → ss.Nodup → (∀ x, x ∈ ss ↔ x ∈ l) → ss.length ≤ sizeLine → Q (.ref p) s') :
    wpAny (model prog w) A (call (.builtin "sorted") [.ref a]) Q E s := by
  obtain ⟨o, es, ep, t, eo, ex, ed, g, nd, mm, bd, ft, rs, ld⟩ := R
  refine Calls.call_function_entry kind_sorted plain_sorted entry_sorted (args_sorted1 (Value.ref a)) ?_
  unfold Builtin.«sorted»
  refine wpAny_bind (m := checkCount "sorted" 1 1 _) (wpAny_pure (wpAny_bind (collect_set (A := A.in1) hh ⟨o, eo, ex.1, ed⟩ ft bd rs ld fun s1 vs k1 z1 g1 o1 pm => ?_)))
  have ln : vs.length ≤ sizeLine := by rw [pm.length_eq, List.length_map, Array.length_toList]; exact fits_of_scanBound bd
  have St : StrsAre vs (vs.map fun v => txOf (0, v)) := by
    have hv : ∀ v ∈ vs, ∃ x tk, v = Value.str x tk := fun v hv => by
      obtain ⟨e, he, q⟩ := List.mem_map.mp (pm.mem_iff.mp hv)
      obtain ⟨x, tk, h1, _⟩ := g e he
      exact ⟨x, tk, by rw [← q]; exact h1⟩
    clear pm ln z1 k1
    induction vs with
    | nil => exact .nil
    | cons v vs ih =>
      obtain ⟨x, tk, rfl⟩ := hv v List.mem_cons_self
      exact .cons x tk (ih fun u hu => hv u (List.mem_cons_of_mem _ hu))
  have pk : (vs.map fun v => txOf (0, v)).Perm (txs es) := by
    have q := pm.map fun v => txOf (0, v)
    rw [List.map_map] at q
    exact q
  refine wpAny_bind (wpAny_newList ?_ ln)
  have hoL : (s1.heap.push (seqObj "list" vs.toArray 0)).get? s1.heap.objs.size = some (seqObj "list" vs.toArray 0) := Heap.get?_push_size _ (by rfl)
  refine wpAny_bind (wpAny_holding (wpAny_call_entry slot_list_sort ⟨_, hoL, rfl⟩ entry_list_sort (list_sort_treeKAny strKind_oneLt hoL St.keysOf (fun v₁ v₂ rest e => keyKind_strs (by rw [← e]; exact St)) ln fun st' a1 a2 => ⟨_, rfl, ?_⟩) (args_list_sort _)))
  obtain ⟨ss, b1, b2, b3⟩ := sorted_out_str St a1 a2
  obtain ⟨c, hc⟩ := sortedHeap_at (vs := vs) (out := (arrOf st').map (·.2)) hoL
  have pn : ss.Perm (txs es) := b2.trans pk
  refine wpAny_pure ⟨_, rfl, fin _ s1.heap.objs.size _ c ss (fun b u e => ?_) g1 o1 z1 hc b1 b3 (pn.nodup_iff.mpr nd) (fun x => by rw [pn.mem_iff, mm x]) ?_⟩
  · have q := k1 b u e
    have hlt := Heap.lt_size q
    show (sortedHeap (s1.heap.push (seqObj "list" vs.toArray 0)) s1.heap.objs.size vs _).get? b = some u
    rw [sortedHeap_old (Nat.ne_of_lt hlt) (by rw [size_push']; exact Nat.lt_succ_of_lt hlt)]
    exact Heap.get?_push_of_some _ q
  · rw [b2.length_eq, List.length_map]
    exact ln
end
/-- sorted(set(e)), e a list of texts -/
def tSortNub (K : Frag) (ta : TE) : TE := fun σ H Q => ta σ H fun x H1 => ∃ (l : Addr) (xs : List Str), x = .ref l ∧ SqL K H1 l (xs.map V.str) ∧ xs.length + 1 < scanBound ∧
  ∀ (ss : List Str) (p : Addr), sortedS ss = true → ss.Nodup → (∀ y, y ∈ ss ↔ y ∈ xs) → H1 p = none → Q (.ref p) (upd H1 p (.lst (ss.map V.str)))
theorem vals_strs : ∀ {us : List Value} {ss : List Str}, StrsAre us ss → Vals (ss.map V.str) us
  | _, _, .nil => .nil
  | _, _, .cons x tk r => .cons ⟨tk, rfl⟩ (vals_strs r)
theorem pe_sortNub {X : Cx} {a : Expr} {ta : TE} {p p2 q pos : Pos} (hg : Gl X "sorted") (hm : X.mg "sorted" = none) (hg2 : Gl X "set") (hm2 : X.mg "set" = none) (ha : PE X a ta) (hc : X.calm = true := by rfl) (na : starEach [a] X.env = (false, eval a X.env) :: starEach [] X.env := by rfl) :
    PE X (.Call (.Name "sorted" p) [.Call (.Name "set" p2) [a] [] q] [] pos) (tSortNub X.K ta) := by
  refine ⟨fun pins s σ H Q I h => ?_⟩
  refine Call_ (ld_blt I hg hm (show bootBuiltins "sorted" = some (.builtin "sorted") by decide +kernel) ?_)
  refine PyProof.Rows.callWith_builtin1 (PyProof.Rows.args_cons ?_ rfl) rfl rfl
  refine Call_ (ld_blt I hg2 hm2 PyProof.Rows.boot_set ?_)
  refine PyProof.Rows.callWith_type1 (PyProof.Rows.args_cons (thn (ha.run pins s σ H _ I h) fun v s1 ⟨x, H1, I1, r1, q1⟩ => PyProof.Rows.args_nil ?_) na) na rfl
  obtain ⟨l, xs, rfl, hq, hb, q1⟩ := q1
  cases r1
  obtain ⟨its, r, pl, hz⟩ := I1.list hq
  have hl : its.toArray.size = xs.length := by rw [List.size_toArray, ← r.length, List.length_map]
  refine call_setT (I1.ok.hd hc) pl.isList (xs := xs) hl.symm (fun i v hv => ?_) (by omega) fun h' tk hS hlt hk => ?_
  · have hi : i < xs.length := by
      have q := (Array.getElem?_eq_some_iff.mp hv).1
      omega
    obtain ⟨u, hu, t, rfl⟩ := r.get (i := i) (x := .str (xs[i]'hi)) (by rw [List.getElem?_map, List.getElem?_eq_getElem hi]; rfl)
    refine ⟨_, t, List.getElem?_eq_getElem hi, ?_⟩
    have e : its.toArray[i]? = some v := hv
    rw [List.getElem?_toArray, hu] at e
    exact (Option.some.inj e).symm
  · refine PyProof.Rows.args_nil ?_
    have I2 : Inv X pins σ H1 { s1 with heap := h', toks := tk } := I1.kept fun b o e => hk b o (Heap.lt_size e) e
    refine sorted_tx (s := { s1 with heap := h', toks := tk }) hS (I1.ok.hd hc) fun s2 pp out c ss k1 g1 o1 z1 hc2 st sr nn mm ln => ?_
    have zl : (ss.map V.str).length ≤ sizeLine := by rw [List.length_map]; exact ln
    have hn : H1 pp = none := I2.hok.fresh z1
    have J : Inv X pins σ (upd H1 pp (.lst (ss.map V.str))) { s1 with heap := s2.heap, gens := s2.gens, drawn := s2.drawn, toks := s2.toks } :=
      I2.call (s := { s1 with heap := h', toks := tk }) (ch := []) (Un.laid k1 z1 hn) (I2.hok.laid k1 z1 ⟨zl, out.toList, c, vals_strs st, hc2⟩) (by rw [g1]; exact I2.bare) (fun _ z => nomatch z)
    have e : s2 = { s1 with heap := s2.heap, gens := s2.gens, drawn := s2.drawn, toks := s2.toks } := by
      cases s2; cases s1; cases o1
      rfl
    rw [e]
    exact ⟨.ref pp, _, J, rfl, q1 ss pp sr nn mm hn⟩
end Fx

set_option maxRecDepth 100000
set_option maxHeartbeats 4000000
namespace Fx
open PySem PySem.Spec PyProof.Rows L2
open PySem.W (Frag)
/-! ### list(d.values()) -/
def tListVals (td : TE) : TE := fun σ H Q => td σ H fun x H1 => ∃ a kvs, x = V.ref a ∧ Rd H1 a (.dK kvs) ∧ kvs.length ≤ 1000 ∧ ∀ p, H1 p = none → Q (.ref p) (upd H1 p (.lst (kvs.map (·.2))))
theorem valsAt : ∀ {xs : List V} {us : List Value}, xs.length = us.length → (∀ (i : Nat) (u : Value), us[i]? = some u → ∃ x, xs[i]? = some x ∧ RelV x u) → Vals xs us
  | [], [], _, _ => .nil
  | x :: xs, u :: us, hl, h => by
    obtain ⟨y, e, r⟩ := h 0 u rfl
    simp at e
    subst e
    exact .cons r (valsAt (by simpa using hl) fun i v hv => by simpa using h (i + 1) v (by simpa using hv))
  | [], _ :: _, hl, _ => by simp at hl
  | _ :: _, [], hl, _ => by simp at hl
theorem pe_listVals {X : Cx} {o : Expr} {p pos apos mpos : Pos} {td : TE} (hg : Gl X "list") (hm : X.mg "list" = none) (hd : PE X o td) (hc : X.calm = true := by rfl) (hbase : attributeBase o "values" X.env (eval o X.env) = eval o X.env := by rfl) (hline : (apos.endLine == mpos.line) = true := by rfl)
    (na : starEach [Expr.Call (.Attribute o "values" apos) [] [] mpos] X.env = (false, eval (Expr.Call (.Attribute o "values" apos) [] [] mpos) X.env) :: starEach [] X.env := by rfl) :
    PE X (.Call (.Name "list" p) [.Call (.Attribute o "values" apos) [] [] mpos] [] pos) (tListVals td) := by
  refine ⟨fun pins s σ H Q I h => ?_⟩
  refine Call_ (ld_blt I hg hm (show bootBuiltins "list" = some (.type "list") by decide +kernel) ?_)
  refine PyProof.Rows.callWith_type1 (PyProof.Rows.args_cons (wpAny_Call_method0_late hbase hline (thn (hd.run pins s σ H _ I h) fun v s1 ⟨x, H1, I1, r1, a, kvs, ex, ha, hl, q⟩ => ?_)) na) na rfl
  subst ex
  obtain rfl : v = Value.ref a := r1
  obtain ⟨_, hsys, vs, rel, dof⟩ := dk_rd I1.hok ha
  obtain ⟨ep, dat⟩ := dof.dictAt
  have dat' := dat
  obtain ⟨ob, es, ho, ex, hdat, hko, hpr, hnd⟩ := dat'
  refine ⟨"dict", "dict.values", F.plainAttrs_dict, F.slot_dict_values, F.type_dict_values, ⟨ob, ho, ex.1⟩, fun b e => ?_, Calls.callWith_builtin rfl (PySem.evalArgs_none ?_)⟩
  · cases e
    exact ⟨ob, ho, ex.2.1⟩
  have k1 : ∀ b u, s1.heap.get? b = some u → (s1.heap.push { cls := .type "dict_values", data := .fields #[.ref a] }).get? b = some u := fun b u e => Heap.get?_push_of_some _ e
  have dat1 : (s1.heap.push { cls := .type "dict_values", data := .fields #[.ref a] }).DictAt (mixKind X.prog X.w) a vs ep := dat.keep k1
  refine call_meetsIn F.slot_dict_values ⟨ob, ho, ex.1⟩ F.entry_dict_values (F.args_dict_values_1 _) (meets_dict_values (mixKind X.prog X.w) a hsys) ⟨⟨vs, dof⟩, PyProof.Rows.args_nil ?_⟩
  have ln : vs.length = kvs.length := (KV.length rel).symm
  refine PySem.W.kdl_call (s := { s1 with heap := s1.heap.push { cls := .type "dict_values", data := .fields #[.ref a] } }) (PySem.W.kdl_values (knd := mixKind X.prog X.w) (kvs := vs) (ep := ep) (d := a)) (I.ok.hd hc) ⟨⟨_, Heap.get?_push_size _ rfl, rfl, rfl⟩, dat1⟩ (by rw [ln]; exact Nat.le_of_lt (small1000 hl)) fun h' tk acc c' hk hS hacc => ?_
  have I2 : Inv X pins σ H1 { s1 with heap := s1.heap.push { cls := .type "dict_values", data := .fields #[.ref a] } } := I1.kept k1
  have sz : (s1.heap.push { cls := .type "dict_values", data := .fields #[.ref a] }).objs.size = s1.heap.objs.size + 1 := Heap.size_push _ _
  have hn : H1 (s1.heap.push { cls := .type "dict_values", data := .fields #[.ref a] }).objs.size = none := I2.hok.fresh (Nat.le_refl _)
  have vl : Vals (kvs.map (·.2)) acc.toList := valsAt (by rw [List.length_map]; have q := hacc.1; have z : acc.toList.length = acc.size := Array.length_toList; omega) fun i u hu => by
    obtain ⟨k, hk2⟩ := hacc.2 i u (by rw [← Array.getElem?_toList]; exact hu)
    obtain ⟨x, h1, h2⟩ := KV.at' rel hk2
    exact ⟨x, by rw [List.getElem?_map, h1]; rfl, h2⟩
  refine ⟨.ref _, upd H1 _ (.lst (kvs.map (·.2))), I2.laid (t' := tk) hk (Nat.le_refl _) ⟨by rw [List.length_map]; exact Nat.le_of_lt (small1000 hl), acc.toList, c', vl, hS⟩, rfl, q _ hn⟩
/-! ### a dict comprehension over a walk -/
theorem dc_it {J : It} {n : Nat} {G : Hp → Prop} {Y : Nat → Hp → V → Hp → Prop} (w : Walk J n G Y) {g : TG} {tt : TT} {tk tv : TE} {vs : List Nat} {σ : L2.St} {H1 : Hp} {D : Addr} {Qd : Hp → Prop} (Pv : Nat → Hp → Prop) (h0 : Pv 0 (upd H1 D (.dK []))) (hG : ∀ i H, i ≤ n → Pv i H → G H)
    (hs : ∀ i x H H', i < n → Pv i H → Y i H x H' → g x (wipe σ vs) H' fun σ2 H2 => wipe σ2 vs = wipe σ vs ∧ tt σ2 H2 fun b H3 =>
      if b = true then tk σ2 H3 fun y H4 => tv σ2 H4 fun z H5 => ∃ kvs k, y = kV k ∧ H5 D = some (.dK kvs) ∧ kvs.length < sizeLine ∧ Pv (i + 1) (upd H5 D (.dK (putK kvs k z))) else Pv (i + 1) H3) (hd : ∀ H, Pv n H → Qd H) :
    ∃ W : Nat → Nat → Hp → Prop, (∃ m, W 0 m (upd H1 D (.dK []))) ∧ ∀ i m H, W i m H →
      (J.stop i H ∧ Qd H) ∨ (J.go i H ∧ ∃ Nx : Hp → Prop, (∀ H', Nx H' → ∃ m', m' < m ∧ W (i + 1) m' H') ∧ ∀ x H', J.yld i H x H' → g x (wipe σ vs) H' fun σ2 H2 => wipe σ2 vs = wipe σ vs ∧ tt σ2 H2 fun b H3 =>
        if b = true then tk σ2 H3 fun y H4 => tv σ2 H4 fun z H5 => ∃ kvs k, y = kV k ∧ H5 D = some (.dK kvs) ∧ kvs.length < sizeLine ∧ Nx (upd H5 D (.dK (putK kvs k z))) else Nx H3) := by
  refine ⟨fun i m H => m = n - i ∧ i ≤ n ∧ Pv i H, ⟨n, by simp, Nat.zero_le _, h0⟩, ?_⟩
  rintro i m H ⟨rfl, hi, p⟩
  have q := hG i H hi p
  by_cases lt : i < n
  · exact .inr ⟨w.goes i H lt q, Pv (i + 1), fun H' p' => ⟨n - (i + 1), by omega, rfl, lt, p'⟩, fun x H' y => hs i x H H' lt p (w.yields i H x H' lt q y)⟩
  · have e : i = n := by omega
    subst e
    exact .inl ⟨w.stops H q, hd H p⟩
end Fx

set_option maxRecDepth 100000
set_option maxHeartbeats 4000000
namespace Pl
open PySem PySem.Spec PyProof.Rows L2 Fx
open PySem.W (Frag)
/-! ### what grows at D, and the heap without it -/
theorem back_ {T : List (Addr × Str)} {F1 H1 Fi Hi F4 H4 : Hp} {D : Addr} {o : HO} (hD : H1 D = none) (xe : Ex T F1 H1 Fi Hi) (n : Hi D = none) (e : Ex T Fi (upd Hi D o) F4 H4) (ho : Ld o) : ∃ H5, H4 = upd H5 D o ∧ Ex T F1 H1 F4 H5 ∧ H5 D = none := by
  have hasD : Has (upd Hi D o) D := ⟨o, upd_same, ho.nt⟩
  have h4 : H4 D = some o := e.h _ _ upd_same ho.nt
  have f4 : F4 D = none := e.n D (xe.s.free n) hasD
  refine ⟨fun a => if a = D then none else H4 a, ?_, ⟨xe.f.trans e.f, fun a u q nt => ?_, ⟨fun a u q => ?_, e.s.nt, tabs_keep e.s.tb h4 ho fun b hb => if_neg hb⟩, fun a q1 q2 => ?_⟩, if_pos rfl⟩
  · funext a
    by_cases c : a = D
    · subst c
      rw [upd_same]
      exact h4
    · rw [upd_ne c]
      exact (if_neg c).symm
  · have c : a ≠ D := ne_of_none q hD
    refine (if_neg c).trans (e.h _ _ ?_ nt)
    rw [upd_ne c]
    exact xe.h _ _ q nt
  · have c : a ≠ D := ne_of_none q f4
    exact (if_neg c).trans (e.s.s _ _ q)
  · have c : a ≠ D := fun z => by
      obtain ⟨u, q, _⟩ := q2
      rw [z, hD] at q
      cases q
    have q3 : Has (upd Hi D o) a := by
      obtain ⟨u, q, t⟩ := q2.ext xe.h
      exact ⟨u, by rw [upd_ne c]; exact q, t⟩
    exact e.n a (xe.n a q1 q2) q3
theorem split_at {ds : List D} {i : Nat} {d : D} (ed : ds[i]? = some d) : ds = ds.take i ++ d :: ds.drop (i + 1) := by
  obtain ⟨h, q⟩ := List.getElem?_eq_some_iff.mp ed
  rw [← q, ← List.drop_eq_getElem_cons h, List.take_append_drop]
theorem take_at {ds : List D} {i : Nat} {d : D} (ed : ds[i]? = some d) : ds.take (i + 1) = ds.take i ++ [d] := by
  rw [List.take_succ, ed]
  rfl
/-! ### dicts: a key's value is put -/
def kEqs (k : D) : List D → Option (List Bool)
  | [] => some []
  | y :: ys => (keyEq y k).bind fun b => (kEqs k ys).map (b :: ·)
def mapAt (v : D) : List Bool → List D → List D
  | b :: bs, u :: us => (if b = true then v else u) :: mapAt v bs us
  | _, us => us
def putD (k v : D) (a : List D × List D) : Option (List D × List D) := if isKey k = true then (kEqs k a.1).map fun fs => if fs.any id = true then (a.1, mapAt v fs a.2) else (a.1 ++ [k], a.2 ++ [v]) else none
section
variable {M : MC} {F : Hp}
theorem kEqs_val (ok : MOk M) {k : Key} {a : D} (rk : R M F (kV k) a) : ∀ {kvs : List (Key × V)} {ks : List D} {fs : List Bool}, RA M F (kvs.map fun p => kV p.1) ks → kEqs a ks = some fs → fs = kvs.map fun p => decide (p.1 = k)
  | [], _, fs, h, e => by
    cases h
    cases e
    rfl
  | p :: kvs, _, fs, h, e => by
    cases h with
    | cons h1 h2 =>
      simp only [kEqs] at e
      cases z : keyEq _ a with
      | none => rw [z] at e; cases e
      | some b =>
        rw [z] at e
        simp only [Option.bind_some, Option.map_eq_some_iff] at e
        obtain ⟨gs, e1, rfl⟩ := e
        rw [kEqs_val ok rk h2 e1, List.map_cons, ← keyEq_val ok h1 rk z]
theorem mapAt_val {k : Key} {x : V} {d : D} (rx : R M F x d) : ∀ {kvs : List (Key × V)} {vs : List D}, RA M F (kvs.map (·.2)) vs → RA M F ((kvs.map fun kv => if kv.1 = k then (kv.1, x) else kv).map (·.2)) (mapAt d (kvs.map fun p => decide (p.1 = k)) vs)
  | [], _, h => by
    cases h
    exact .nil
  | p :: kvs, _, h => by
    cases h with
    | cons h1 h2 =>
      simp only [List.map_cons, mapAt]
      refine .cons ?_ (mapAt_val rx h2)
      by_cases c : p.1 = k
      · rw [if_pos c, decide_eq_true c, if_pos rfl]
        exact rx
      · rw [if_neg c, decide_eq_false c, if_neg (by decide)]
        exact h1
theorem keys_same {k : Key} {x : V} : ∀ kvs : List (Key × V), ((kvs.map fun kv => if kv.1 = k then (kv.1, x) else kv).map fun p => kV p.1) = kvs.map fun p => kV p.1
  | [] => rfl
  | p :: kvs => by
    simp only [List.map_cons]
    rw [keys_same kvs]
    congr 2
    by_cases c : p.1 = k
    · rw [if_pos c]
    · rw [if_neg c]
theorem putD_val (ok : MOk M) {k : Key} {a d : D} {x : V} (rk : R M F (kV k) a) (rx : R M F x d) {kvs : List (Key × V)} {w r : List D × List D} (h : RA M F (kvs.map fun p => kV p.1) w.1) (g : RA M F (kvs.map (·.2)) w.2) (e : putD a d w = some r) :
    RA M F ((putK kvs k x).map fun p => kV p.1) r.1 ∧ RA M F ((putK kvs k x).map (·.2)) r.2 := by
  unfold putD at e
  split at e
  · simp only [Option.map_eq_some_iff] at e
    obtain ⟨fs, e1, e2⟩ := e
    have q := kEqs_val ok rk h e1
    subst q
    have ea : (kvs.map fun p => decide (p.1 = k)).any id = kvs.any fun kv => decide (kv.1 = k) := by
      rw [List.any_map]
      rfl
    rw [ea] at e2
    unfold putK
    split at e2
    · rename_i c
      rw [if_pos c]
      subst e2
      exact ⟨by rw [keys_same]; exact h, mapAt_val rx g⟩
    · rename_i c
      rw [if_neg c]
      subst e2
      rw [List.map_append, List.map_append]
      exact ⟨h.app (.one rk), g.app (.one rx)⟩
  · cases e
theorem putD_len {k v : D} {w r : List D × List D} (e : putD k v w = some r) : r.1.length ≤ w.1.length + 1 := by
  unfold putD at e
  split at e
  · simp only [Option.map_eq_some_iff] at e
    obtain ⟨fs, _, e2⟩ := e
    split at e2
    · subst e2
      exact Nat.le_succ _
    · subst e2
      simp
  · cases e
theorem putD_key {k v : D} {w r : List D × List D} (e : putD k v w = some r) : isKey k = true := by
  unfold putD at e
  split at e
  · assumption
  · cases e
end
/-! ### a fresh dict -/
section
variable {X : Cx} {M : MC} {E : XK} {pos : Pos} {F F1 H H1 : Hp}
def PostD (M : MC) (E : XK) (F H : Hp) (Q : VK) : Oc (List D × List D) → Prop
  | .ok ds => ∀ p kvs F' H', Ex M.T F H F' H' → H' p = none → RA M F' (kvs.map fun q : Key × V => kV q.1) ds.1 → RA M F' (kvs.map (·.2)) ds.2 → Q (.ref p) (upd H' p (.dK kvs))
  | .exc c a => ∀ x F' H' dx, Ex M.T F H F' H' → R M F' x a → H' dx = none → E (.ref (M.xa c)) (some dx) (upd H' dx (.xd [(M.fl c, x)]))
  | .bad => False
theorem PostD.later {Q : VK} {o : Oc (List D × List D)} (h : PostD M E F H Q o) (x : Ex M.T F H F1 H1) : PostD M E F1 H1 Q o := by
  cases o with
  | ok a => exact fun p y F' H' e n r => h p y F' H' (x.trans e) n r
  | exc c a => exact fun y F' H' dx e r n => h y F' H' dx (x.trans e) r n
  | bad => exact h
theorem PostD.bd {v d : Type} {RR : Hp → v → d → Prop} {Q : VK} {o : Oc d} {k : d → Oc (List D × List D)} {Q1 : v → Hp → Prop} (h : PostD M E F H Q (o.bind k)) (n : ∀ x a F1 H1, Ex M.T F H F1 H1 → RR F1 x a → PostD M E F1 H1 Q (k a) → Q1 x H1) : Post M E RR F H Q1 o := by
  cases o with
  | ok a => exact fun x F1 H1 e r => n x a F1 H1 e r (PostD.later h e)
  | exc c a => exact h
  | bad => exact h
def tPd (M : MC) (E : XK) (g : En → Oc (List D × List D)) : TE := fun σ H Q => ∃ F en, Sx M.T F H ∧ REn M F σ en ∧ PostD M E F H Q (g en)
def asD (g : En → Oc (List D × List D)) : En → Oc D := fun en => (g en).bind fun ds => .ok (.dic ds.1 ds.2)
theorem d_ofD {e : Expr} {g : En → Oc (List D × List D)} (h : PE X e (tPd M E g)) : PE X e (tP M E (asD g)) := PEup h fun σ H Q ⟨F, en, s, r, p⟩ => ⟨F, en, s, r, by
  unfold asD at p
  cases z : g en with
  | ok ds =>
    rw [z] at p
    intro q kvs F' H' e n r1 r2
    have ex : Ex M.T F' H' (upd F' q (.dK kvs)) (upd H' q (.dK kvs)) := Ex.new e.s n
    exact p _ _ _ (e.trans ex) (.dic (.inl upd_same) (r1.ext ex.f) (r2.ext ex.f))
  | exc c a =>
    rw [z] at p
    exact p
  | bad =>
    rw [z] at p
    exact p.elim⟩
/-! ### dict comprehensions -/
def dcD (b : En → D → Option En) (gt : En → Oc Bool) (gk gv : En → Oc D) (en : En) : List D → List D × List D → Option (List D × List D)
  | [], acc => some acc
  | d :: ds, acc => (b en d).bind fun en' => match gt en' with
    | .ok true => (match gk en' with
      | .ok k => (match gv en' with
        | .ok v => (putD k v acc).bind (dcD b gt gk gv en ds)
        | _ => none)
      | _ => none)
    | .ok false => dcD b gt gk gv en ds acc
    | _ => none
theorem dcD_app {b : En → D → Option En} {gt : En → Oc Bool} {gk gv : En → Oc D} {en : En} : ∀ (as bs : List D) (acc : List D × List D), dcD b gt gk gv en (as ++ bs) acc = (dcD b gt gk gv en as acc).bind (dcD b gt gk gv en bs)
  | [], bs, acc => rfl
  | a :: as, bs, acc => by
    simp only [dcD, List.cons_append]
    cases b en a with
    | none => rfl
    | some en' =>
      simp only [Option.bind_some]
      split
      · split
        · split
          · rename_i v _
            cases putD _ v acc with
            | none => rfl
            | some r => exact dcD_app as bs r
          · rfl
        · rfl
      · exact dcD_app as bs acc
      · rfl
theorem dcD_len {b : En → D → Option En} {gt : En → Oc Bool} {gk gv : En → Oc D} {en : En} : ∀ {as : List D} {acc r : List D × List D}, dcD b gt gk gv en as acc = some r → r.1.length ≤ acc.1.length + as.length
  | [], acc, r, h => by cases h; simp
  | a :: as, acc, r, h => by
    simp only [dcD] at h
    cases z : b en a with
    | none => rw [z] at h; cases h
    | some en' =>
      rw [z] at h
      simp only [Option.bind_some] at h
      split at h
      · split at h
        · split at h
          · rename_i v _
            cases z2 : putD _ v acc with
            | none => rw [z2] at h; cases h
            | some r1 =>
              rw [z2] at h
              have l1 := putD_len z2
              have l2 := dcD_len (show dcD b gt gk gv en as r1 = some r from h)
              rw [List.length_cons]
              omega
          · cases h
        · cases h
      · have l2 := dcD_len h
        rw [List.length_cons]
        omega
      · cases h
def gDc (b : En → D → Option En) (gt : En → Oc Bool) (gk gv : En → Oc D) (vs : List Nat) (gi : En → Oc (List D)) : En → Oc (List D × List D) := fun en => (gi en).bind fun ds => if fit ds.length = true then .of (dcD b gt gk gv (wipeE en vs) ds ([], [])) else .bad
theorem dc_up {b : En → D → Option En} {sl vs : List Nat} {gt : En → Oc Bool} {gk gv : En → Oc D} {gi : En → Oc (List D)} (ok : MOk M) (hsl : ∀ j ∈ sl, j ∈ vs) (σ : L2.St) (H : Hp) (Q : VK) (h : tPd M E (gDc b gt gk gv vs gi) σ H Q) :
    tDc (tPI M E gi) (tPG M b sl) (tPT M NoX gt) (tP M NoX gk) (tP M NoX gv) vs σ H Q := by
  obtain ⟨F, en, s, r, p⟩ := h
  refine ⟨F, en, s, r, PostD.bd p fun J ds F1 H1 e1 w p1 D hD => ?_⟩
  have r1 := r.ext e1.f
  split at p1
  · rename_i c
    have c := of_decide_eq_true c
    cases z : dcD b gt gk gv (wipeE en vs) ds ([], []) with
    | none =>
      rw [z] at p1
      exact p1.elim
    | some out =>
      rw [z] at p1
      obtain ⟨G, hG, w⟩ := w
      refine Fx.dc_it w (fun i H2 => ∃ Fi Hi acc kvs, H2 = upd Hi D (.dK kvs) ∧ Ex M.T F1 H1 Fi Hi ∧ Hi D = none ∧ dcD b gt gk gv (wipeE en vs) (ds.take i) ([], []) = some acc ∧ RA M Fi (kvs.map fun q => kV q.1) acc.1 ∧ RA M Fi (kvs.map (·.2)) acc.2) ⟨F1, H1, ([], []), [], rfl, Ex.refl e1.s, hD, by rw [List.take_zero]; rfl, .nil, .nil⟩ (fun i H2 _ ⟨Fi, Hi, acc, xs, e, x, n, _, _, _⟩ => hG H2 ?_) ?_ ?_
      · subst e
        exact sNew (x.f.trans x.s.s) n
      · rintro i x H2 H3 hi ⟨Fi, Hi, acc, kvs, rfl, xe, n, ea, ra, rb⟩ y
        obtain ⟨F3, d, e3, ed, rd⟩ := y Fi xe.f (xe.s.up n)
        have zz := z
        rw [split_at ed, dcD_app, ea] at zz
        simp only [Option.bind_some, dcD] at zz
        have rw' : REn M F3 (L2.wipe σ vs) (wipeE en vs) := ((r1.wipe vs).ext xe.f).ext e3.f
        have step : dcD b gt gk gv (wipeE en vs) (ds.take (i + 1)) ([], []) = dcD b gt gk gv (wipeE en vs) [d] acc := by
          rw [take_at ed, dcD_app, ea]
          rfl
        have lacc := dcD_len ea
        have li : i < ds.length := hi
        have lk : kvs.length = acc.1.length := by
          have := ra.len
          rw [List.length_map] at this
          exact this
        cases zb : b (wipeE en vs) d with
        | none => rw [zb] at zz; cases zz
        | some en' =>
          rw [zb] at zz
          simp only [Option.bind_some] at zz
          have one : dcD b gt gk gv (wipeE en vs) [d] acc = match gt en' with
            | .ok true => (match gk en' with
              | .ok k => (match gv en' with
                | .ok v => putD k v acc
                | _ => none)
              | _ => none)
            | .ok false => some acc
            | _ => none := by
            simp only [dcD, zb, Option.bind_some]
            split
            · split
              · split
                · rename_i v _
                  cases putD _ v acc <;> rfl
                · rfl
              · rfl
            · rfl
            · rfl
          refine ⟨F3, wipeE en vs, d, en', e3.s, rw', rd, zb, fun σ' l' q' o' => ⟨(wipe_congr l' fun j hj => o' j fun z => hj (hsl j z)).trans wipe_wipe, F3, en', e3.s, q', ?_⟩⟩
          have back : ∀ {F4 H4 : Hp}, Ex M.T F3 H3 F4 H4 → ∃ H5, H4 = upd H5 D (.dK kvs) ∧ Ex M.T F1 H1 F4 H5 ∧ H5 D = none := fun {F4 H4} e4 => back_ hD xe n (e3.trans e4) (.inr ⟨_, rfl⟩)
          cases zt : gt en' with
          | bad => rw [zt] at zz; cases zz
          | exc c d' => rw [zt] at zz; cases zz
          | ok t =>
            refine fun t' F4 H4 e4 et => ?_
            subst et
            cases t' with
            | false =>
              rw [if_neg (by decide)]
              obtain ⟨H5, g1, g2, g3⟩ := back e4
              rw [zt] at one
              exact ⟨F4, H5, acc, kvs, g1, g2, g3, step.trans one, (ra.ext e3.f).ext e4.f, (rb.ext e3.f).ext e4.f⟩
            | true =>
              rw [if_pos rfl]
              refine ⟨F4, en', e4.s, q'.ext e4.f, ?_⟩
              cases zk : gk en' with
              | bad => rw [zt, zk] at zz; cases zz
              | exc c d' => rw [zt, zk] at zz; cases zz
              | ok k =>
                refine fun uk F5 H5 e5 rk => ⟨F5, en', e5.s, (q'.ext e4.f).ext e5.f, ?_⟩
                cases zv : gv en' with
                | bad => rw [zt, zk, zv] at zz; cases zz
                | exc c d' => rw [zt, zk, zv] at zz; cases zz
                | ok v =>
                  refine fun u F6 H6 e6 ru => ?_
                  rw [zt, zk, zv] at zz one
                  dsimp only at zz one
                  cases zp : putD k v acc with
                  | none => rw [zp] at zz; cases zz
                  | some acc' =>
                    rw [zp] at one
                    obtain ⟨H7, g1, g2, g3⟩ := back ((e4.trans e5).trans e6)
                    have h6 : H6 D = some (.dK kvs) := by rw [g1, upd_same]
                    obtain ⟨kk, rfl, rk'⟩ := rk.key (putD_key zp)
                    have e36 := ((e3.trans e4).trans e5).trans e6
                    obtain ⟨q1, q2⟩ := putD_val ok (rk'.ext e6.f) ru (ra.ext e36.f) (rb.ext e36.f) zp
                    refine ⟨kvs, kk, rfl, h6, ?_, F6, H7, acc', putK kvs kk u, ?_, g2, g3, step.trans one, q1, q2⟩
                    · rw [lk]
                      have : (ds.take i).length ≤ i := by rw [List.length_take]; omega
                      simp only [List.length_nil] at lacc
                      omega
                    · rw [g1, upd_upd]
      · rintro H2 ⟨Fi, Hi, acc, kvs, rfl, xe, n, ea, ra, rb⟩
        rw [List.take_length, z] at ea
        cases ea
        exact p1 D kvs Fi Hi xe n ra rb
  · exact p1.elim
theorem dd_dc {kx vx tg iter : Expr} {ifs : List Expr} {scope : Scope} {own : List (Str × Nat)} {b : En → D → Option En} {sl : List Nat} {gt : En → Oc Bool} {gk gv : En → Oc D} {gi : En → Oc (List D)} (mk : MOk M) (hc : X.calm = true) (hN : X.N.Nodup) (hi : PI X tg iter (tPI M E gi)) (ok : BlkOk X.N X.env.scope scope own)
    (hg : ∀ (s : Shared) (H : Hp) (C : Addr) (cl : List (Str × Addr)) (fp : List Addr), PG (X.blk s H scope (compEnvC scope cl C X.env) fp) tg (tPG M b sl)) (ht : ∀ (s : Shared) (H : Hp) (C : Addr) (cl : List (Str × Addr)) (fp : List Addr), PTs (X.blk s H scope (compEnvC scope cl C X.env) fp) ifs (tPT M NoX gt))
    (hk : ∀ (s : Shared) (H : Hp) (C : Addr) (cl : List (Str × Addr)) (fp : List Addr), PE (X.blk s H scope (compEnvC scope cl C X.env) fp) kx (tP M NoX gk))
    (he : ∀ (s : Shared) (H : Hp) (C : Addr) (cl : List (Str × Addr)) (fp : List Addr), PE (X.blk s H scope (compEnvC scope cl C X.env) fp) vx (tP M NoX gv)) (hsl : ∀ j ∈ sl, j ∈ own.map (·.2)) (hs : ∀ x, foldedSetIterable iter X.env x = pure x := by intro _; rfl) :
    PE X (.DictComp kx vx [⟨tg, iter, ifs, 0⟩] scope pos) (tPd M E (gDc b gt gk gv (own.map (·.2)) gi)) := PEup (pe_dc hc hN hi ok hg ht hk he hs) (dc_up (gi := gi) mk hsl)
end
end Pl

set_option maxRecDepth 100000
set_option maxHeartbeats 4000000
namespace Pl
open PySem PySem.Spec PyProof.Rows L2 Fx
open PySem.W (Frag)
/-! ### dicts of the def's own -/
section
variable {X : Cx} {M : MC} {E : XK} {pos : Pos} {F0 H0 G B H H1 F1 : Hp} {se : SE} {σ : L2.St} {D : Ends}
theorem use_okS {g : En → Oc Pl.D} {Q : VK} (r : RSx M F0 H0 G B se σ H) (h : UP M E F0 H0 (fun d => ∀ v G' H', RSx M F0 H0 G' B se σ H' → Same G G' → R M G' v d → Q v H') (useE g se)) : tP M E g σ H Q := by
  unfold useE at h
  cases z : g (enA se) with
  | ok d =>
    rw [z] at h
    refine ⟨G, enA se, r.g.s, r.enA, ?_⟩
    rw [z]
    exact fun v F' H' x rv => h v F' H' (r.more x) x.f rv
  | exc c d =>
    rw [z] at h
    refine ⟨G, enA se, r.g.s, r.enA, ?_⟩
    rw [z]
    exact fun v F' H' dx x rv n => h v F' H' dx (r.g.trans x) rv n
  | bad =>
    rw [z] at h
    refine ⟨gb G B, enB se, r.sB, r.enB, ?_⟩
    cases z2 : g (enB se) with
    | ok d =>
      rw [z2] at h
      dsimp only at h
      split at h
      · rename_i c
        exact fun v F' H' x rv => h v (less F' B) H' (r.more (r.less x)) (r.less x).f (rv.less (r.hb x) c)
      · exact h.elim
    | exc c d =>
      rw [z2] at h
      exact fun v F' H' dx x rv n => h v F' H' dx (r.exB.trans x) rv n
    | bad =>
      rw [z2] at h
      exact h.elim
def UPD (M : MC) (E : XK) (F0 H0 : Hp) (P : List Pl.D × List Pl.D → Prop) : Oc (List Pl.D × List Pl.D) → Prop
  | .ok d => P d
  | .exc c d => XP M E F0 H0 c d
  | .bad => False
def useD (g : En → Oc (List Pl.D × List Pl.D)) (se : SE) : Oc (List Pl.D × List Pl.D) := match g (enA se) with
  | .bad => (match g (enB se) with
    | .ok d => if noMuts d.1 = true ∧ noMuts d.2 = true then .ok d else .bad
    | r => r)
  | r => r
theorem useD_ok {g : En → Oc (List Pl.D × List Pl.D)} {Q : VK} (r : RSx M F0 H0 G B se σ H) (h : UPD M E F0 H0 (fun ds => ∀ p kvs G' H', RSx M F0 H0 G' B se σ H' → H' p = none → RA M G' (kvs.map fun q : Key × V => kV q.1) ds.1 → RA M G' (kvs.map (·.2)) ds.2 → Q (.ref p) (upd H' p (.dK kvs))) (useD g se)) : tPd M E g σ H Q := by
  unfold useD at h
  cases z : g (enA se) with
  | ok d =>
    rw [z] at h
    refine ⟨G, enA se, r.g.s, r.enA, ?_⟩
    rw [z]
    exact fun p xs F' H' x n r1 r2 => h p xs F' H' (r.more x) n r1 r2
  | exc c d =>
    rw [z] at h
    refine ⟨G, enA se, r.g.s, r.enA, ?_⟩
    rw [z]
    exact fun v F' H' dx x rv n => h v F' H' dx (r.g.trans x) rv n
  | bad =>
    rw [z] at h
    refine ⟨gb G B, enB se, r.sB, r.enB, ?_⟩
    cases z2 : g (enB se) with
    | ok d =>
      rw [z2] at h
      dsimp only at h
      split at h
      · rename_i c
        exact fun p xs F' H' x n r1 r2 => h p xs (less F' B) H' (r.more (r.less x)) n (r1.less (r.hb x) c.1) (r2.less (r.hb x) c.2)
      · exact h.elim
    | exc c d =>
      rw [z2] at h
      exact fun v F' H' dx x rv n => h v F' H' dx (r.exB.trans x) rv n
    | bad =>
      rw [z2] at h
      exact h.elim
theorem upD {o : Oc (List Pl.D × List Pl.D)} {k : List Pl.D × List Pl.D → SR} {P : List Pl.D × List Pl.D → Prop} (h : SPost M E F0 H0 D (ocS o k)) (n : ∀ d, SPost M E F0 H0 D (k d) → P d) : UPD M E F0 H0 P o := by
  cases o with
  | ok d => exact n d h
  | exc c d => exact h
  | bad => exact h.elim
def setOd (i : Nat) (d : List Pl.D × List Pl.D) (se : SE) : SR := if i < se.length then .nx (se.set i (some (.od d.1 d.2))) else .bad
def qSetD (i : Nat) (g : En → Oc (List Pl.D × List Pl.D)) : SE → SR := fun se => ocS (useD g se) fun d => setOd i d se
theorem s_setDA {st : Stmt} {i : Nat} {te : TE} {g : En → Oc (List Pl.D × List Pl.D)} (h : PS X st (tAsg te (gName i))) (k : ∀ σ H Q, tPd M E g σ H Q → te σ H Q) : PS X st (tS M E (qSetD i g)) :=
  PSup h fun D σ H ⟨F0, H0, G, B, se, r, p⟩ => k σ H _ (useD_ok r (upD p fun d p q xs G' H' r' hq r1 r2 => by
    unfold setOd at p
    split at p
    · rename_i c
      exact p _ _ _ _ (r'.setOwn c hq (.inr ⟨_, rfl⟩) fun _ _ => ⟨xs, rfl, r1, r2⟩)
    · exact p.elim))
theorem s_setD {i : Nat} {x : Str} {e : Expr} {g : En → Oc (List Pl.D × List Pl.D)} {pos' : Pos} (hN : X.N.Nodup) (hi : X.N[i]? = some x) (hx : Loc X.env.scope x) (he : PE X e (tPd M E g)) (hs : swapsWith e (some (.Name x pos')) pos.line X.env = pure false := by rfl) (hf : X.fn x = true ∨ X.env.scope.names.lookup x = some .local := by first | exact .inl rfl | exact .inr rfl | assumption) :
    PS X (.Assign [.Name x pos'] e pos) (tS M E (qSetD i g)) := s_setDA (ps_set hN hi hx he hs hf) fun _ _ _ z => z
def od? (se : SE) (i : Nat) : Option (List Pl.D × List Pl.D) := match se[i]? with
  | some (some (.od ks vs)) => some (ks, vs)
  | _ => none
theorem od?_eq {i : Nat} {w : List Pl.D × List Pl.D} (h : od? se i = some w) : se[i]? = some (some (.od w.1 w.2)) := by
  unfold od? at h
  split at h
  · rename_i z
    rw [z]
    cases h
    rfl
  · cases h
def putS (i : Nat) (k v : Pl.D) (se : SE) : SR := match od? se i with
  | some w => if fit (w.1.length + 1) = true then (match putD k v w with
    | some r => .nx (se.set i (some (.od r.1 r.2)))
    | none => .bad) else .bad
  | none => .bad
theorem putS_ok {i : Nat} {a d : Pl.D} {y x : V} (ok : MOk M) (r : RSx M F0 H0 G B se σ H) (ry : R M G y a) (rx : R M G x d) (p : SPost M E F0 H0 D (putS i a d se)) : ∃ q kvs, σ[i]? = some (some (.ref q)) ∧ H q = some (.dK kvs) ∧ ∃ H4, DPut H q y x H4 ∧ D.nx σ H4 := by
  unfold putS at p
  cases z : od? se i with
  | none => rw [z] at p; exact p.elim
  | some w =>
    rw [z] at p
    have z := od?_eq z
    dsimp only at p
    split at p
    · rename_i f
      have f : _ + 1 ≤ sizeLine := of_decide_eq_true f
      cases zp : putD a d w with
      | none => rw [zp] at p; exact p.elim
      | some u =>
        rw [zp] at p
        obtain ⟨q, kvs, a1, b1, c1, c2⟩ := r.od i _ _ z
        have h1 := (r.b q _ b1).1
        obtain ⟨kk, rfl, rk⟩ := ry.key (putD_key zp)
        obtain ⟨q1, q2⟩ := putD_val ok rk rx c1 c2 zp
        have l := c1.len
        rw [List.length_map] at l
        refine ⟨q, kvs, a1, h1, _, DPut.k h1 (by omega), ?_⟩
        exact p _ _ _ _ (r.put (lt_of_get z) a1 (.inr ⟨_, _, z⟩) b1 (.inr ⟨_, rfl⟩) ⟨_, rfl, q1, q2⟩)
    · exact p.elim
/-- d[k] = v -/
def qDPut (i : Nat) (gk gv : En → Oc Pl.D) : SE → SR := fun se => if (od? se i).isSome = true then ocS (useE gv se) fun v => ocS (useE gk se) fun k => putS i k v se else .bad
theorem s_dput {i : Nat} {x : Str} {k v : Expr} {gk gv : En → Oc Pl.D} {p1 pos' : Pos} (ok : MOk M) (hu : X.A.units + 1 < cLine) (hN : X.N[i]? = some x) (hv : Vis X.env.scope x) (hk : PE X k (tP M E gk)) (he : PE X v (tP M E gv)) (hs : swapsWith v (some (.Subscript (.Name x p1) k pos')) pos.line X.env = pure false := by rfl)
    (hd : (x == ("__debug__" : Str)) = false := by decide) (hcd : (x == ("__classdict__" : Str)) = false := by decide) : PS X (.Assign [.Subscript (.Name x p1) k pos'] v pos) (tS M E (qDPut i gk gv)) :=
  PSup (ps_dput hu (pe_var hN hv hd hcd) hk he hs) fun D σ H ⟨F0, H0, G, B, se, r, p⟩ => by
    unfold qDPut at p
    split at p
    · rename_i c
      obtain ⟨w, z⟩ := Option.isSome_iff_exists.mp c
      refine use_okS r (upE p fun d p x G1 H1 r1 s1 rx => ?_)
      obtain ⟨q, _, hq, _⟩ := r.od i _ _ (od?_eq z)
      refine ⟨_, hq, use_okS r1 (upE p fun kd p y G2 H2 r2 s2 ry => ?_)⟩
      obtain ⟨q', kvs, a1, _, H4, h5, h6⟩ := putS_ok ok r2 ry (rx.ext s2) p
      rw [hq] at a1
      cases a1
      exact ⟨q, H4, rfl, h5, h6⟩
    · exact p.elim
/-! ### list(d.values()) -/
def fVals : Pl.D → Option (List Pl.D)
  | .dic _ vs => if vs.length ≤ 1000 then some vs else none
  | _ => none
def gO1 (f : Pl.D → Option (List Pl.D)) (g : En → Oc Pl.D) : En → Oc (List Pl.D) := fun en => (g en).bind fun a => .of (f a)
theorem do_vals {o : Expr} {g : En → Oc Pl.D} {p apos mpos : Pos} (hg : Gl X "list") (hm : X.mg "list" = none) (hd : PE X o (tP M E g)) (hc : X.calm = true := by rfl) (hbase : attributeBase o "values" X.env (eval o X.env) = eval o X.env := by rfl) (hline : (apos.endLine == mpos.line) = true := by rfl)
    (na : starEach [Expr.Call (.Attribute o "values" apos) [] [] mpos] X.env = (false, eval (Expr.Call (.Attribute o "values" apos) [] [] mpos) X.env) :: starEach [] X.env := by rfl) :
    PE X (.Call (.Name "list" p) [.Call (.Attribute o "values" apos) [] [] mpos] [] pos) (tPo M E (gO1 fVals g)) := PEup (pe_listVals hg hm hd hc hbase hline na) fun σ H Q ⟨F, en, s, r, p⟩ => ⟨F, en, s, r, PostO.bd p fun x a F1 H1 e1 r1 p1 => by
    cases r1 with
    | dic h1 h2 h3 =>
      rename_i ks0 vs0
      by_cases c : vs0.length ≤ 1000
      · replace p1 : PostO M E F1 H1 Q (.ok vs0) := by
          have e : (Oc.of (fVals (.dic ks0 vs0)) : Oc (List Pl.D)) = .ok vs0 := by
            show Oc.of (if vs0.length ≤ 1000 then some vs0 else none) = _
            rw [if_pos c]
            rfl
          rw [← e]
          exact p1
        have l := h3.len
        rw [List.length_map] at l
        exact ⟨_, _, rfl, rd_same e1.s.s h1, by omega, fun p hp => p1.new e1.s h3 hp⟩
      · exfalso
        have e : (Oc.of (fVals (.dic ks0 vs0)) : Oc (List Pl.D)) = .bad := by
          show Oc.of (if vs0.length ≤ 1000 then some vs0 else none) = _
          rw [if_neg c]
          rfl
        replace p1 : PostO M E F1 H1 Q (.of (fVals (.dic ks0 vs0))) := p1
        rw [e] at p1
        exact p1
    | _ => exact p1.elim⟩
end
end Pl

set_option maxRecDepth 100000
set_option maxHeartbeats 4000000
namespace Pl
open PySem PySem.Spec PyProof.Rows L2 Fx
open PySem.W (Frag)
/-! ### comprehensions with two fors -/
section
variable {X : Cx} {M : MC} {E : XK} {pos : Pos} {F F1 H H1 : Hp}
def lc2D (b : En → D → Option En) (gt : En → Oc Bool) (gi1 : En → Oc (List D)) (b1 : En → D → Option En) (gt1 : En → Oc Bool) (ge : En → Oc D) (vs1 : List Nat) (en : En) : List D → Option (List D)
  | [] => some []
  | d :: ds => (b en d).bind fun en' => match gt en' with
    | .ok true => (match gi1 en' with
      | .ok items => (lcD b1 gt1 ge (wipeE en' vs1) items).bind fun l => (lc2D b gt gi1 b1 gt1 ge vs1 en ds).map (l ++ ·)
      | _ => none)
    | .ok false => lc2D b gt gi1 b1 gt1 ge vs1 en ds
    | _ => none
theorem lc2D_app {b : En → D → Option En} {gt : En → Oc Bool} {gi1 : En → Oc (List D)} {b1 : En → D → Option En} {gt1 : En → Oc Bool} {ge : En → Oc D} {vs1 : List Nat} {en : En} : ∀ (as bs : List D), lc2D b gt gi1 b1 gt1 ge vs1 en (as ++ bs) = (lc2D b gt gi1 b1 gt1 ge vs1 en as).bind fun l => (lc2D b gt gi1 b1 gt1 ge vs1 en bs).map (l ++ ·)
  | [], bs => by
    simp only [lc2D, List.nil_append, Option.bind_some]
    cases lc2D b gt gi1 b1 gt1 ge vs1 en bs <;> rfl
  | a :: as, bs => by
    simp only [lc2D, List.cons_append]
    cases b en a with
    | none => rfl
    | some en' =>
      simp only [Option.bind_some]
      split
      · split
        · rename_i items _
          cases lcD b1 gt1 ge (wipeE en' vs1) items with
          | none => rfl
          | some l1 =>
            simp only [Option.bind_some]
            rw [lc2D_app as bs]
            cases lc2D b gt gi1 b1 gt1 ge vs1 en as with
            | none => rfl
            | some l =>
              cases lc2D b gt gi1 b1 gt1 ge vs1 en bs with
              | none => rfl
              | some m => simp
        · rfl
      · exact lc2D_app as bs
      · rfl
def gLc2 (b : En → D → Option En) (gt : En → Oc Bool) (gi1 : En → Oc (List D)) (b1 : En → D → Option En) (gt1 : En → Oc Bool) (ge : En → Oc D) (vs vs1 : List Nat) (gi : En → Oc (List D)) : En → Oc (List D) := fun en => (gi en).bind fun ds => match lc2D b gt gi1 b1 gt1 ge vs1 (wipeE en vs) ds with
  | some out => if fit out.length = true then .ok out else .bad
  | none => .bad
theorem lc2_up {b b1 : En → D → Option En} {sl sl1 vs vs1 : List Nat} {gt gt1 : En → Oc Bool} {gi1 : En → Oc (List D)} {ge : En → Oc D} {gi : En → Oc (List D)} (hsl : ∀ j ∈ sl, j ∈ vs) (hsl1 : ∀ j ∈ sl1, j ∈ vs1) (σ : L2.St) (H : Hp) (Q : VK) (h : tPo M E (gLc2 b gt gi1 b1 gt1 ge vs vs1 gi) σ H Q) :
    tLc2 (tPI M E gi) (tPG M b sl) (tPT M NoX gt) (tPI M NoX gi1) (tPG M b1 sl1) (tPT M NoX gt1) (tP M NoX ge) vs vs1 σ H Q := by
  obtain ⟨F, en, s, r, p⟩ := h
  refine ⟨F, en, s, r, PostO.bd p fun J ds F1 H1 e1 w p1 D hD => ?_⟩
  have r1 := r.ext e1.f
  cases z : lc2D b gt gi1 b1 gt1 ge vs1 (wipeE en vs) ds with
  | none =>
    rw [z] at p1
    exact p1.elim
  | some out =>
    rw [z] at p1
    dsimp only at p1
    split at p1
    · rename_i c
      have c : out.length ≤ sizeLine := of_decide_eq_true c
      obtain ⟨G, hG, w⟩ := w
      refine ⟨fun i m H2 => m = ds.length - i ∧ i ≤ ds.length ∧ ∃ Fi Hi acc xs, H2 = upd Hi D (.lst xs) ∧ Ex M.T F1 H1 Fi Hi ∧ Hi D = none ∧ lc2D b gt gi1 b1 gt1 ge vs1 (wipeE en vs) (ds.take i) = some acc ∧ RA M Fi xs acc, ⟨ds.length, by simp, Nat.zero_le _, F1, H1, [], [], rfl, Ex.refl e1.s, hD, by rw [List.take_zero]; rfl, .nil⟩, ?_⟩
      rintro i m H2 ⟨rfl, hi, Fi, Hi, acc, xs, rfl, xe, n, ea, ra⟩
      have gG : G (upd Hi D (.lst xs)) := hG _ (sNew (xe.f.trans xe.s.s) n)
      by_cases hlt : i < ds.length
      · refine .inr ⟨w.goes i _ hlt gG, fun H2 => ∃ Fi Hi acc xs, H2 = upd Hi D (.lst xs) ∧ Ex M.T F1 H1 Fi Hi ∧ Hi D = none ∧ lc2D b gt gi1 b1 gt1 ge vs1 (wipeE en vs) (ds.take (i + 1)) = some acc ∧ RA M Fi xs acc, fun H' p' => ⟨ds.length - (i + 1), by omega, rfl, hlt, p'⟩, fun x H3 y => ?_⟩
        obtain ⟨F3, d, e3, ed, rd⟩ := w.yields i _ x H3 hlt gG y Fi xe.f (xe.s.up n)
        have zz := z
        rw [split_at ed, lc2D_app, ea] at zz
        simp only [Option.bind_some, lc2D] at zz
        have rw' : REn M F3 (L2.wipe σ vs) (wipeE en vs) := ((r1.wipe vs).ext xe.f).ext e3.f
        have step : lc2D b gt gi1 b1 gt1 ge vs1 (wipeE en vs) (ds.take (i + 1)) = (lc2D b gt gi1 b1 gt1 ge vs1 (wipeE en vs) [d]).map (acc ++ ·) := by
          rw [take_at ed, lc2D_app, ea]
          rfl
        cases zb : b (wipeE en vs) d with
        | none => rw [zb] at zz; cases zz
        | some en' =>
          rw [zb] at zz
          simp only [Option.bind_some] at zz
          have one : lc2D b gt gi1 b1 gt1 ge vs1 (wipeE en vs) [d] = match gt en' with
            | .ok true => (match gi1 en' with
              | .ok items => lcD b1 gt1 ge (wipeE en' vs1) items
              | _ => none)
            | .ok false => some []
            | _ => none := by
            simp only [lc2D, zb, Option.bind_some]
            split
            · split
              · rename_i items _
                cases lcD b1 gt1 ge (wipeE en' vs1) items <;> simp
              · rfl
            · rfl
            · rfl
          refine ⟨F3, wipeE en vs, d, en', e3.s, rw', rd, zb, fun σ' l' q' o' => ⟨(wipe_congr l' fun j hj => o' j fun z => hj (hsl j z)).trans wipe_wipe, F3, en', e3.s, q', ?_⟩⟩
          cases zt : gt en' with
          | bad => rw [zt] at zz; cases zz
          | exc c d' => rw [zt] at zz; cases zz
          | ok t =>
            refine fun t' F4 H4 e4 et => ?_
            subst et
            cases t' with
            | false =>
              rw [if_neg (by decide)]
              obtain ⟨H5, g1, g2, g3⟩ := back_ hD xe n (e3.trans e4) (.inl ⟨_, rfl⟩)
              rw [zt] at one
              refine ⟨F4, H5, acc, xs, g1, g2, g3, ?_, (ra.ext e3.f).ext e4.f⟩
              rw [step, one]
              simp
            | true =>
              rw [if_pos rfl]
              refine ⟨F4, en', e4.s, q'.ext e4.f, ?_⟩
              cases zi : gi1 en' with
              | bad => rw [zt, zi] at zz; cases zz
              | exc c d' => rw [zt, zi] at zz; cases zz
              | ok items =>
                rw [zt, zi] at zz one
                dsimp only at zz one
                intro J1 F5 H5 e5 w1
                obtain ⟨G1, hG1, w1⟩ := w1
                have e35 := (e3.trans e4).trans e5
                obtain ⟨H6, rfl, x6, n6⟩ := back_ hD xe n e35 (.inl ⟨_, rfl⟩)
                have q5 : REn M F5 σ' en' := (q'.ext e4.f).ext e5.f
                cases zl : lcD b1 gt1 ge (wipeE en' vs1) items with
                | none => rw [zl] at zz; cases zz
                | some l1 =>
                  rw [zl] at zz one
                  simp only [Option.bind_some] at zz
                  obtain ⟨rest, zr, ez⟩ : ∃ rest, lc2D b gt gi1 b1 gt1 ge vs1 (wipeE en vs) (ds.drop (i + 1)) = some rest ∧ acc ++ (l1 ++ rest) = out := by
                    cases zr : lc2D b gt gi1 b1 gt1 ge vs1 (wipeE en vs) (ds.drop (i + 1)) with
                    | none => rw [zr] at zz; cases zz
                    | some rest =>
                      rw [zr] at zz
                      exact ⟨rest, rfl, Option.some.inj zz⟩
                  have lo : acc.length + l1.length ≤ sizeLine := by
                    rw [← ez] at c
                    simp only [List.length_append] at c
                    omega
                  refine ⟨fun j k H7 => k = items.length - j ∧ j ≤ items.length ∧ ∃ Fj Hj acc1 xs1, H7 = upd Hj D (.lst (xs ++ xs1)) ∧ Ex M.T F1 H1 Fj Hj ∧ Hj D = none ∧ Same F5 Fj ∧ lcD b1 gt1 ge (wipeE en' vs1) (items.take j) = some acc1 ∧ RA M Fj xs1 acc1, ⟨items.length, by simp, Nat.zero_le _, F5, H6, [], [], by rw [List.append_nil], x6, n6, Same.refl _, by rw [List.take_zero]; rfl, .nil⟩, ?_⟩
                  rintro j k H7 ⟨rfl, hj, Fj, Hj, acc1, xs1, rfl, xj, nj, s5, ea1, ra1⟩
                  have rxs : RA M Fj xs acc := (ra.ext e35.f).ext s5
                  have gG1 : G1 (upd Hj D (.lst (xs ++ xs1))) := hG1 _ (sNew (s5.trans xj.s.s) nj)
                  by_cases hjt : j < items.length
                  · refine .inr ⟨w1.goes j _ hjt gG1, fun H7 => ∃ Fj Hj acc1 xs1, H7 = upd Hj D (.lst (xs ++ xs1)) ∧ Ex M.T F1 H1 Fj Hj ∧ Hj D = none ∧ Same F5 Fj ∧ lcD b1 gt1 ge (wipeE en' vs1) (items.take (j + 1)) = some acc1 ∧ RA M Fj xs1 acc1, fun H' p' => ⟨items.length - (j + 1), by omega, rfl, hjt, p'⟩, fun x2 H8 y2 => ?_⟩
                    obtain ⟨F8, d2, e8, ed2, rd2⟩ := w1.yields j _ x2 H8 hjt gG1 y2 Fj s5 (xj.s.up nj)
                    have zz2 := zl
                    rw [split_at ed2, lcD_snoc, ea1] at zz2
                    simp only [Option.bind_some, lcD] at zz2
                    have rw2 : REn M F8 (L2.wipe σ' vs1) (wipeE en' vs1) := ((q5.wipe vs1).ext s5).ext e8.f
                    have step2 : lcD b1 gt1 ge (wipeE en' vs1) (items.take (j + 1)) = (lcD b1 gt1 ge (wipeE en' vs1) [d2]).map (acc1 ++ ·) := by
                      rw [take_at ed2, lcD_snoc, ea1]
                      rfl
                    cases zb2 : b1 (wipeE en' vs1) d2 with
                    | none => rw [zb2] at zz2; cases zz2
                    | some en2 =>
                      rw [zb2] at zz2
                      simp only [Option.bind_some] at zz2
                      have one2 : lcD b1 gt1 ge (wipeE en' vs1) [d2] = match gt1 en2 with
                        | .ok true => (match ge en2 with
                          | .ok y => some [y]
                          | _ => none)
                        | .ok false => some []
                        | _ => none := by
                        simp only [lcD, zb2, Option.bind_some]
                        cases gt1 en2 with
                        | ok t =>
                          cases t with
                          | true => cases ge en2 <;> rfl
                          | false => rfl
                        | exc _ _ => rfl
                        | bad => rfl
                      refine ⟨F8, wipeE en' vs1, d2, en2, e8.s, rw2, rd2, zb2, fun σ3 l3 q3 o3 => ⟨(wipe_congr l3 fun j hj => o3 j fun z => hj (hsl1 j z)).trans wipe_wipe, F8, en2, e8.s, q3, ?_⟩⟩
                      cases zt2 : gt1 en2 with
                      | bad => rw [zt2] at zz2; cases zz2
                      | exc c d' => rw [zt2] at zz2; cases zz2
                      | ok t2 =>
                        refine fun t2' F9 H9 e9 et2 => ?_
                        subst et2
                        cases t2' with
                        | false =>
                          rw [if_neg (by decide)]
                          obtain ⟨H10, g1, g2, g3⟩ := back_ hD xj nj (e8.trans e9) (.inl ⟨_, rfl⟩)
                          rw [zt2] at one2
                          refine ⟨F9, H10, acc1, xs1, g1, g2, g3, (s5.trans e8.f).trans e9.f, ?_, (ra1.ext e8.f).ext e9.f⟩
                          rw [step2, one2]
                          simp
                        | true =>
                          rw [if_pos rfl]
                          refine ⟨F9, en2, e9.s, q3.ext e9.f, ?_⟩
                          cases ze : ge en2 with
                          | bad => rw [zt2, ze] at zz2; cases zz2
                          | exc c d' => rw [zt2, ze] at zz2; cases zz2
                          | ok y =>
                            refine fun u F10 H10 e10 ru => ?_
                            obtain ⟨H11, g1, g2, g3⟩ := back_ hD xj nj ((e8.trans e9).trans e10) (.inl ⟨_, rfl⟩)
                            rw [zt2, ze] at zz2 one2
                            dsimp only at zz2 one2
                            have l2 : acc1.length + 1 ≤ l1.length := by
                              cases zq : lcD b1 gt1 ge (wipeE en' vs1) (items.drop (j + 1)) with
                              | none => rw [zq] at zz2; cases zz2
                              | some l3 =>
                                rw [zq] at zz2
                                have e := Option.some.inj zz2
                                rw [← e]
                                simp only [List.length_append, List.length_cons]
                                omega
                            have h11 : H10 D = some (.lst (xs ++ xs1)) := by rw [g1, upd_same]
                            refine ⟨xs ++ xs1, h11, ?_, F10, H11, acc1 ++ [y], xs1 ++ [u], ?_, g2, g3, ((s5.trans e8.f).trans e9.f).trans e10.f, ?_, (((ra1.ext e8.f).ext e9.f).ext e10.f).app (.one ru)⟩
                            · have a1 := rxs.len
                              have a2 := ra1.len
                              rw [List.length_append]
                              omega
                            · rw [g1, upd_upd, List.append_assoc]
                            · rw [step2, one2]
                              rfl
                  · have e : j = items.length := by omega
                    subst e
                    rw [List.take_length, zl] at ea1
                    cases ea1
                    refine .inl ⟨w1.stops _ gG1, Fj, Hj, acc ++ l1, xs ++ xs1, rfl, xj, nj, ?_, rxs.app ra1⟩
                    rw [step, one]
                    rfl
      · have e : i = ds.length := by omega
        subst e
        rw [List.take_length, z] at ea
        cases ea
        exact .inl ⟨w.stops _ gG, p1 D xs Fi Hi xe n ra⟩
    · exact p1.elim
theorem do_lc2 {elt tg iter tg1 iter1 : Expr} {ifs ifs1 : List Expr} {scope : Scope} {own : List (Str × Nat)} {vs1 : List Nat} {b b1 : En → D → Option En} {sl sl1 : List Nat} {gt gt1 : En → Oc Bool} {gi1 : En → Oc (List D)} {ge : En → Oc D} {gi : En → Oc (List D)} (hc : X.calm = true) (hN : X.N.Nodup) (hi : PI X tg iter (tPI M E gi)) (ok : BlkOk X.N X.env.scope scope own) (hv : ∀ i ∈ vs1, i ∈ own.map (·.2))
    (hg : ∀ (s : Shared) (H : Hp) (C : Addr) (cl : List (Str × Addr)) (fp : List Addr), PG (X.blk s H scope (compEnvC scope cl C X.env) fp) tg (tPG M b sl)) (ht : ∀ (s : Shared) (H : Hp) (C : Addr) (cl : List (Str × Addr)) (fp : List Addr), PTs (X.blk s H scope (compEnvC scope cl C X.env) fp) ifs (tPT M NoX gt))
    (hi1 : ∀ (s : Shared) (H : Hp) (C : Addr) (cl : List (Str × Addr)) (fp : List Addr), PI (X.blk s H scope (compEnvC scope cl C X.env) fp) tg1 iter1 (tPI M NoX gi1))
    (hg1 : ∀ (s : Shared) (H : Hp) (C : Addr) (cl : List (Str × Addr)) (fp : List Addr), PG (X.blk s H scope (compEnvC scope cl C X.env) fp) tg1 (tPG M b1 sl1)) (ht1 : ∀ (s : Shared) (H : Hp) (C : Addr) (cl : List (Str × Addr)) (fp : List Addr), PTs (X.blk s H scope (compEnvC scope cl C X.env) fp) ifs1 (tPT M NoX gt1))
    (he : ∀ (s : Shared) (H : Hp) (C : Addr) (cl : List (Str × Addr)) (fp : List Addr), PE (X.blk s H scope (compEnvC scope cl C X.env) fp) elt (tP M NoX ge)) (hsl : ∀ j ∈ sl, j ∈ own.map (·.2)) (hsl1 : ∀ j ∈ sl1, j ∈ vs1) (hs : ∀ x, foldedSetIterable iter X.env x = pure x := by intro _; rfl) (hs1 : ∀ env x, foldedSetIterable iter1 env x = pure x := by intro _ _; rfl) :
    PE X (.ListComp elt [⟨tg, iter, ifs, 0⟩, ⟨tg1, iter1, ifs1, 0⟩] scope pos) (tPo M E (gLc2 b gt gi1 b1 gt1 ge (own.map (·.2)) vs1 gi)) := PEup (pe_lc2 hc hN hi ok hv hg ht hi1 hg1 ht1 he hs hs1) (lc2_up hsl hsl1)
end
end Pl

set_option maxRecDepth 100000
set_option maxHeartbeats 4000000
namespace Pl
open PySem PySem.Spec PyProof.Rows L2 Fx
open PySem.W (Frag)
/-- built-ins are not covered by names of the module -/
structure BB (mg : Str → Option Value) : Prop where
  isi : mg "isinstance" = none
  int : mg "int" = none
  bool : mg "bool" = none
  str : mg "str" = none
  tuple : mg "tuple" = none
  list : mg "list" = none
  len : mg "len" = none
  all : mg "all" = none
  any : mg "any" = none
  zip : mg "zip" = none
  enum : mg "enumerate" = none
  range : mg "range" = none
  sorted : mg "sorted" = none
  set : mg "set" = none
  min : mg "min" = none
  max : mg "max" = none
  sum : mg "sum" = none
  repr : mg "repr" = none
  dict : mg "dict" = none
/-- an own exception with one field -/
structure BXp (P : Program) (K : Frag) (mg : Str → Option Value) (C : Addr) (nm fld : Str) : Prop where
  xt : ∃ B nw ini bmB f, XT P K mg B nw ini bmB C f fld
  sB : PySem.W.subIn K (.ref C) (.type "BaseException") = some true
  tB : PySem.W.typeIn K (.ref C) = some (.type "type")
  gB : mg nm = some (.ref C)
  kB : PySem.W.keepIn K (.ref C) = true
section
variable {X : Cx} {M : MC} {E : XK} {pos : Pos} {F0 H0 G B H H1 F1 : Hp} {se : SE} {σ : L2.St} {D : Ends}
theorem s_raiseB {c : Str} {e : Expr} {g : En → Oc Pl.D} {k : Nat} {p p2 : Pos} (L : BXp X.prog X.K X.mg (M.xa c) c (M.fl c)) (hr : Room k X.A) (tk : Takes X (fun cls d _ H => E cls d H)) (he : PE X e (tP M E g)) (hc : X.calm = true := by rfl) (hg : Gl X c := by rfl)
    (hs : starEach [e] X.env = (false, eval e X.env) :: starEach [] X.env := by rfl) (hdb : (c == ("__debug__" : Str)) = false := by decide) : PS X (.Raise (some (.Call (.Name c p) [e] [] p2)) none pos) (tS M E (qRaise c g)) := by
  obtain ⟨Bb, nw, ini, bmB, fB, xt⟩ := L.xt
  exact s_raise (te := e) (fld := c) hc tk (pmk_x xt (raises_own L.sB L.tB) hr L.gB L.kB he hg hs hdb)
theorem d_gintE {x : Str} {i : Int} (hg : Gl X x) (hm : ∃ t, X.mg x = some (.int i t)) (hd : (x == ("__debug__" : Str)) = false := by decide) : PE X (.Name x pos) (tP M E fun _ => .ok (.int i)) := by
  obtain ⟨t, hm⟩ := hm
  exact d_gint hg hm hd
/-! ### truth of ints, lists, tuples -/
def toT : Pl.D → Oc Bool
  | .bl b => .ok b
  | .int i => .ok (decide (i ≠ 0))
  | .lst ds => .ok (!ds.isEmpty)
  | .tup ds => .ok (!ds.isEmpty)
  | _ => .bad
def gT (g : En → Oc Pl.D) : En → Oc Bool := fun en => (g en).bind toT
/-! ### {} -/
theorem d_dnew : PE X (.Dict [] [] pos) (tP M E fun _ => .ok (.dic [] [])) := PEup pe_dnewK fun σ H Q ⟨F, en, s, r, p⟩ q hq => by
  have ex : Ex M.T F H (upd F q (.dK [])) (upd H q (.dK [])) := Ex.new s hq
  exact p _ _ _ ex (.dic (.inl upd_same) .nil .nil)
end
end Pl

set_option maxRecDepth 100000
set_option maxHeartbeats 4000000
namespace Pl
open PySem PySem.Spec PyProof.Rows L2 Fx
open PySem.W (Frag)
theorem _root_.L2.Room.units1 {k : Nat} {A : Around} (r : L2.Room k A) : A.units + 1 < cLine := by have := r.un; omega
/-- a def that never is called -/
theorem fnOk_bad {P : Program} {w : World} {K : Frag} {mg : Str → Option Value} {base : Heap} {CX : CXT} {M : MC} {k : Nat} {f : Addr} {fd : FuncData} {ps : List Str} {n : Nat} (h : ps.length = n) : FnOk P w K mg base CX k f fd ps (spD M n fun _ => .bad) :=
  ⟨fun vs H Q E z => by rw [spD_len z, h], fun A outer s H args us vs Q E hr he hb hv hs => by
    obtain ⟨F, ds, _, _, p⟩ := hs
    unfold many at p
    split at p <;> exact p.elim⟩
/-- a method that may be called: len -/
structure DL (P : Program) (w : World) (K : Frag) (mg : Str → Option Value) (base : Heap) (M : MC) (k : Nat) (f : Addr) (n : Nat) (ps : List Str) (φ : List D → Oc D) : Prop where
  ex : ∃ fd : FuncData, FnOk P w K mg base (L2.CX P w) k f fd ps (spD M n φ) ∧ Binds K fd ps []
section
variable {X : Cx} {M : MC} {E : XK} {pos : Pos}
theorem dt_tru {e : Expr} {g : En → Oc D} (hK : M.K = X.K) (h : PE X e (tP M E g)) (he : ∀ whole, isTrue e X.env whole = (do let v ← whole; standAt e.pos; holding [v] (truthy v)) := by intro _; rfl) : PT X e (tPT M E (gT g)) :=
  PTup (pt_truth h he) fun σ H Q ⟨F, en, s, r, p⟩ => ⟨F, en, s, r, Post.bd p fun x a F1 H1 e1 r1 p1 => by
    cases r1 with
    | bl b => exact ⟨b, rfl, p1.pureB e1.s⟩
    | int i =>
      refine ⟨_, rfl, ?_⟩
      have e : (i != 0) = decide (i ≠ 0) := by
        by_cases c : i = 0
        · subst c
          rfl
        · rw [decide_eq_true c, bne_iff_ne.mpr c]
      rw [e]
      exact p1.pureB e1.s
    | lst h t =>
      refine ⟨_, .inl ⟨_, by rw [← hK]; exact SqL.of (e1.s.s _ _ h), rfl⟩, ?_⟩
      rename_i xs ds
      have e : xs.isEmpty = ds.isEmpty := by
        cases t <;> rfl
      rw [e]
      exact p1.pureB e1.s
    | tup h t =>
      refine ⟨_, .inr (.inl ⟨_, by rw [← hK]; exact SqT.ext h e1.s.s, rfl⟩), ?_⟩
      rename_i xs ds
      have e : xs.isEmpty = ds.isEmpty := by
        cases t <;> rfl
      rw [e]
      exact p1.pureB e1.s
    | _ => exact p1.elim⟩
end
end Pl

set_option maxRecDepth 100000
set_option maxHeartbeats 4000000
namespace Pl
open PySem PySem.Spec PyProof.Rows L2 Fx
open PySem.W (Frag)
/-! ### a code is made -/
mutual
def noAdr : D → Bool
  | .lst xs => noAdrs xs
  | .tup xs => noAdrs xs
  | .dic ks vs => noAdrs ks && noAdrs vs
  | .code a b c => noAdr a && noAdr b && noAdr c
  | .adr _ => false
  | .exv _ d => noAdr d
  | _ => true
def noAdrs : List D → Bool
  | [] => true
  | x :: xs => noAdr x && noAdrs xs
end
/-- the same, self being at a -/
def MC.at (M : MC) (a : Addr) : MC := { M with sf := fun _ => a }
mutual
theorem R.to {M : MC} {a : Addr} {H : Hp} : ∀ {v : V} {d : D}, R M H v d → noAdr d = true → R (M.at a) H v d
  | _, _, .non, _ => .non
  | _, _, .bl b, _ => .bl b
  | _, _, .int i, _ => .int i
  | _, _, .str h, _ => .str h
  | _, _, .atm h g, _ => .atm (M := M.at a) h g
  | _, _, .lst h t, n => .lst h (RA.to t (by simpa [noAdr] using n))
  | _, _, .tup h t, n => .tup h (RA.to t (by simpa [noAdr] using n))
  | _, _, .dic h t u, n => by
    simp only [noAdr, Bool.and_eq_true] at n
    exact .dic h (RA.to t n.1) (RA.to u n.2)
  | _, _, .code h x y z, n => by
    simp only [noAdr, Bool.and_eq_true] at n
    exact .code (M := M.at a) h (R.to x n.1.1) (R.to y n.1.2) (R.to z n.2)
  | _, _, .adr _, n => by simp [noAdr] at n
  | _, _, .exv h g r, n => .exv (M := M.at a) h g (R.to r (by simpa [noAdr] using n))
theorem RA.to {M : MC} {a : Addr} {H : Hp} : ∀ {vs : List V} {ds : List D}, RA M H vs ds → noAdrs ds = true → RA (M.at a) H vs ds
  | _, _, .nil, _ => .nil
  | _, _, .cons h t, n => by
    simp only [noAdrs, Bool.and_eq_true] at n
    exact .cons (R.to h n.1) (RA.to t n.2)
end
mutual
theorem R.back {M : MC} {a : Addr} {H : Hp} : ∀ {v : V} {d : D}, R (M.at a) H v d → noAdr d = true → R M H v d
  | _, _, .non, _ => .non
  | _, _, .bl b, _ => .bl b
  | _, _, .int i, _ => .int i
  | _, _, .str h, _ => .str h
  | _, _, .atm h g, _ => .atm (M := M) h g
  | _, _, .lst h t, n => .lst h (RA.back t (by simpa [noAdr] using n))
  | _, _, .tup h t, n => .tup h (RA.back t (by simpa [noAdr] using n))
  | _, _, .dic h t u, n => by
    simp only [noAdr, Bool.and_eq_true] at n
    exact .dic h (RA.back t n.1) (RA.back u n.2)
  | _, _, .code h x y z, n => by
    simp only [noAdr, Bool.and_eq_true] at n
    exact .code (M := M) h (R.back x n.1.1) (R.back y n.1.2) (R.back z n.2)
  | _, _, .adr _, n => by simp [noAdr] at n
  | _, _, .exv h g r, n => .exv (M := M) h g (R.back r (by simpa [noAdr] using n))
theorem RA.back {M : MC} {a : Addr} {H : Hp} : ∀ {vs : List V} {ds : List D}, RA (M.at a) H vs ds → noAdrs ds = true → RA M H vs ds
  | _, _, .nil, _ => .nil
  | _, _, .cons h t, n => by
    simp only [noAdrs, Bool.and_eq_true] at n
    exact .cons (R.back h n.1) (RA.back t n.2)
end
section
variable {X : Cx} {M : MC} {E : XK} {pos : Pos} {F0 H0 G B H H1 F1 : Hp} {se : SE} {σ : L2.St} {D : Ends}
/-- what the making comes to -/
def PostI (M : MC) (E : XK) (F0 H0 : Hp) (a dx : Addr) (N : L2.St → Hp → Prop) : Oc Pl.D → Prop
  | .ok (.code p d j) => ∀ va vb vc G' H' σ', Ex M.T F0 H0 G' H' → R M G' va p → R M G' vb d → R M G' vc j → N σ' (upd H' a (.ins M.C dx [("places", va), ("door", vb), ("jumps", vc)]))
  | .exc c d => XP M E F0 H0 c d
  | _ => False
def tI (M : MC) (E : XK) (a dx : Addr) (k : SE → Oc Pl.D) : TS := fun D σ H => ∃ F0 H0 G B se, RSx M F0 H0 G B se σ H ∧ H0 a = some (.ins M.C dx []) ∧ F0 a = none ∧ PostI M E F0 H0 a dx D.nx (k se)
def bindK (s : SE → SR) (k : SE → Oc Pl.D) : SE → Oc Pl.D := fun se => match s se with
  | .nx e => k e
  | .exc c d => .exc c d
  | _ => .bad
theorem s_consI {st : Stmt} {rest : List Stmt} {s : SE → SR} {a dx : Addr} {k : SE → Oc Pl.D} (h1 : PS X st (tS M E s)) (h2 : PSs X rest (tI M E a dx k)) : PSs X (st :: rest) (tI M E a dx (bindK s k)) :=
  PSsup (pss_cons h1 h2) fun D σ H ⟨F0, H0, G, B, se, r, ha, fa, p⟩ => ⟨F0, H0, G, B, se, r, by
    unfold bindK at p
    cases z : s se with
    | nx e =>
      rw [z] at p
      exact fun σ' H' G' B' r' => ⟨F0, H0, G', B', e, r', ha, fa, p⟩
    | bk e => rw [z] at p; exact p.elim
    | ct e => rw [z] at p; exact p.elim
    | ret d => rw [z] at p; exact p.elim
    | exc c d => rw [z] at p; exact p
    | bad => rw [z] at p; exact p.elim⟩
def im? (se : SE) (i : Nat) : Option Pl.D := match se[i]? with
  | some (some (.im d)) => some d
  | _ => none
theorem im?_eq {i : Nat} {d : Pl.D} (h : im? se i = some d) : se[i]? = some (some (.im d)) := by
  unfold im? at h
  split at h
  · rename_i z
    rw [z, Option.some.inj h]
  · cases h
def kEnd (se : SE) : Oc Pl.D := match im? se 0, im? se 1, im? se 2, im? se 3 with
  | some (.adr _), some p, some d, some (.lst js) => .ok (.code p d (.tup js))
  | some (.adr _), some p, some d, some (.tup js) => .ok (.code p d (.tup js))
  | _, _, _, _ => .bad
theorem upd_cross {H : Hp} {a l : Addr} {x y t z : HO} (h : l ≠ a) : upd (upd (upd (upd H a x) a y) l t) a z = upd (upd H l t) a z := by
  funext b
  by_cases c : b = a
  · subst c
    rw [upd_same, upd_same]
  · rw [upd_ne c, upd_ne c]
    by_cases c2 : b = l
    · subst c2
      rw [upd_same, upd_same]
    · rw [upd_ne c2, upd_ne c2, upd_ne c, upd_ne c]
theorem ins_nt {C dx : Addr} {fs : List (Str × V)} : ∀ ps, HO.ins C dx fs ≠ .tbl ps := fun _ z => by cases z
theorem s_endI {a dx : Addr} {q1 q2 q3 q4 q5 q6 q8 q9 p1 p2 p3 p4 pt pt2 : Pos} (hsf : ∀ n, M.sf n = a) (hK : M.K = X.K) (cl : Cls X.K M.C) (nP : NoAttr X.K M.C "places") (nD : NoAttr X.K M.C "door") (nJ : NoAttr X.K M.C "jumps")
    (n0 : X.N[0]? = some ("self" : Str)) (n1 : X.N[1]? = some ("places" : Str)) (n2 : X.N[2]? = some ("door" : Str)) (n3 : X.N[3]? = some ("jumps" : Str)) (v0 : Vis X.env.scope "self") (v1 : Vis X.env.scope "places") (v2 : Vis X.env.scope "door") (v3 : Vis X.env.scope "jumps") (gt : Gl X "tuple") (ht : X.mg "tuple" = none)
    (w1 : swapsWith (.Name "places" q1) (some (.Attribute (.Name "self" p1) "places" q2)) q3.line X.env = pure false := by rfl)
    (w2 : swapsWith (.Name "door" q4) (some (.Attribute (.Name "self" p2) "door" q5)) q6.line X.env = pure false := by rfl)
    (w3 : swapsWith (.Call (.Name "tuple" pt) [.Name "jumps" p4] [] pt2) (some (.Attribute (.Name "self" p3) "jumps" q8)) q9.line X.env = pure false := by rfl)
    (na : starEach [.Name "jumps" p4] X.env = (false, eval (.Name "jumps" p4) X.env) :: starEach [] X.env := by rfl) (hpl : (backTo pt2 (starEach [] X.env)).any (·.1) = false := by rfl) :
    PSs X [.Assign [.Attribute (.Name "self" p1) "places" q2] (.Name "places" q1) q3, .Assign [.Attribute (.Name "self" p2) "door" q5] (.Name "door" q4) q6, .Assign [.Attribute (.Name "self" p3) "jumps" q8] (.Call (.Name "tuple" pt) [.Name "jumps" p4] [] pt2) q9] (tI M E a dx kEnd) := by
  refine PSsup (pss_cons (ps_fld (pe_var n0 v0) (pe_var n1 v1) w1) (pss_cons (ps_fld (pe_var n0 v0) (pe_var n2 v2) w2) (pss_one (ps_fld (pe_var n0 v0) (pe_callTy call_tuple_of gt ht (by decide +kernel) (pa_cons (pe_var n3 v3) pa_nil na) (he := na) (hpl := hpl)) w3)))) fun D σ H ⟨F0, H0, G, B, se, r, ha, fa, p⟩ => ?_
  have key : ∃ (n : Nat) (pd dd jd : Pl.D) (js : List Pl.D), im? se 0 = some (.adr n) ∧ im? se 1 = some pd ∧ im? se 2 = some dd ∧ im? se 3 = some jd ∧ items? jd = some js ∧ PostI M E F0 H0 a dx D.nx (.ok (.code pd dd (.tup js))) := by
    unfold kEnd at p
    split at p
    · rename_i g0 g1 g2 g3
      exact ⟨_, _, _, _, _, g0, g1, g2, g3, rfl, p⟩
    · rename_i g0 g1 g2 g3
      exact ⟨_, _, _, _, _, g0, g1, g2, g3, rfl, p⟩
    · exact p.elim
  obtain ⟨n, pd, dd, jd, js, i0, i1, i2, i3, hj, p⟩ := key
  obtain ⟨u0, e0, r0⟩ := r.im 0 _ (im?_eq i0)
  obtain ⟨u1, e1, r1⟩ := r.im 1 _ (im?_eq i1)
  obtain ⟨u2, e2, r2⟩ := r.im 2 _ (im?_eq i2)
  obtain ⟨u3, e3, r3⟩ := r.im 3 _ (im?_eq i3)
  obtain rfl : u0 = .ref a := by
    cases r0
    rw [hsf]
  have hH : H a = some (.ins M.C dx []) := r.g.h _ _ ha ins_nt
  have ga : G a = none := r.g.n a fa ⟨_, ha, ins_nt⟩
  refine ⟨u1, e1, _, e0, a, M.C, dx, [], rfl, hH, cl, nP, by decide, u2, e2, _, e0, a, M.C, dx, _, rfl, upd_same, cl, nD, by show 1 < 1000; decide, u3, e3, ?_⟩
  have s2 : Same G (upd (upd H a (.ins M.C dx (putF "places" u1 []))) a (.ins M.C dx (putF "door" u2 (putF "places" u1 [])))) := sPut (sPut r.g.s.s ga) ga
  cases r3 with
  | lst h3 t3 =>
    cases hj
    rename_i b3 xs3
    refine ⟨_, _, rfl, .inl ⟨SqL.of (s2 _ _ h3), fun l hl => ?_⟩⟩
    have la : l ≠ a := fun z => by
      rw [z, upd_same] at hl
      cases hl
    have hl0 : H l = none := by
      rw [upd_ne la, upd_ne la] at hl
      exact hl
    refine ⟨_, e0, a, M.C, dx, _, rfl, by rw [upd_ne (Ne.symm la), upd_same], cl, nJ, by show 2 < 1000; decide, ?_⟩
    rw [upd_cross la]
    have ex : Ex M.T G H (upd G l (.tup xs3)) (upd H l (.tup xs3)) := Ex.new r.g.s hl0
    exact p u1 u2 (.ref l) _ _ _ (r.g.trans ex) (r1.ext ex.f) (r2.ext ex.f) (.tup (SqT.of upd_same) (t3.ext ex.f))
  | tup h3 t3 =>
    cases hj
    refine ⟨_, _, rfl, .inr ⟨by rw [← hK]; exact SqT.ext h3 s2, ?_⟩⟩
    refine ⟨_, e0, a, M.C, dx, _, rfl, upd_same, cl, nJ, by show 2 < 1000; decide, ?_⟩
    rw [upd_upd, upd_upd]
    exact p u1 u2 _ _ _ _ r.g r1 r2 (.tup h3 t3)
  | _ => cases hj
end
/-! ### the def __init__ -/
/-- a def with defaults -/
structure FunW (K : Frag) (x qual : Str) (st : Stmt) (f : Addr) (fd : FuncData) : Prop where
  ex : ∃ (oc : Value) (od : Option Addr) (dV kV doc pm : Value) (an : Option Addr) (cdv ct : Value) (osl : Array (Option Value)),
    fd = PySem.W.fnOf x qual (defArgs st) (defBody st) (defScope st) dV kV doc pm an cdv ct ∧ K.lookup f = some ⟨oc, od, .func fd, osl⟩ ∧ PySem.W.codeIn K cdv qual = true
  kp : PySem.W.keepIn K (.ref f) = true
theorem FunW.okX {P : Program} {w : World} {K : Frag} {mg : Str → Option Value} {base : Heap} {x qual : Str} {st : Stmt} {f : Addr} {fd : FuncData} {N ps : List Str} {k : Nat} {sp : Sp} (F : FunW K x qual st f fd) (S : FnScope N ps (defScope st)) (hlen : ∀ vs H Q E, sp vs H Q E → vs.length = ps.length)
    (hb : ∀ (cdv : Value) (A : Around) (outer : List Env) (s : Shared) (H : Hp) (vs : List V) (Q : VK) (E : XK), Room k (A.deeper (envOfC qual (defScope st) s.heap.objs.size f cdv)) → sp vs H Q E →
      ∃ t, PSs (cxOf (L2.CX P w) P w K mg base N qual (defScope st) f cdv A outer s H E) (defBody st) t ∧ t { nx := fun _ H' => Q .non H', rt := Q } (start N vs) H) : FnOk P w K mg base (L2.CX P w) (k + 1) f fd ps sp := by
  obtain ⟨oc, od, dV, kV, doc, pm, an, cdv, ct, osl, rfl, hl, hc⟩ := F.ex
  exact fn_of hl hc S hlen fun A outer s H vs Q E hr hsp => hb cdv A outer s H vs Q E hr hsp
/-- what __init__ is asked -/
def spI (M : MC) (φ : List D → Oc D) : Sp := fun vs H Q E => ∃ (a dx : Addr) (us : List V) (F : Hp) (ds : List D), vs = .ref a :: us ∧ us.length = 3 ∧ H a = some (.ins M.C dx []) ∧ F a = none ∧ Sx M.T F H ∧ RA M F us ds ∧ PostI M E F H a dx (fun _ H' => Q .non H') (φ ds)
/-- the def's own function of its data -/
def initD (N : Nat) (k : SE → Oc D) : List D → Oc D := fun ds => if noAdrs ds = true ∧ ds.length = 3 then (match k (se0 N (.adr 0 :: ds)) with
  | .ok (.code p d j) => if noAdr p = true ∧ noAdr d = true ∧ noAdr j = true then .ok (.code p d j) else .bad
  | .exc c d => if noAdr d = true then .exc c d else .bad
  | _ => .bad) else .bad
theorem initO {P : Program} {w : World} {K : Frag} {mg : Str → Option Value} {base : Heap} {M : MC} {st : Stmt} {f : Addr} {fd : FuncData} {N : List Str} {k : Nat} {s : SE → Oc D} (F : FunW K "__init__" "Code.__init__" st f fd) (S : FnScope N ["self", "places", "door", "jumps"] (defScope st))
    (hbody : ∀ (a dx : Addr) (cdv : Value) (A : Around) (outer : List Env) (s0 : Shared) (H : Hp) (E : XK), Room k (A.deeper (envOfC "Code.__init__" (defScope st) s0.heap.objs.size f cdv)) →
      PSs (cxOf (L2.CX P w) P w K mg base N "Code.__init__" (defScope st) f cdv A outer s0 H E) (defBody st) (tI (M.at a) E a dx s)) : FnOk P w K mg base (L2.CX P w) (k + 1) f fd ["self", "places", "door", "jumps"] (spI M (initD N.length s)) :=
  F.okX S (fun vs H Q E ⟨a, dx, us, F, ds, e, l, _⟩ => by rw [e, List.length_cons, l]; rfl) fun cdv A outer s0 H vs Q E hr hsp => by
    obtain ⟨a, dx, us, Fh, ds, rfl, l3, ha, fa, sx, ra, p⟩ := hsp
    refine ⟨_, hbody a dx cdv A outer s0 H E hr, ?_⟩
    unfold initD at p
    split at p
    · rename_i c
      obtain ⟨na, l⟩ := c
      have r : RA (M.at a) Fh (V.ref a :: us) (.adr 0 :: ds) := .cons (.adr (M := M.at a) 0) (ra.to na)
      refine ⟨Fh, H, Fh, fun _ => none, _, rs_start sx r, ha, fa, ?_⟩
      cases z : s (se0 N.length (.adr 0 :: ds)) with
      | ok d =>
        rw [z] at p
        cases d with
        | code u v t =>
          dsimp only at p
          split at p
          · rename_i c2
            exact fun va vb vc G' H' σ' e r1 r2 r3 => p va vb vc G' H' σ' e (r1.back c2.1) (r2.back c2.2.1) (r3.back c2.2.2)
          · exact p.elim
        | _ => exact p.elim
      | exc c d =>
        rw [z] at p
        dsimp only at p
        split at p
        · rename_i c2
          exact fun v F' H' dx e rv n => p v F' H' dx e (rv.back c2) n
        · exact p.elim
      | bad =>
        rw [z] at p
        exact p.elim
    · exact p.elim
end Pl

set_option maxRecDepth 100000
set_option maxHeartbeats 4000000
namespace Pl
open PySem PySem.Spec PyProof.Rows L2 Fx
open PySem.W (Frag)
/-! ### Code(..), len(code) -/
structure WI (P : Program) (w : World) (K : Frag) (mg : Str → Option Value) (base : Heap) (M : MC) (k : Nat) (φ : List D → Oc D) : Prop where
  ex : ∃ (f : Addr) (fd : FuncData) (e : Addr), Mk K M.C f ∧ FnOk P w K mg base (L2.CX P w) k f fd ["self", "places", "door", "jumps"] (spI M φ) ∧ Binds K fd ["self", "places", "door", "jumps"] [] ∧ Binds K fd ["self", "places", "door", "jumps"] [.ref e] ∧ (∀ F, SqT K F e []) ∧ mg "Code" = some (.ref M.C)
structure WL (P : Program) (w : World) (K : Frag) (mg : Str → Option Value) (base : Heap) (M : MC) (φ : List D → Oc D) : Prop where
  ex : ∃ (f : Addr) (fd : FuncData), FnOk P w K mg base (L2.CX P w) 2 f fd ["self"] (spD M 1 φ) ∧ PySem.W.findIn K (.ref M.C) "__len__" = some (some (.ref f)) ∧ PySem.W.isFn K (.ref f) = true ∧ Binds K fd ["self"] []
theorem tabs_keepG {T : List (Addr × Str)} {H H' : Hp} {p : Addr} {o : HO} (t : LamX.Tabs T H) (hp : H p = some o) (n1 : ∀ ps, o ≠ .tbl ps) (n2 : ∀ c q, o ≠ LamX.CodeO c q) (k : ∀ b, b ≠ p → H' b = H b) : LamX.Tabs T H' := fun z hz => by
  obtain ⟨ps, e1, e2, e3⟩ := t z hz
  refine ⟨ps, ?_, e2, fun pos cv hc => ?_⟩
  · rw [k _ fun q => n1 ps (Option.some.inj (by rw [← hp, ← q]; exact e1))]
    exact e1
  · obtain ⟨c, g1, g2⟩ := e3 pos cv hc
    refine ⟨c, g1, ?_⟩
    rw [k _ fun q => n2 _ _ (Option.some.inj (by rw [← hp, ← q]; exact g2))]
    exact g2
section
variable {X : Cx} {M : MC} {E : XK} {pos : Pos}
theorem cd_lenW {φ : List D → Oc D} (W : WL X.prog X.w X.K X.mg X.base M φ) (hx : Passes (L2.CX X.prog X.w) X NoX) (hr : Room 3 X.A) : CallD X M (.builtin "len") (fLenC φ) := by
  obtain ⟨f, fd, F, hs, hf, hb⟩ := W.ex
  exact cd_lenC F hs hf hb hx hr
def mkD (φ : List D → Oc D) (as : List D) : Oc D := match φ as with
  | .ok (.code p d j) => .ok (.code p d j)
  | .exc c d => .exc c d
  | _ => .bad
theorem ins_nc {C dx : Addr} {fs : List (Str × V)} : ∀ c q, HO.ins C dx fs ≠ LamX.CodeO c q := fun _ _ z => by
  unfold LamX.CodeO at z
  cases z
theorem made_ok {φ : List D → Oc D} {F1 H1 : Hp} {us : List V} {as : List D} {Q : VK} {x dx : Addr} (s : Sx M.T F1 H1) (r : RA M F1 us as) (l : us.length = 3) (p : Post M E (R M) F1 H1 Q (mkD φ as)) (hx : H1 x = none) (hd : H1 dx = none) (ne : dx ≠ x) :
    spI M φ (.ref x :: us) (upd (upd H1 dx (.own x)) x (.ins M.C dx [])) (fun v H2 => v = .non ∧ Q (.ref x) H2) E := by
  have fx : F1 x = none := s.free hx
  have k1 : Same H1 (upd (upd H1 dx (.own x)) x (.ins M.C dx [])) := sNew (sNew (Same.refl H1) hd) (by rw [upd_ne (Ne.symm ne)]; exact hx)
  have j : Ex M.T F1 H1 F1 (upd (upd H1 dx (.own x)) x (.ins M.C dx [])) := Ex.junk s k1
  refine ⟨x, dx, us, F1, as, rfl, l, upd_same, fx, j.s, r, ?_⟩
  have hins : upd (upd H1 dx (.own x)) x (.ins M.C dx []) x = some (.ins M.C dx []) := upd_same
  generalize upd (upd H1 dx (.own x)) x (.ins M.C dx []) = Hx at k1 j hins
  unfold mkD at p
  cases z : φ as with
  | bad => rw [z] at p; exact p.elim
  | exc c d =>
    rw [z] at p
    exact fun v F' H' dx' e rv n => p v F' H' dx' (j.trans e) rv n
  | ok d =>
    rw [z] at p
    cases d with
    | code pd dd jd =>
      intro va vb vc F' H' σ' e ra rb rc
      have f'x : F' x = none := e.n x fx ⟨_, hins, ins_nt⟩
      have h'x : H' x = some (.ins M.C dx []) := e.h _ _ hins ins_nt
      have sF : Same F' (upd F' x (.ins M.C dx [("places", va), ("door", vb), ("jumps", vc)])) := sNew (Same.refl F') f'x
      refine ⟨rfl, p (.ref x) _ _ ⟨e.f.trans sF, fun b u q nt => ?_, ⟨fun b u q => ?_, fun b ps q => ?_, tabs_keepG e.s.tb h'x ins_nt ins_nc fun b hb => upd_ne hb⟩, fun b q1 q2 => ?_⟩ (.code upd_same (ra.ext sF) (rb.ext sF) (rc.ext sF))⟩
      · rw [upd_ne (ne_of_none q hx)]
        exact e.h _ _ (k1 _ _ q) nt
      · by_cases c : b = x
        · subst c
          rw [upd_same] at q ⊢
          exact q
        · rw [upd_ne c] at q ⊢
          exact e.s.s b u q
      · by_cases c : b = x
        · subst c
          rw [upd_same] at q
          cases q
        · rw [upd_ne c] at q
          exact e.s.nt b ps q
      · have c : b ≠ x := fun z => by
          obtain ⟨u, q, _⟩ := q2
          rw [z, hx] at q
          cases q
        rw [upd_ne c]
        exact e.n b q1 (q2.ext (extN_of k1))
    | _ => exact p.elim
def gMk (n : Nat) (φ : List D → Oc D) (gs : En → Oc (List D)) : En → Oc D := fun en => (gs en).bind fun ds => if ds.length = n then mkD φ (if n = 2 then ds ++ [.tup []] else ds) else .bad
theorem d_mk3 {p : Pos} {e : Expr} {es : List Expr} {k : Nat} {φ : List D → Oc D} {gs : En → Oc (List D)} (W : WI X.prog X.w X.K X.mg X.base M k φ) (hr : Room (k + 1) X.A) (hx : Passes (L2.CX X.prog X.w) X E) (ha : PA X (e :: es) (tPA M E gs))
    (hg : Gl X "Code" := by rfl) (he : starEach (e :: es) X.env = (false, eval e X.env) :: starEach es X.env := by rfl) (hpl : (backTo pos (starEach es X.env)).any (·.1) = false := by rfl) : PE X (.Call (.Name "Code" p) (e :: es) [] pos) (tP M E (gMk 3 φ gs)) := by
  obtain ⟨f, fd, e0, mk, F, b3, b2, he0, hm⟩ := W.ex
  exact PEup (pe_make mk F hr hg hm b3 .nil hx ha (he := he) (hpl := hpl)) fun σ H Q ⟨F, en, s, r, p⟩ => ⟨F, en, s, r, Post.bd p fun xs as F1 H1 e1 r1 p1 x dx h1 h2 ne => by
    split at p1
    · rename_i c
      rw [if_neg (by decide)] at p1
      rw [List.append_nil]
      exact made_ok e1.s r1 (by rw [r1.len]; exact c) p1 h1 h2 ne
    · exact p1.elim⟩
theorem d_mk2 {p : Pos} {e : Expr} {es : List Expr} {k : Nat} {φ : List D → Oc D} {gs : En → Oc (List D)} (W : WI X.prog X.w X.K X.mg X.base M k φ) (hK : M.K = X.K) (hr : Room (k + 1) X.A) (hx : Passes (L2.CX X.prog X.w) X E) (ha : PA X (e :: es) (tPA M E gs))
    (hg : Gl X "Code" := by rfl) (he : starEach (e :: es) X.env = (false, eval e X.env) :: starEach es X.env := by rfl) (hpl : (backTo pos (starEach es X.env)).any (·.1) = false := by rfl) : PE X (.Call (.Name "Code" p) (e :: es) [] pos) (tP M E (gMk 2 φ gs)) := by
  obtain ⟨f, fd, e0, mk, F, b3, b2, he0, hm⟩ := W.ex
  exact PEup (pe_make mk F hr hg hm b2 (dvs := [.ref e0]) (.cons rfl .nil) hx ha (he := he) (hpl := hpl)) fun σ H Q ⟨F, en, s, r, p⟩ => ⟨F, en, s, r, Post.bd p fun xs as F1 H1 e1 r1 p1 x dx h1 h2 ne => by
    split at p1
    · rename_i c
      rw [if_pos rfl] at p1
      have r2 : RA M F1 (xs ++ [.ref e0]) (as ++ [.tup []]) := r1.app (.one (.tup (by rw [hK]; exact he0 F1) .nil))
      exact made_ok e1.s r2 (by rw [r2.len, List.length_append, c]; rfl) p1 h1 h2 ne
    · exact p1.elim⟩
end
end Pl

set_option maxRecDepth 100000
set_option maxHeartbeats 4000000
namespace Pl
open PySem PySem.Spec PyProof.Rows L2 Fx
open PySem.W (Frag)
section
variable {X : Cx} {M : MC} {E : XK} {pos : Pos}
/-! ### items taken many times -/
def repD (ds : List D) : Nat → List D
  | 0 => []
  | n + 1 => ds ++ repD ds n
theorem repD_val {F : Hp} {vs : List V} {ds : List D} (r : RA M F vs ds) : ∀ n : Nat, RA M F (List.replicate n vs).flatten (repD ds n)
  | 0 => .nil
  | n + 1 => by
    rw [List.replicate_succ, List.flatten_cons]
    exact r.app (repD_val r n)
def fRep : D → D → Option D
  | .lst ds, .int k => if decide (0 ≤ k) && (decide (k ≤ 1000) && decide (ds.length ≤ 1000)) then some (.lst (repD ds k.toNat)) else none
  | .tup ds, .int k => if decide (2 ≤ k) && (decide (k ≤ 1000) && (decide (ds.length ≤ 1000) && !ds.isEmpty)) then some (.tup (repD ds k.toNat)) else none
  | _, _ => none
theorem thousand : 1000 * 1000 ≤ sizeLine := by rw [sizeLine_eq]; decide
theorem od_rep (hK : M.K = X.K) : OpD X M (binaryOp .Mult) fRep := OpRup (OpR.or op_rep op_repT) fun x y H Q h => by
  obtain ⟨F, a, b, d, s, ra, rb, e, q⟩ := rD_two h
  cases ra with
  | lst ha ra =>
    cases rb with
    | int k =>
      simp only [fRep] at e
      split at e
      · rename_i c
        simp only [Bool.and_eq_true, decide_eq_true_eq] at c
        cases e
        have l := ra.len
        refine .inl ⟨_, k, _, rfl, rfl, s.s _ _ ha, by omega, by omega, ?_, fun p hp => Post.newL (E := fun _ _ _ => False) (M := M) q s (repD_val ra _) hp⟩
        refine Nat.le_trans (Nat.mul_le_mul (show _ ≤ 1000 by omega) (show k.toNat ≤ 1000 by omega)) thousand
      · cases e
    | _ => cases e
  | tup ha ra =>
    cases rb with
    | int k =>
      simp only [fRep] at e
      split at e
      · rename_i c
        simp only [Bool.and_eq_true, decide_eq_true_eq, Bool.not_eq_true'] at c
        cases e
        have l := ra.len
        refine .inr ⟨_, k, _, rfl, rfl, by rw [← hK]; exact SqT.ext ha s.s, fun z => ?_, c.1, c.2.1, by omega, fun p hp => Post.newT (E := fun _ _ _ => False) (M := M) q s (repD_val ra _) hp⟩
        subst z
        cases ra
        exact absurd c.2.2.2 (by decide)
      · cases e
    | _ => cases e
  | _ => cases e
def fTimes (a b : D) : Option D := (fMul a b).or (fRep a b)
theorem od_mulA (hK : M.K = X.K) : OpD X M (binaryOp .Mult) fTimes := od_mul.or (od_rep hK)
def fPow := onI (fun i j => decide (0 ≤ j) && decide (j ≤ 1000000) && decide (i.natAbs < 2 ^ 64)) fun i j => .int (i ^ j.toNat)
theorem od_pow : OpD X M (binaryOp .Pow) fPow := od_int op_pow fun i j H F Q c _ k => ⟨i, j, rfl, rfl, by simpa [CPow, and_assoc] using c, k _ (.int _)⟩
/-! ### backwards -/
def fRev : D → Option D
  | .lst ds => some (.lst ds.reverse)
  | _ => none
theorem RA.rev {F : Hp} : ∀ {vs : List V} {ds : List D}, RA M F vs ds → RA M F vs.reverse ds.reverse
  | _, _, .nil => .nil
  | _, _, .cons h t => by
    rw [List.reverse_cons, List.reverse_cons]
    exact (RA.rev t).app (.one h)
theorem d_rev {e : Expr} {g : En → Oc D} {k : Nat} {p1 p2 p3 : Pos} (hK : M.K = X.K) (h : PE X e (tP M E g)) : PE X (.Subscript e (.Slice none none (some (.UnaryOp .USub (.Constant (.int 1) k p1) p2)) p3) pos) (tP M E (g1 fRev g)) :=
  PEup (pe_revL h) fun σ H Q ⟨F, en, s, r, p⟩ => ⟨F, en, s, r, Post.bd p fun x a F1 H1 e1 r1 p1 => by
    cases r1 with
    | lst h t => exact ⟨_, _, rfl, SqL.of (e1.s.s _ _ h), fun q hq => p1.newL e1.s t.rev hq⟩
    | _ => exact p1.elim⟩
/-! ### bits -/
def fBits : D → Option D
  | .int i => some (.int (Builtin.Int.intBits i : Nat))
  | _ => none
theorem d_bits {e : Expr} {g : En → Oc D} {p1 : Pos} (h : PE X e (tP M E g)) (hb : attributeBase e "bit_length" X.env (eval e X.env) = eval e X.env := by rfl) (hl : (p1.endLine == pos.line) = true := by rfl) : PE X (.Call (.Attribute e "bit_length" p1) [] [] pos) (tP M E (g1 fBits g)) :=
  PEup (pe_bits h hb hl) fun σ H Q ⟨F, en, s, r, p⟩ => ⟨F, en, s, r, Post.bd p fun x a F1 H1 e1 r1 p1 => by
    cases r1 with
    | int i => exact ⟨i, rfl, p1.pure e1.s (.int _)⟩
    | _ => exact p1.elim⟩
/-! ### a op1 b op2 c, as a test -/
theorem chain_up {f f' : D → D → Option D} {ga gb gc : En → Oc D} {σ : L2.St} {H : Hp} {Q : VK} (h : tP M E (gChain f f' ga gb gc) σ H Q) :
    tChain (fun x y H Q => rD M (fun l => .of (l2 f l)) [x, y] H Q) (fun x y H Q => rD M (fun l => .of (l2 f' l)) [x, y] H Q) (tP M E ga) (tP M E gb) (tP M E gc) σ H Q := by
  obtain ⟨F, en, s, r, p⟩ := h
  exact ⟨F, en, s, r, Post.bd p fun x a F1 H1 e1 r1 p1 => ⟨F1, en, e1.s, r.ext e1.f, Post.bd p1 fun y b F2 H2 e2 r2 p2 =>
    rD_of (E := E) (f := l2 f) (ds := [a, b]) (Post.bd p2 fun z d F3 H3 e3 r3 p3 => by
      cases r3 with
      | bl k =>
        cases k with
        | true => exact ⟨true, rfl, by rw [if_pos rfl]; exact ⟨F3, en, e3.s, ((r.ext e1.f).ext e2.f).ext e3.f, Post.bd p3 fun w c F4 H4 e4 r4 p4 => rD_of (f := l2 f') (ds := [b, c]) p4 e4.s (.two ((r2.ext e3.f).ext e4.f) r4)⟩⟩
        | false => exact ⟨false, rfl, by rw [if_neg (by decide)]; exact p3.pure e3.s (.bl false)⟩
      | _ => exact p3.elim) e2.s (.two (r1.ext e2.f) r2)⟩⟩
theorem dt_chain {a b c : Expr} {op op' : CmpOp} {f f' : D → D → Option D} {ga gb gc : En → Oc D} (ho : OpD X M (compareOp op) f) (ho' : OpD X M (compareOp op') f') (ha : PE X a (tP M E ga)) (hb : PE X b (tP M E gb)) (hc : PE X c (tP M E gc)) (hl : lastMarks [op, op'] [b, c] = false := by rfl) :
    PT X (.Compare a [op, op'] [b, c] pos) (tPT M E (gB (gChain f f' ga gb gc))) :=
  PTup (pt_chain ho ho' ha hb hc hl) fun σ H Q ⟨F, en, s, r, p⟩ => chain_up ⟨F, en, s, r, Post.bd p fun x a F1 H1 e1 r1 p1 => toB_post p1 e1.s r1⟩
end
end Pl

set_option maxRecDepth 100000
set_option maxHeartbeats 4000000
namespace Pl
open PySem PySem.Spec PyProof.Rows L2 Fx
open PySem.W (Frag)
/-! ### a comprehension that is given a name -/
section
variable {X : Cx} {M : MC} {E : XK} {pos : Pos}
theorem ps_asgDc {i : Nat} {y : Str} {py cpos : Pos} {kx vx tg iter : Expr} {ifs : List Expr} {scope : Scope} {own : List (Str × Nat)} {wi : TI} {g : TG} {tt : TT} {tk tv : TE} (cal : X.calm = true) (dn : X.N.Nodup) (iy : X.N[i]? = some y) (ly : X.env.scope.names.lookup y = some .local)
    (sw : swapsWith (.DictComp kx vx [⟨tg, iter, ifs, 0⟩] scope cpos) (some (.Name y py)) pos.line X.env = pure true) (wk : PI X tg iter wi) (bo : BlkOk X.N X.env.scope scope own)
    (gg : ∀ (s : Shared) (H : Hp) (C : Addr) (cl : List (Str × Addr)) (fp : List Addr), PG (X.blk s H scope (compEnvC scope cl C X.env) fp) tg g) (gt : ∀ (s : Shared) (H : Hp) (C : Addr) (cl : List (Str × Addr)) (fp : List Addr), PTs (X.blk s H scope (compEnvC scope cl C X.env) fp) ifs tt)
    (gk : ∀ (s : Shared) (H : Hp) (C : Addr) (cl : List (Str × Addr)) (fp : List Addr), PE (X.blk s H scope (compEnvC scope cl C X.env) fp) kx tk)
    (gv : ∀ (s : Shared) (H : Hp) (C : Addr) (cl : List (Str × Addr)) (fp : List Addr), PE (X.blk s H scope (compEnvC scope cl C X.env) fp) vx tv) (fo : ∀ x, foldedSetIterable iter X.env x = pure x) :
    PS X (.Assign [.Name y py] (.DictComp kx vx [⟨tg, iter, ifs, 0⟩] scope cpos) pos) (tAsg (tDc wi g tt tk tv (own.map (·.2))) (gName i)) := ⟨fun pins s σ H D I z => by
  rw [exec_Assign_Name_used _ _ _ _ sw]
  refine wpAny_bind (wpAny_standAt (wpAny_bind ?_))
  show wpAny _ X.A (do let _ ← comprehension (.DictComp kx vx [⟨tg, iter, ifs, 0⟩] scope cpos) scope X.env (firstIterPos [⟨tg, iter, ifs, 0⟩] cpos) newDict false (eval iter X.env) (some (assign (.Name y py) X.env))) _ _ s
  have z2 : tDc wi g tt tk tv (own.map (·.2)) σ H (fun x H1 => gName i x σ H1 D.nx) := z
  refine wpAny_bind (thn (dc_core (Qf := fun _ t => SP X pins D .next t) cal dn I wk bo gg gt gk gv fo z2 fun A0 C t m H2 J q nm fc => ?_) fun _ t hq => wpAny_pure (wpAny_pure hq))
  show wpAny _ _ (assign (.Name y py) X.env (.ref A0)) _ _ _
  refine wpAny_assign_Name (store_ok2 (v := V.ref A0) J dn iy (.inl ly) rfl (fun t2 J2 ⟨a, sb, wa⟩ => ?_) (.inr ly))
  obtain ⟨k0, k1, k2, k3, k4, k5⟩ := fc
  have ne : C ≠ a := by
    rcases wa with e | e
    · rw [e]
      exact k1
    · exact fun e2 => k4 y a e e2.symm
  exact ⟨m, nm.sameBut sb ne, fun t3 sb3 => ⟨_, H2, J2.turned (t' := t2.toks) (fun b o hb e => (sb3.2 b hb).trans e) k0 k1 k3 k4 k5, q⟩⟩⟩
theorem sw_dict {kx vx : Expr} {gs : List Comprehension} {scope : Scope} {cpos py : Pos} {y : Str} {l : Nat} {env : Env} (hk : env.scope.kind = .function) (hy : env.scope.names.lookup y = some .local) (hl : (py.line == cpos.line) = true)
    (ha : (scope.names.any fun (n, k) => n == y && (k == .local || k == .cell)) = false) : swapsWith (.DictComp kx vx gs scope cpos) (some (.Name y py)) l env = pure true := by
  have e1 : env.blockKind = .function := by
    unfold Env.blockKind
    rw [hk]
    rfl
  have e2 : env.kindOf y = some .local := hy
  unfold swapsWith
  simp only [e1, e2, hl, Expr.pos, ha]
  rfl
section
variable {own : List (Str × Nat)} {b b1 : En → D → Option En} {sl sl1 : List Nat} {gt gt1 : En → Oc Bool} {gi1 : En → Oc (List D)} {ge gk gv : En → Oc D} {gi : En → Oc (List D)} {elt kx vx tg tg1 iter iter1 : Expr} {ifs ifs1 : List Expr} {scope : Scope} {i : Nat} {y : Str} {py cpos : Pos} {vs1 : List Nat}
abbrev AllB (X : Cx) (scope : Scope) (p : Cx → Prop) : Prop := ∀ (s : Shared) (H : Hp) (C : Addr) (cl : List (Str × Addr)) (fp : List Addr), p (X.blk s H scope (compEnvC scope cl C X.env) fp)
theorem s_lc (sk : X.env.scope.kind = .function) (hN : X.N.Nodup) (hy : X.N[i]? = some y) (hl : X.env.scope.names.lookup y = some .local) (li : (py.line == cpos.line) = true) (an : (scope.names.any fun (n, k) => n == y && (k == .local || k == .cell)) = false) (hi : PI X tg iter (tPI M E gi)) (ok : BlkOk X.N X.env.scope scope own)
    (hg : AllB X scope fun X => PG X tg (tPG M b sl)) (ht : AllB X scope fun X => PTs X ifs (tPT M NoX gt)) (he : AllB X scope fun X => PE X elt (tP M NoX ge)) (hsl : ∀ j ∈ sl, j ∈ own.map (·.2)) (hc : X.calm = true := by rfl) (hs : ∀ x, foldedSetIterable iter X.env x = pure x := by intro _; rfl) :
    PS X (.Assign [.Name y py] (.ListComp elt [⟨tg, iter, ifs, 0⟩] scope cpos) pos) (tS M E (qSet i (asL (gLc b gt ge (own.map (·.2)) gi)))) :=
  s_setA (ps_setLc hc hN hy hl (sw_true sk hl li an) hi ok hg ht he hs) (tP_ofO (lc_up (wi := tPI M E gi) hsl))
theorem s_lcO (sk : X.env.scope.kind = .function) (hN : X.N.Nodup) (hy : X.N[i]? = some y) (hl : X.env.scope.names.lookup y = some .local) (li : (py.line == cpos.line) = true) (an : (scope.names.any fun (n, k) => n == y && (k == .local || k == .cell)) = false) (hi : PI X tg iter (tPI M E gi)) (ok : BlkOk X.N X.env.scope scope own)
    (hg : AllB X scope fun X => PG X tg (tPG M b sl)) (ht : AllB X scope fun X => PTs X ifs (tPT M NoX gt)) (he : AllB X scope fun X => PE X elt (tP M NoX ge)) (hsl : ∀ j ∈ sl, j ∈ own.map (·.2)) (hc : X.calm = true := by rfl) (hs : ∀ x, foldedSetIterable iter X.env x = pure x := by intro _; rfl) :
    PS X (.Assign [.Name y py] (.ListComp elt [⟨tg, iter, ifs, 0⟩] scope cpos) pos) (tS M E (qSetO i (gLc b gt ge (own.map (·.2)) gi))) :=
  s_setOA (ps_setLc hc hN hy hl (sw_true sk hl li an) hi ok hg ht he hs) (lc_up (wi := tPI M E gi) hsl)
theorem s_lc2 (sk : X.env.scope.kind = .function) (hN : X.N.Nodup) (hy : X.N[i]? = some y) (hl : X.env.scope.names.lookup y = some .local) (li : (py.line == cpos.line) = true) (an : (scope.names.any fun (n, k) => n == y && (k == .local || k == .cell)) = false) (hi : PI X tg iter (tPI M E gi)) (ok : BlkOk X.N X.env.scope scope own) (hv : ∀ i ∈ vs1, i ∈ own.map (·.2))
    (hg : AllB X scope fun X => PG X tg (tPG M b sl)) (ht : AllB X scope fun X => PTs X ifs (tPT M NoX gt)) (hi1 : AllB X scope fun X => PI X tg1 iter1 (tPI M NoX gi1)) (hg1 : AllB X scope fun X => PG X tg1 (tPG M b1 sl1)) (ht1 : AllB X scope fun X => PTs X ifs1 (tPT M NoX gt1)) (he : AllB X scope fun X => PE X elt (tP M NoX ge))
    (hsl : ∀ j ∈ sl, j ∈ own.map (·.2)) (hsl1 : ∀ j ∈ sl1, j ∈ vs1) (hc : X.calm = true := by rfl) (hs : ∀ x, foldedSetIterable iter X.env x = pure x := by intro _; rfl) (hs1 : ∀ env x, foldedSetIterable iter1 env x = pure x := by intro _ _; rfl) :
    PS X (.Assign [.Name y py] (.ListComp elt [⟨tg, iter, ifs, 0⟩, ⟨tg1, iter1, ifs1, 0⟩] scope cpos) pos) (tS M E (qSet i (asL (gLc2 b gt gi1 b1 gt1 ge (own.map (·.2)) vs1 gi)))) :=
  s_setA (ps_setLc2 hc hN hy hl (sw_true sk hl li an) hi ok hv hg ht hi1 hg1 ht1 he hs hs1) (tP_ofO (lc2_up hsl hsl1))
theorem tP_ofD {te : TE} {g : En → Oc (List D × List D)} (k : ∀ σ H Q, tPd M E g σ H Q → te σ H Q) : ∀ σ H Q, tP M E (asD g) σ H Q → te σ H Q := fun σ H Q ⟨F, en, s, r, p⟩ => k σ H Q ⟨F, en, s, r, by
  unfold asD at p
  cases z : g en with
  | ok ds =>
    rw [z] at p
    intro q kvs F' H' e n r1 r2
    have ex : Ex M.T F' H' (upd F' q (.dK kvs)) (upd H' q (.dK kvs)) := Ex.new e.s n
    exact p _ _ _ (e.trans ex) (.dic (.inl upd_same) (r1.ext ex.f) (r2.ext ex.f))
  | exc c a =>
    rw [z] at p
    exact p
  | bad =>
    rw [z] at p
    exact p.elim⟩
theorem s_dcO (mk : MOk M) (sk : X.env.scope.kind = .function) (hN : X.N.Nodup) (hy : X.N[i]? = some y) (hl : X.env.scope.names.lookup y = some .local) (li : (py.line == cpos.line) = true) (an : (scope.names.any fun (n, k) => n == y && (k == .local || k == .cell)) = false) (hi : PI X tg iter (tPI M E gi)) (ok : BlkOk X.N X.env.scope scope own)
    (hg : AllB X scope fun X => PG X tg (tPG M b sl)) (ht : AllB X scope fun X => PTs X ifs (tPT M NoX gt)) (hk : AllB X scope fun X => PE X kx (tP M NoX gk)) (he : AllB X scope fun X => PE X vx (tP M NoX gv)) (hsl : ∀ j ∈ sl, j ∈ own.map (·.2)) (hc : X.calm = true := by rfl) (hs : ∀ x, foldedSetIterable iter X.env x = pure x := by intro _; rfl) :
    PS X (.Assign [.Name y py] (.DictComp kx vx [⟨tg, iter, ifs, 0⟩] scope cpos) pos) (tS M E (qSetD i (gDc b gt gk gv (own.map (·.2)) gi))) :=
  s_setDA (ps_asgDc hc hN hy hl (sw_dict sk hl li an) hi ok hg ht hk he hs) (dc_up (gi := gi) mk hsl)
theorem s_dc (mk : MOk M) (sk : X.env.scope.kind = .function) (hN : X.N.Nodup) (hy : X.N[i]? = some y) (hl : X.env.scope.names.lookup y = some .local) (li : (py.line == cpos.line) = true) (an : (scope.names.any fun (n, k) => n == y && (k == .local || k == .cell)) = false) (hi : PI X tg iter (tPI M E gi)) (ok : BlkOk X.N X.env.scope scope own)
    (hg : AllB X scope fun X => PG X tg (tPG M b sl)) (ht : AllB X scope fun X => PTs X ifs (tPT M NoX gt)) (hk : AllB X scope fun X => PE X kx (tP M NoX gk)) (he : AllB X scope fun X => PE X vx (tP M NoX gv)) (hsl : ∀ j ∈ sl, j ∈ own.map (·.2)) (hc : X.calm = true := by rfl) (hs : ∀ x, foldedSetIterable iter X.env x = pure x := by intro _; rfl) :
    PS X (.Assign [.Name y py] (.DictComp kx vx [⟨tg, iter, ifs, 0⟩] scope cpos) pos) (tS M E (qSet i (asD (gDc b gt gk gv (own.map (·.2)) gi)))) :=
  s_setA (ps_asgDc hc hN hy hl (sw_dict sk hl li an) hi ok hg ht hk he hs) (tP_ofD (dc_up (gi := gi) mk hsl))
end
end
end Pl

set_option maxRecDepth 100000
set_option maxHeartbeats 4000000
namespace Pl
open PySem PySem.Spec PyProof.Rows L2 Fx LamX
open PySem.W (Frag)
/-! ### lambda x=0: .. -/
/-- its names: one parameter with a default, else names of the maker -/
structure LamD (X : Cx) (px : Str) (sc : Scope) : Prop where
  kind : sc.kind = .function
  co : sc.isCoroutine = false
  gen : sc.isGenerator = false
  own : ∀ y ∈ sc.names, y.2 ≠ .cell ∧ (y.2 = .local → y.1 = px)
  par : sc.names.lookup px = some .local
  out : px ∉ X.N
  free : ∀ y ∈ sc.names, y.2 = .free → X.env.scope.names.lookup y.1 = some .cell ∨ X.env.scope.names.lookup y.1 = some .free
theorem LamD.has {X : Cx} {px : Str} {sc : Scope} (L : LamD X px sc) (ok : X.Ok) (y : Str × NameKind) (hy : y ∈ sc.names) (e : y.2 = .free) : ∃ c, X.env.cells.lookup y.1 = some c := (L.free y hy e).elim (fun k => ok.has _ (.inl k)) fun k => ok.has _ (.inr k)
abbrev lamObj (X : Cx) (params : Arguments) (body : Expr) (sc : Scope) (t : Addr) (doc pm : Value) (c' : Addr) (ctv : Value) : Obj :=
  PySem.W.kdv_obj "<lambda>" (X.env.qual ++ "<lambda>") params (.expr body) sc (cloFrom X.env.cells sc.names []) (.ref t) doc pm c' ctv
section
variable {X : Cx} {pins : List (Addr × Obj)} {σ : L2.St} {H HZ : Hp} {s s1 : Shared}
theorem lamD_make {T : List (Addr × Str)} {c P : Addr} {z : Int} {j : Nat} {dpos : Pos} {params : Arguments} {body : Expr} {sc : Scope} {pos : Pos} {Q : Value → Shared → Prop} (I : Inv X pins σ H s) (TB : TabB X.base X.mg c P) (cd : X.env.code = .ref c)
    (mT : (P, X.env.qual ++ "<lambda>") ∈ T) (uT : ∀ p ∈ T, p.1 = P → p.2 = X.env.qual ++ "<lambda>") (tabs : Tabs T H) (de : params.defaults = [.Constant (.int z) j dpos]) (ke : params.kw_defaults = []) (fr : ∀ y ∈ sc.names, y.2 = .free → ∃ c, X.env.cells.lookup y.1 = some c)
    (k : ∀ (f c' t : Addr) (v0 doc pm ctv : Value) (H1 : Hp) (s' : Shared), Inv X pins σ H1 s' → ExtN H H1 → Tabs T H1 → s'.heap.get? t = some (PySem.W.kdv_tup [v0]) → H1 t = none → t ∉ frs X.stack →
      s'.heap.get? f = some (lamObj X params body sc t doc pm c' ctv) → H1 f = none → f ∉ frs X.stack → H1 c' = some (CodeO c' (X.env.qual ++ "<lambda>")) → Q (.ref f) s') :
    wpAny (model X.prog X.w) X.A (eval (.Lambda params body sc pos) X.env) Q X.xe s := by
  obtain ⟨ps, hP, htr, hal⟩ := tabs _ mT
  refine PySem.W.kdv_lam (by rw [de]; rfl) ke ?_
  rw [de]
  refine PySem.W.kdv_all1 (thn ((pe_int (X := X)).run pins s σ H (fun _ H1 => H1 = H) I rfl) fun v0 s0 hv => ?_)
  obtain ⟨vv, H0, I0, rv, eH⟩ := hv
  rw [eH] at I0
  refine PySem.W.kdv_all0 ?_
  rw [makeFunction_eq]
  simp only [List.zip_nil_right, List.filterMap_nil, List.isEmpty_nil, if_true, pure_bind, List.isEmpty_cons, Bool.false_eq_true, if_false]
  refine wpAny_bind (wpAny_newTextTuple ?_)
  have I2 : Inv X pins σ H { s0 with heap := s0.heap.push (PySem.W.kdv_tup [v0]) } := I0.kept (t' := s0.toks) fun b o e => Heap.get?_push_of_some _ e
  have ht0 : (s0.heap.push (PySem.W.kdv_tup [v0])).get? s0.heap.objs.size = some (PySem.W.kdv_tup [v0]) := Heap.get?_push_size _ rfl
  have hn0 : H s0.heap.objs.size = none := I0.hok.fresh (Nat.le_refl _)
  have far : ∀ f, s0.heap.objs.size ≤ f → f ∉ frs X.stack := fun f hf z => by
    rcases List.mem_cons.mp (I0.stkSub _ z) with e | e
    · have := I0.lt
      rw [← e] at this
      exact absurd (Nat.lt_of_lt_of_le this hf) (Nat.lt_irrefl _)
    · exact I0.nofs hf e
  have ft0 := far _ (Nat.le_refl s0.heap.objs.size)
  generalize htt : s0.heap.objs.size = t at ht0 hn0 ft0 ⊢
  have szs : t ≤ (s0.heap.push (PySem.W.kdv_tup [v0])).objs.size := by rw [Heap.size_push]; omega
  generalize s0.heap.push (PySem.W.kdv_tup [v0]) = g0 at I2 ht0 szs ⊢
  have far2 : ∀ f, g0.objs.size ≤ f → f ∉ frs X.stack := fun f hf => far f (by omega)
  have fH : ∀ b, g0.objs.size ≤ b → H b = none := fun b hb => I2.hok.fresh hb
  have hP2 : g0.get? P = some { cls := .none, data := .fields ps } := I2.hok P _ hP
  have bP : g0.BuiltinsAt X.mg P := TB.bm.keeps I2.bk
  cases hc : codeAmong pos ps.toList with
  | none =>
    refine PySem.W.kdv_makeTail (mg := X.mg) (c := c) (P := P) (ps := ps) (closure_ok fr) I2.ok.glob (I2.mod.glob.keeps I2.bk) cd (TB.code.keeps I2.bk) hP2 htr hc TB.gP bP fun c' ctv doc h' tk hx hge hlt hrec htb => ?_
    obtain ⟨c2, oc, vs, tq, e2, hoc, hd, hv⟩ := hrec
    cases e2
    have hsz : g0.objs.size ≤ h'.objs.size := Nat.le_trans hge (Nat.le_of_lt hlt)
    have nC : H c' = none := fH _ hge
    have nPt : P ≠ t := fun z => by
      rw [z, ht0] at hP2
      cases hP2
    have J := inv_table (t' := tk) (more := #[rawInt pos.line, rawInt pos.col, .ref c']) (h' := h'.push (lamObj X params body sc t doc ((X.mg "__name__").getD .none) c' ctv)) I2 hP (fun b o hb e => Heap.get?_push_of_some _ (hx b o hb e)) (Heap.get?_push_of_some _ htb) hge ⟨oc, vs, tq, Heap.get?_push_of_some _ hoc, hd, hv⟩
    have hE : ExtN H (upd (upd H P (.tbl (ps ++ #[rawInt pos.line, rawInt pos.col, .ref c']))) c' (CodeO c' (X.env.qual ++ "<lambda>"))) := fun b o e n => by
      have n1 : b ≠ c' := ne_of_none e nC
      have n2 : b ≠ P := fun z => by
        rw [z, hP] at e
        exact n ps (Option.some.inj e).symm
      rw [upd_ne n1, upd_ne n2]
      exact e
    have eL : (ps ++ #[rawInt pos.line, rawInt pos.col, .ref c']).toList = ps.toList ++ [rawInt pos.line, rawInt pos.col, .ref c'] := by simp
    have apart : ∀ b, g0.objs.size ≤ b → b ≠ c' → upd (upd H P (.tbl (ps ++ #[rawInt pos.line, rawInt pos.col, .ref c']))) c' (CodeO c' (X.env.qual ++ "<lambda>")) b = none := fun b hb n1 => by
      have n2 : b ≠ P := Nat.ne_of_gt (Nat.lt_of_lt_of_le (Heap.lt_size hP2) hb)
      rw [upd_ne n1, upd_ne n2]
      exact fH b hb
    refine k h'.objs.size c' t v0 doc ((X.mg "__name__").getD .none) ctv _ _ J hE (fun p hp => ?_) (Heap.get?_push_of_some _ (hx _ _ (Ne.symm nPt) ht0)) ?_ ft0 (Heap.get?_push_size _ rfl) (apart _ hsz (Nat.ne_of_gt hlt)) (far2 _ hsz) upd_same
    · by_cases hb : p.1 = P
      · rw [uT p hp hb, hb]
        refine ⟨_, by rw [upd_ne (ne_of_none hP nC), upd_same], by rw [eL]; exact PySem.TriplesOk_snoc _ _ _ _ htr, fun p' cv hcv => ?_⟩
        rw [eL] at hcv
        rcases among_app _ htr hcv with y | y
        · obtain ⟨c0, y1, y2⟩ := hal p' cv y
          exact ⟨c0, y1, hE _ _ y2 codeO_ne⟩
        · exact ⟨c', y, upd_same⟩
      · obtain ⟨qs, a1, a2, a3⟩ := tabs p hp
        refine ⟨qs, by rw [upd_ne (ne_of_none a1 nC), upd_ne hb]; exact a1, a2, fun p' cv hcv => ?_⟩
        obtain ⟨c0, y1, y2⟩ := a3 p' cv hcv
        exact ⟨c0, y1, hE _ _ y2 codeO_ne⟩
    · have n1 : t ≠ c' := Nat.ne_of_lt (Nat.lt_of_lt_of_le (Heap.lt_size ht0) hge)
      rw [upd_ne n1, upd_ne (Ne.symm nPt)]
      exact hn0
  | some cv =>
    obtain ⟨c', e, hco⟩ := hal pos cv hc
    subst e
    refine PySem.W.kdv_makeTailHit (mg := X.mg) (c := c) (P := P) (ps := ps) (closure_ok fr) I2.ok.glob (I2.mod.glob.keeps I2.bk) cd (TB.code.keeps I2.bk) hP2 htr hc bP fun ctv doc h' tk hx hsz => ?_
    have J : Inv X pins σ H { s0 with heap := h'.push (lamObj X params body sc t doc ((X.mg "__name__").getD .none) c' ctv), toks := tk } := I2.kept fun b o e => Heap.get?_push_of_some _ (hx b o e)
    exact k h'.objs.size c' t v0 doc ((X.mg "__name__").getD .none) ctv H _ J (ExtN.refl H) tabs (Heap.get?_push_of_some _ (hx _ _ ht0)) hn0 ft0 (Heap.get?_push_size _ rfl) (fH _ hsz) (far2 _ hsz) hco
theorem lamD_start {A : Around} {outer : List Env} {E : XK} {px : Str} {sc : Scope} {f c' : Addr} {g1 : Heap} {tk : Nat} {m1 : Str → Option Value} (I : Inv X pins σ H s) (L : LamD X px sc) (e0 : Env0 X.prog X.w X.K X.mg X.base A outer s1 HZ) (hd : A.handled = none)
    (un : Un (frs X.stack) [] H HZ s.heap s1.heap) (ns : g1.Ns s1.heap.objs.size m1) (kp : ∀ b o, s1.heap.get? b = some o → g1.get? b = some o) : Inv (lamCx X A outer s1 HZ E sc f c') [] σ HZ { s1 with heap := g1, toks := tk } := by
  have fre := L.has I.ok
  have inC : ∀ {y c}, (cloFrom X.env.cells sc.names []).lookup y = some c → X.env.cells.lookup y = some c := fun {y c} e => by
    rcases cloFrom_mem (PySem.mem_of_lookup e) with q | ⟨q1, q2⟩
    · cases q
    · obtain ⟨d, hd2⟩ := fre _ q1 rfl
      have hd2 : X.env.cells.lookup y = some d := hd2
      have e2 : c = d := by
        rw [q2, hd2] <;> rfl
      rw [e2]
      exact hd2
  have at_ : ∀ {y}, sc.names.lookup y = some .free → ∃ c, (cloFrom X.env.cells sc.names []).lookup y = some c := fun {y} q => mem_lookup (cloFrom_has (cells := X.env.cells) (acc := []) (PySem.mem_of_lookup q))
  have keepC : ∀ {c : Addr} {v : Option Value}, H c = none → s.heap.IsCell c v → g1.IsCell c v := fun {c v} n ⟨o, q1, q2⟩ => by
    obtain ⟨sl, q3⟩ := un.any q1 n (by simp)
    exact ⟨_, kp _ _ q3, q2⟩
  have noX : ∀ b : Addr, b ∉ (lamCx X A outer s1 HZ E sc f c').ex := fun b z => absurd (show b ∈ ([] : List Addr) from z) (by simp)
  have hv : ∀ y, (sc.names.lookup y = some .cell ∨ sc.names.lookup y = some .free) → ∃ c, (cloFrom X.env.cells sc.names []).lookup y = some c := fun y hy => by
    rcases hy with hy | hy
    · exact absurd rfl (L.own _ (PySem.mem_of_lookup hy)).1
    · exact at_ hy
  have ok : (lamCx X A outer s1 HZ E sc f c').Ok := ⟨e0.mod, L.kind, rfl, rfl, Nat.le_refl _, fun y z c q1 q2 => I.ok.inj y z c (inC q1) (inC q2), hv, fun y c z _ => absurd (show false = true from z) (by decide), fun _ => hd, Around.frames_deeper e0.frames, .inr ⟨rfl, rfl⟩, fun b z => absurd z (noX b), e0.bs, e0.bsz, fun b _ _ => noX b, fun b z => absurd z (noX b), e0.funs, e0.frf⟩
  refine ⟨ok, rfl, e0.bare, Un.kept kp, ⟨m1, ns, fun i y v e1 e2 e3 => ?_⟩, fun y c e => ?_, e0.hok.fresh (Nat.le_refl _), fun y c e => ?_, fun q hq => absurd (show q ∈ ([] : List (Addr × Obj)) ++ [] from hq) (by simp), e0.hok.kept kp, I.len⟩
  · have e3 : Vis sc y := e3
    rcases e3 with q | q | q
    · have z := (L.own _ (PySem.mem_of_lookup q)).2 rfl
      have z : y = px := z
      have hm : y ∈ X.N := List.mem_of_getElem? e1
      rw [z] at hm
      exact absurd hm L.out
    · exact absurd rfl (L.own _ (PySem.mem_of_lookup q)).1
    · have vis : Vis X.env.scope y := (L.free _ (PySem.mem_of_lookup q) rfl).elim (fun k => .inr (.inl k)) (fun k => .inr (.inr k))
      obtain ⟨m, _, lk⟩ := I.loc
      obtain ⟨u, ru, q2⟩ := lk i y v e1 e2 vis
      obtain ⟨d, hd2⟩ := at_ q
      have hd3 := inC hd2
      refine ⟨u, ru, .inr ⟨.inr q, d, hd2, ?_⟩⟩
      rcases q2 with ⟨q3, _⟩ | ⟨_, d2, q4, q5⟩
      · have q3 : X.env.scope.names.lookup y = some .local := q3
        rcases L.free _ (PySem.mem_of_lookup q) rfl with q6 | q6
        · rw [show X.env.scope.names.lookup y = _ from q6] at q3
          cases q3
        · rw [show X.env.scope.names.lookup y = _ from q6] at q3
          cases q3
      · rw [hd3] at q4
        cases q4
        exact keepC (I.freeC y _ hd3) q5
  · obtain ⟨u, hu⟩ := I.cell y c (inC e)
    exact ⟨u, keepC (I.freeC y c (inC e)) hu⟩
  · obtain ⟨v, o, q1, q2⟩ := I.cell y c (inC e)
    exact un.free c o q1 (I.freeC y c (inC e)) (by simp)
/-- how it binds when nothing is passed -/
def BindD (px : Str) (params : Arguments) (body : Expr) (sc : Scope) : Prop := ∀ (q : Str) (cl : List (Str × Addr)) (t : Addr) (v0 doc pm cv ctv : Value), ∃ kk : Option (Array Value) → Sem (List (Str × Value)),
  bindArgs (PySem.W.kdv_fn "<lambda>" q params (.expr body) sc cl (.ref t) doc pm cv ctv) ⟨[], []⟩ = seqItems? (.ref t) >>= kk ∧ kk (some #[v0]) = pure [(px, v0)]
theorem lamD_act {Ng : List Str} {qg : Str} {sg : Scope} {g f c' t : Addr} {v0 cdg doc pm ctv : Value} {px : Str} {params : Arguments} {body : Expr} {sc : Scope} {k i : Nat} {a : Str} {pn : List (Addr × Obj)} {xe : Value → Shared → Prop} {W : WX} {E : XK} {tb : TE} {p1 p2 : Pos}
    (I : Inv X pins σ H s) (L : LamD X px sc) (of : s.heap.get? f = some (lamObj X params body sc t doc pm c' ctv)) (nf : H f = none) (ff : f ∉ frs X.stack) (ot : s.heap.get? t = some (PySem.W.kdv_tup [v0])) (nt : H t = none) (ft : t ∉ frs X.stack) (bd : BindD px params body sc)
    (tk : Takes ((cxOf C8.CX0 X.prog X.w X.K X.mg X.base Ng qg sg g cdg X.A X.stack s H C8.E0).tr pn xe) W) (hW : ∀ cls d σ' H', E cls d H' → W cls d σ' H') (hr : Room (k + 1) (X.A.deeper (envOfC qg sg s.heap.objs.size g cdg)))
    (bodyR : ∀ (A : Around) (outer : List Env) (s : Shared) (H : Hp), Room k (A.deeper (lamEnv X sc s.heap.objs.size f c')) → PE (lamCx X A outer s H E sc f c') body tb)
    (hN : Ng[i]? = some a) (hv : Vis sg a) (hd : (a == ("__debug__" : Str)) = false := by decide) (hcd : (a == ("__classdict__" : Str)) = false := by decide) :
    PE ((cxOf C8.CX0 X.prog X.w X.K X.mg X.base Ng qg sg g cdg X.A X.stack s H C8.E0).tr pn xe) (.Call (.Name a p1) [] [] p2) (fun σZ HZ Q => σZ[i]? = some (some (.ref f)) ∧ HZ c' = some (CodeO c' (X.env.qual ++ "<lambda>")) ∧ tb σ HZ Q) := ⟨fun pinsZ sZ σZ HZ Q IZ h => by
  obtain ⟨hs, hc, ht⟩ := h
  refine wpAny_Call_Name_kw (thn ((pe_var (pos := p1) (i := i) hN hv hd hcd).run pinsZ sZ σZ HZ (fun v H1 => v = .ref f ∧ H1 = HZ) IZ ⟨.ref f, hs, rfl, rfl⟩) fun u z1 ⟨v, H1, J1, ru, ev, eH⟩ => ?_)
  subst ev
  rw [eH] at J1
  obtain rfl : u = Value.ref f := ru
  have stay : ∀ {b : Addr} {o : Obj}, s.heap.get? b = some o → H b = none → b ∉ frs X.stack → z1.heap.get? b = some o := fun {b o} q1 q2 q3 => J1.base.keep b _ q1 q2 q3 (fun z => nomatch (show b ∈ ([] : List Addr) from z))
  have of1 := stay of nf ff
  have ot1 := stay ot nt ft
  refine PySem.W.callWith_F0 ⟨_, _, _, _, of1⟩ ?_
  have un : Un (frs X.stack) [] H HZ s.heap z1.heap := J1.base
  obtain ⟨⟨oc, vs, tq, q1, q2, q3⟩, _, _⟩ := J1.hok c' _ hc
  obtain ⟨kk, b1, b2⟩ := bd (X.env.qual ++ "<lambda>") (cloFrom X.env.cells sc.names []) t v0 doc pm (.ref c') ctv
  have run : codeAny (model X.prog X.w) (X.A.deeper (envOfC qg sg s.heap.objs.size g cdg)) (.call (.ref f) ⟨[], []⟩) (CR (L2.CX X.prog X.w) (envOfC qg sg s.heap.objs.size g cdg :: X.stack) X.prog X.w HZ z1 Q E) z1 := by
    refine PySem.W.kla_callFunE hr.depth of1 rfl L.co L.gen rfl ⟨c', oc, vs, tq, rfl, q1, q2, q3⟩ ?_
    rw [b1]
    refine wpAny_bind (wpAny_seqItems ot1 rfl ?_)
    show wpAny _ _ (kk (some #[v0])) _ _ _
    rw [b2]
    refine wpAny_pure (wpAny_newFunctionEnv (fun y hy => (L.own y hy).1) (fun y hy => ?_) (fun g1 hns hsb => ⟨J1.nolimit.fresh _ hsb, ?_⟩) L.kind)
    · rw [List.mem_singleton.mp hy]
      exact L.par
    · show codeAny _ _ (.expr body (lamEnv X sc z1.heap.objs.size f c')) _ _
      have kp : ∀ b o, z1.heap.get? b = some o → g1.get? b = some o := fun b o e => hsb.extBut b o (Nat.ne_of_lt (Heap.lt_size e)) (Heap.get?_push_of_some _ e)
      have J := lamD_start (E := E) (f := f) (c' := c') (tk := z1.toks + [(px, v0)].length) I L J1.env0 hr.hd un hns kp
      refine PySem.W.kla_codeExpr (wpAny_mono ((bodyR _ _ z1 HZ (hr.deeper _)).run [] _ _ HZ Q J ht) (fun v s' hq => ?_) fun e s' hq => hq)
      obtain ⟨w', H', J', rv, q⟩ := hq
      exact ⟨w', H', J'.os, J'.bare, J'.base, J'.hok, rv, q⟩
  have hx : Passes (L2.CX X.prog X.w) ((cxOf C8.CX0 X.prog X.w X.K X.mg X.base Ng qg sg g cdg X.A X.stack s H C8.E0).tr pn xe) E := passes_call tk hW
  refine wpAny_call (codeAny_mono run fun r s' hq => ?_)
  cases r with
  | error e => exact hx pinsZ σZ HZ z1 e s' J1 hq
  | ok fl =>
    cases fl with
    | ret u => exact J1.after hq
    | next => exact False.elim hq
    | brk => exact False.elim hq
    | cont => exact False.elim hq⟩
end
/-- x(lambda px=z: body) -/
theorem pe_lamD {X : Cx} {T : List (Addr × Str)} {TT : (XK → Hp → VK → Prop) → Hp → VK → Prop} {x a px : Str} {g c P : Addr} {k j : Nat} {z : Int} {dpos : Pos} {pg : Arguments} {bg : List Stmt} {sg : Scope} {dV kV doc pm cdv ct oc : Value} {an od : Option Addr} {osl : Array (Option Value)} {Ng : List Str}
    {params : Arguments} {body : Expr} {sc : Scope} {t : XK → TE} {p lpos pos : Pos} (hg : Gl X x) (hm : X.mg x = some (.ref g)) (hk : PySem.W.keepIn X.K (.ref g) = true)
    (lk : X.K.lookup g = some ⟨oc, od, .func (PySem.W.fnOf x x pg bg sg dV kV doc pm an cdv ct), osl⟩) (hcg : PySem.W.codeIn X.K cdv x = true) (hb : L2.Binds X.K (PySem.W.fnOf x x pg bg sg dV kV doc pm an cdv ct) [a] []) (Sg : FnScope Ng [a] sg) (hNg : Ng[0]? = some a) (hva : Vis sg a)
    (hG : GivesTo X Ng x sg g cdv bg a (X.env.qual ++ "<lambda>") TT) (TB : TabB X.base X.mg c P) (cd : X.env.code = .ref c) (mT : (P, X.env.qual ++ "<lambda>") ∈ T) (uT : ∀ p ∈ T, p.1 = P → p.2 = X.env.qual ++ "<lambda>") (hr : Room (k + 2) X.A) (L : LamD X px sc) (de : params.defaults = [.Constant (.int z) j dpos]) (ke : params.kw_defaults = [])
    (bd : BindD px params body sc) (bodyR : ∀ (A : Around) (outer : List Env) (s : Shared) (H : Hp) (E : XK) (f c' : Addr), Room k (A.deeper (lamEnv X sc s.heap.objs.size f c')) → PE (lamCx X A outer s H E sc f c') body (t E))
    (hdb : (x == ("__debug__" : Str)) = false := by decide) (hd : (a == ("__debug__" : Str)) = false := by decide) (hcd : (a == ("__classdict__" : Str)) = false := by decide) :
    PE X (.Call (.Name x p) [.Lambda params body sc lpos] [] pos) (tLam T TT t) := ⟨fun pins s σ H Q I h => by
  obtain ⟨hT, h⟩ := h
  refine wpAny_Call_Name_kw (ld_glob I hg hm ?_ hdb)
  refine PySem.W.callWith_K (h₀ := X.base) I.ok.mod.kin hk ?_ (by rfl) (by rfl)
  show wpAny _ _ (spliced ((false, eval (.Lambda params body sc lpos) X.env) :: backTo pos (starEach [] X.env))) _ _ s
  refine Calls.spliced_cons (lamD_make I TB cd mT uT hT de ke (L.has I.ok) fun f c' t0 v0 doc' pm' ctv H1 s' J eN T1 ot nt ft of nf ff hco => ?_)
  refine Calls.spliced_nil ⟨J.kIn, ?_⟩
  have rc : codeAny (model X.prog X.w) X.A (.call (.ref g) ⟨[.ref f], []⟩) (CR C8.CX0 X.stack X.prog X.w H1 s' Q C8.E0) s' := by
    refine run_ofS (N := Ng) (ps := [a]) (us := [.ref f]) (vs := [.ref f]) lk hcg Sg hr J.env0 (hb s' [.ref f] J.kIn rfl) (.cons rfl .nil) rfl fun hr' => ?_
    obtain ⟨u, hu, qu⟩ := hG f c' s' H1 Q (fun E H' Q' => t E σ H' Q') (fun W pn xe E p1 p2 tk hW => lamD_act (i := 0) J L of nf ff ot nt ft bd tk hW hr' (fun A outer s H hr2 => bodyR A outer s H E f c' hr2) hNg hva hd hcd) hco (h H1 eN T1)
    exact ⟨u, hu.nox, qu⟩
  refine wpAny_call (codeAny_mono rc fun r s2 hq => ?_)
  cases r with
  | error e => exact (show False from hq).elim
  | ok fl =>
    cases fl with
    | ret u => exact J.after hq
    | next => exact False.elim hq
    | brk => exact False.elim hq
    | cont => exact False.elim hq⟩
end Pl

set_option maxRecDepth 100000
set_option maxHeartbeats 4000000
namespace Pl
open PySem PySem.Spec PyProof.Rows L2 Fx LamX
open PySem.W (Frag)
/-! ### try: .. except (A, B, C) as n: kept = n -/
theorem exB_ok {P : Program} {w : World} {H : Hp} {h : Heap} {C a : Addr} {d : Option Addr} {oe : Obj} {vs : Array Value} (e : h.get? a = some oe) (e1 : oe.cls = .ref C) (e2 : oe.dict = d) (e3 : oe.data = .fields vs) : ObjOk P w H h a (ExB C d a) :=
  ⟨⟨oe, vs, e, e1, e2, e3⟩, ⟨_, e⟩, fun h1 h2 ⟨o, us, q1, q2⟩ k => ⟨o, us, k _ q1, q2⟩⟩
theorem exB_at {P : Program} {w : World} {H : Hp} {h : Heap} {C a : Addr} {d : Option Addr} (ok : HOk P w H h) (e : H a = some (ExB C d a)) : ∃ (oe : Obj) (vs : Array Value), h.get? a = some oe ∧ oe.cls = .ref C ∧ oe.dict = d ∧ oe.data = .fields vs := by
  have x : ObjOk P w H h a (.ext fun h => ∃ (oe : Obj) (vs : Array Value), h.get? a = some oe ∧ oe.cls = .ref C ∧ oe.dict = d ∧ oe.data = .fields vs) := ok a _ e
  exact x.1
theorem flying_keep {B h h' : Heap} {l : List Env} {a : Addr} {Z : Obj → Prop} (f : HandSPX.FlyingZ B l a Z h) (k : ∀ b o, h.get? b = some o → h'.get? b = some o) : HandSPX.FlyingZ B l a Z h' := by
  obtain ⟨f1, f2, f3, oe, vs, T, oT, ts, e1, e2, e3, e4, e5, e6, e7, e8⟩ := f
  exact ⟨fun b o e => k b o (f1 b o e), f2, Heap.FunFrames.of_keeps (fun b o e _ => ⟨o, k b o e, rfl⟩) f3, oe, vs, T, oT, ts, k _ _ e1, e2, e3, e4, e5, e6, k _ _ e7, e8⟩
/-- what the clause wishes of an exception of the body: it is one of these; slot i is n's, slot j is kept's -/
def wKept (K : Frag) (cs : List Value) (i j n : Nat) (D : Ends) : WX := fun cls d σ H => PySem.W.exmAny K cls cs = some true ∧ (σ.length = n → ∃ C, cls = .ref C ∧ ∀ a, H a = none → D.nx (((σ.set i (some (.ref a))).set j (some (.ref a))).set i none) (upd H a (ExB C d a)))
section
variable {X : Cx} {pins : List (Addr × Obj)} {σ : L2.St} {H : Hp} {s : Shared}
/-- an object that is there, and was not at the start, is tracked -/
theorem Inv_track {a C : Addr} {d : Option Addr} {oe : Obj} {vs : Array Value} (I : Inv X pins σ H s) (na : H a = none) (n0 : X.s_0.heap.get? a = none) (nL : a ≠ X.env.locals) (np : ∀ p ∈ X.pn ++ pins, p.1 ≠ a) (e0 : s.heap.get? a = some oe) (e1 : oe.cls = .ref C) (e2 : oe.dict = d) (e3 : oe.data = .fields vs) :
    Inv X pins σ (upd H a (ExB C d a)) s := by
  have far : ∀ b u, H b = some u → b ≠ a := fun b u e => ne_of_none e na
  have far0 : ∀ b u, X.H_0 b = some (.tup u) → b ≠ a := fun b u e => far _ _ (I.base.tups b u e)
  refine ⟨I.ok, I.os, I.bare, ⟨I.base.keep, I.base.slot, fun b o e n hx => ?_, I.base.there, fun b xs e => ?_, fun b o u e => ?_, fun b ps e => ?_⟩, I.loc, I.cell, ?_, fun y c e => ?_, fun p hp => ?_, fun b u e => ?_, I.len⟩
  · have c : b ≠ a := fun z => by
      rw [z, n0] at e
      cases e
    rw [upd_ne c]
    exact I.base.free b o e n hx
  · have q := I.base.tups b xs e
    rw [upd_ne (far _ _ q)]
    exact q
  · have q := I.base.frzs b o u e
    rw [upd_ne (far _ _ q)]
    exact q
  · obtain ⟨more, q⟩ := I.base.tbls b ps e
    exact ⟨more, by rw [upd_ne (far _ _ q)]; exact q⟩
  · rw [upd_ne (Ne.symm nL)]
    exact I.free
  · have c : c ≠ a := fun z => by
      obtain ⟨v, o, q1, q2⟩ := I.cell y c e
      rw [z, e0] at q1
      cases q1
      rw [e3] at q2
      cases q2
    rw [upd_ne c]
    exact I.freeC y _ e
  · obtain ⟨q1, q2, q3, q4, q5⟩ := I.pin p hp
    exact ⟨q1, by rw [upd_ne (np p hp)]; exact q2, q3, q4, q5⟩
  · by_cases c : b = a
    · subst c
      rw [upd_same] at e
      cases e
      exact exB_ok e0 e1 e2 e3
    · rw [upd_ne c] at e
      exact (I.hok b u e).stay (fun c v _ q => q) (fun c q => by rw [upd_ne (far _ _ q)]; exact q) fun c xs q => by rw [upd_ne (far _ _ q)]; exact q
variable {x1 x2 x3 n kn : Str} {c1 c2 c3 : Value} {i j k : Nat} {body : List Stmt} {q1 q2 q3 tp r1 r2 r3 pos pos' : Pos} {tb : WX → TS}
theorem ps_try_kept (ex0 : X.ex = []) (hs : X.stack = X.env :: X.outer) (hf : X.env.frame = some X.env.locals) (hN : X.N.Nodup) (hi : X.N[i]? = some n) (hln : X.env.kindOf n = some .local) (hj : X.N[j]? = some kn) (lkn : X.env.kindOf kn = some .local) (hij : i ≠ j) (m1 : Gl X x1 ∧ X.mg x1 = some c1) (m2 : Gl X x2 ∧ X.mg x2 = some c2) (m3 : Gl X x3 ∧ X.mg x3 = some c3)
    (d1 : (x1 == ("__debug__" : Str)) = false) (d2 : (x2 == ("__debug__" : Str)) = false) (d3 : (x3 == ("__debug__" : Str)) = false)
    (hb : ∀ (W : WX) (pn : List (Addr × Obj)) (xe : Value → Shared → Prop), Takes (X.tr pn xe) W → PassesOwn (model X.prog X.w) X.A X.env xe → PSs (X.tr pn xe) body (tb W))
    (sw : swapsWith (.Name n r2) (some (.Name kn r1)) r3.line X.env = pure false := by rfl) (dn : (n == ("__debug__" : Str)) = false := by decide) (dcn : (n == ("__classdict__" : Str)) = false := by decide) (bk : backTo tp (starEach [.Name x1 q1, .Name x2 q2, .Name x3 q3] X.env) = [(false, eval (.Name x1 q1) X.env), (false, eval (.Name x2 q2) X.env), (false, eval (.Name x3 q3) X.env)] := by rfl) :
    PS X (.Try body [.ExceptHandler (some (.Tuple [.Name x1 q1, .Name x2 q2, .Name x3 q3] k tp)) (some n) [.Assign [.Name kn r1] (.Name n r2) r3] pos'] [] [] pos) (fun D σ H => tb (wKept X.K [c1, c2, c3] i j X.N.length D) D σ H) := ⟨fun pins s σ H D I h => by
  have ok := I.ok
  have hfr : X.A.frames = some (X.env :: X.outer) := by rw [ok.frames, hs]
  refine wpAny_Try_except ?_
  refine wpAny_mono ((hb (wKept X.K [c1, c2, c3] i j X.N.length D) (X.pn ++ pins) (fun e t1 => wpAny (model X.prog X.w) X.A (noteFrame e X.env) (fun _ t2 => wpAny (model X.prog X.w) X.A (setFlight e none) (fun _ t3 =>
    wpAny (model X.prog X.w) X.A (handleBy e X.env [.ExceptHandler (some (.Tuple [.Name x1 q1, .Name x2 q2, .Name x3 q3] k tp)) (some n) [.Assign [.Name kn r1] (.Name n r2) r3] pos']) (SP X pins D) X.xe t3) X.xe t2) X.xe t1) (fun u s' xx => ?_) PassesOwn.looking).run [] s σ H D (I.toTry _) h) (fun f s1 hsp => ?_) (fun e s1 he => he)
  · obtain ⟨a, B, sI, pins', σ', H', cls, d, rfl, J', nb, up, sky, na, os, ag, hex, hq0⟩ := xx
    have J : Inv X pins σ' H' sI := J'.ofTry ok
    obtain ⟨C, rfl, hq⟩ := hq0 J.len
    have sky' : Sky B (X.env :: X.outer) a (Zc (.ref C) d) X.env.locals s'.heap := by rw [← hs]; exact sky
    have nB : B.get? a = none := by
      rcases sky' with z | z | z
      · exact z.2.1
      · exact z.2.1
      · exact z.2.1
    show wpAny (model X.prog X.w) X.A (noteFrame (.ref a) X.env) _ _ _
    refine Sky.land Zc.steady hfr hf sky' fun h3 fl3 up3 => ?_
    have J3 : Inv X pins σ' H' { s' with heap := h3 } := J.landed nb fl3.1 (up.trans up3) os ag
    obtain ⟨oe3, vs3, he3, hz3, hd3⟩ := fl3.there
    have nfr : a ∉ frs (X.env :: X.outer) := fun hm => by
      obtain ⟨_, o', e', hnf⟩ := fl3.2.2.1.mem hm
      rw [he3] at e'
      cases e'
      exact hnf _ hd3
    have nL : a ≠ X.env.locals := fun z => nfr (List.mem_filterMap.mpr ⟨X.env, List.mem_cons_self, by rw [hf, z]⟩)
    have nF : a ∉ X.fs := fun hm => by
      obtain ⟨e, he, q⟩ := List.mem_filterMap.mp hm
      exact nfr (List.mem_filterMap.mpr ⟨e, List.mem_cons_of_mem _ he, q⟩)
    have nI : sI.heap.get? a = none := by
      cases q : sI.heap.get? a with
      | none => rfl
      | some o =>
        have z := nb a o q (by rw [hs]; exact nfr)
        rw [nB] at z
        cases z
    have n0 : X.s_0.heap.get? a = none := by
      cases q : X.s_0.heap.get? a with
      | none => rfl
      | some o =>
        obtain ⟨o', z⟩ := J.base.there a o q (by rw [ex0]; simp)
        rw [nI] at z
        cases z
    have np : ∀ p ∈ X.pn ++ pins, p.1 ≠ a := fun p hp z => by
      have q := (J.pin p hp).1
      rw [z, nI] at q
      cases q
    have S3 := J3.suite he3 hd3 na nL nF
    refine wpAny_handleBy_cons (codeAny_handlers_test ?_) (by intro q; cases q)
    refine wpAny_Tuple_spliced ?_
    rw [bk]
    refine Calls.spliced_cons (ld_glob (X := X.suite a ((a, oe3) :: (X.pn ++ pins))) S3 m1.1 m1.2 ?_ d1)
    refine Calls.spliced_cons (ld_glob (X := X.suite a ((a, oe3) :: (X.pn ++ pins))) S3 m2.1 m2.2 ?_ d2)
    refine Calls.spliced_cons (ld_glob (X := X.suite a ((a, oe3) :: (X.pn ++ pins))) S3 m3.1 m3.2 ?_ d3)
    refine Calls.spliced_nil ⟨by show 3 ≤ sizeLine; decide, ?_⟩
    have kp : ∀ b o, h3.get? b = some o → (h3.push { cls := .type "tuple", data := .seq [c1, c2, c3].toArray }).get? b = some o := fun b o e => Heap.get?_push_of_some _ e
    have tp0 : (h3.push { cls := .type "tuple", data := .seq [c1, c2, c3].toArray }).get? h3.objs.size = some { cls := .type "tuple", data := .seq [c1, c2, c3].toArray } := Heap.get?_push_size _ rfl
    show wpAny _ _ (excMatches (.ref a) (.ref h3.objs.size)) _ _ { s' with heap := h3.push { cls := .type "tuple", data := .seq [c1, c2, c3].toArray } }
    generalize h3.push { cls := .type "tuple", data := .seq [c1, c2, c3].toArray } = g3 at kp tp0 ⊢
    have fl5 := flying_keep fl3 kp
    have J5 : Inv X pins σ' H' { s' with heap := g3 } := J3.kept (t' := s'.toks) kp
    have LT : PySem.W.Looks (model X.prog X.w) g3 (typeOf (.ref a)) (.ref C) := fun A Q E s k q => wpAny_typeOf_ref (k _ _ (kp _ _ he3)) (by rw [hz3.1]; exact q)
    refine (PySem.W.exm_tup3 (M := model X.prog X.w) J5.kIn LT tp0 hex).here ?_
    refine codeAny_handlers_suite_as ?_
    refine HandSPX.lands_againZ (s := { s' with heap := g3 }) fl5 fun h4 fl4 up4 => ?_
    have J4 : Inv X pins σ' H' { s' with heap := h4 } := J.landed nb fl4.1 (((up.trans up3).trans (Heap.UpToSlots.of_keeps kp)).trans up4) os ag
    obtain ⟨oe4, vs4, he4, hz4, hd4⟩ := fl4.there
    have S4 := J4.suite he4 hd4 na nL nF
    refine store_ok (X := X.suite a ((a, oe4) :: (X.pn ++ pins))) (v := .ref a) S4 hN hi (.inl hln) rfl (fun s5 S5 => ?_) (.inr hln)
    have li : i < σ'.length := by
      rw [J4.len]
      exact (List.getElem?_eq_some_iff.mp hi).1
    have run := (pss_one (ps_set (X := X.suite a ((a, oe4) :: (X.pn ++ pins))) (pos := r3) (pos' := r1) hN hj (.inl lkn) (pe_var (pos := r2) (i := i) hi (.inl hln) dn dcn) sw (.inr lkn))).run [] s5 _ H' { nx := fun σ6 H6 => σ6 = (σ'.set i (some (.ref a))).set j (some (.ref a)) ∧ H6 = H', rt := fun _ _ => False } S5 ⟨.ref a, List.getElem?_set_self li, rfl, rfl⟩
    refine wpAny_mono run (fun f s6 hsp => ?_) (fun _ _ z => False.elim z)
    cases f with
    | next =>
      obtain ⟨σ6, H6, S6, rfl, e6⟩ := hsp
      rw [e6] at S6
      have J6 : Inv X ((a, oe4) :: pins) ((σ'.set i (some (.ref a))).set j (some (.ref a))) H' s6 := ⟨ok, S6.os, S6.bare, S6.base, S6.loc, S6.cell, S6.free, S6.freeC, fun p hp => S6.pin p (by
        rw [List.append_nil]
        rcases List.mem_append.mp hp with z | z
        · exact List.mem_cons_of_mem _ (List.mem_append_left _ z)
        · rcases List.mem_cons.mp z with z | z
          · rw [z]
            exact List.mem_cons_self ..
          · exact List.mem_cons_of_mem _ (List.mem_append_right _ z)), S6.hok, S6.len⟩
      refine gone_ok J6 hN hi hln fun s7 J7 => ?_
      have o7 := (J7.pin (a, oe4) (List.mem_append_right _ (List.mem_cons_self ..))).1
      have J8 : Inv X pins (((σ'.set i (some (.ref a))).set j (some (.ref a))).set i none) H' s7 := ⟨J7.ok, J7.os, J7.bare, J7.base, J7.loc, J7.cell, J7.free, J7.freeC, fun p hp => J7.pin p (by
        rcases List.mem_append.mp hp with z | z
        · exact List.mem_append_left _ z
        · exact List.mem_append_right _ (List.mem_cons_of_mem _ z)), J7.hok, J7.len⟩
      exact ⟨_, _, Inv_track J8 na n0 nL np o7 hz4.1 hz4.2 hd4, hq a na⟩
    | brk =>
      obtain ⟨σ6, H6, S6, q6⟩ := hsp
      exact q6.elim
    | cont =>
      obtain ⟨σ6, H6, S6, q6⟩ := hsp
      exact q6.elim
    | ret u =>
      obtain ⟨v6, σ6, H6, S6, r6, q6⟩ := hsp
      exact q6.elim
  · cases f with
    | next =>
      obtain ⟨σ', H', J', q⟩ := hsp
      exact wpAny_execs_nil ⟨σ', H', J'.ofTry ok, q⟩
    | brk =>
      obtain ⟨σ', H', J', q⟩ := hsp
      exact ⟨σ', H', J'.ofTry ok, q⟩
    | cont =>
      obtain ⟨σ', H', J', q⟩ := hsp
      exact ⟨σ', H', J'.ofTry ok, q⟩
    | ret u =>
      obtain ⟨v, σ', H', J', r, q⟩ := hsp
      exact ⟨v, σ', H', J'.ofTry ok, r, q⟩⟩
end
end Pl

set_option maxRecDepth 100000
set_option maxHeartbeats 4000000
namespace Pl
open PySem PySem.Spec PyProof.Rows L2 Fx LamX
open PySem.W (Frag)
/-! ### isinstance of what was caught, its field -/
theorem exB_inst {P : Program} {w : World} {H : Hp} {h : Heap} {C a dx : Addr} {fs : List (Str × V)} (ok : HOk P w H h) (ha : H a = some (ExB C (some dx) a)) (hd : H dx = some (.xd fs)) :
    ∃ (ox od : Obj) (mA : Str → Option Value), PySem.W.InstAt h a ox C (some od) ∧ ox.dict = some dx ∧ (∀ f, RelO (fs.lookup f) (mA f)) ∧ ∀ y, PySem.W.lookIn y od = some (mA y) := by
  obtain ⟨oe, vs, e0, e1, e2, e3⟩ := exB_at ok ha
  have hx : ObjOk P w H h dx (.xd fs) := ok dx _ hd
  obtain ⟨mA, hns, hr⟩ := hx
  obtain ⟨od, ho, hl⟩ := lookIn_ns hns
  obtain ⟨oc, odd, dt, sl⟩ := oe
  simp only at e1 e2 e3
  subst e1 e2 e3
  exact ⟨_, od, mA, ⟨e0, rfl, rfl, ho⟩, rfl, hr, hl⟩
def rIsB (K : Frag) : List V → Hp → VK → Prop := fun xs H Q => ∃ (a C dx : Addr) (fs : List (Str × V)) (c : V) (u : Value) (b : Bool), xs = [.ref a, c] ∧ H a = some (ExB C (some dx) a) ∧ H dx = some (.xd fs) ∧ XI K C ∧ ClsV c u ∧ PySem.W.kitOne K (.ref C) u = some b ∧ Q (.bl b) H
theorem call_isB {X : Cx} : CallR X (.builtin "isinstance") (rIsB X.K) := fun pins s σ H xs us Q I r h => by
  obtain ⟨a, C, dx, fs, c, u, b, rfl, ha, hd, T, k, e, q⟩ := h
  obtain ⟨u1, u2, rfl, r1, r2⟩ := vals2 r
  cases (show u1 = Value.ref a from r1)
  have e2 := k.eq r2
  subst e2
  obtain ⟨ox, od, mA, J, _⟩ := exB_inst I.hok ha hd
  exact PySem.W.kia_one (PySem.W.kitx_exc T.isCls T.ga T.gg T.sb T.cl T.sp T.tk T.mr) I.kIn J e (fun z => nomatch z) fun tk => ⟨.bl b, H, I.tok tk, rfl, q⟩
def tFxB (K : Frag) (n : Str) (te : TE) : TE := fun σ H Q => te σ H fun x H1 => ∃ (a C dx : Addr) (fs : List (Str × V)) (v : V), x = .ref a ∧ H1 a = some (ExB C (some dx) a) ∧ H1 dx = some (.xd fs) ∧ fs.lookup n = some v ∧ XI K C ∧ PySem.W.findIn K (.ref C) n = some none ∧ Q v H1
theorem pe_fxB {X : Cx} {e : Expr} {te : TE} {pos : Pos} {n : Str} (he : PE X e te) (hb : attributeBase e n X.env (eval e X.env) = eval e X.env := by rfl) : PE X (.Attribute e n pos) (tFxB X.K n te) := ⟨fun pins s σ H Q I h => by
  refine attr_of hb (thn (he.run pins s σ H _ I h) fun u s1 hh => ?_)
  obtain ⟨x, H1, I1, rx, a, C, dx, fs, v, ex, ea, ed, l, T, hno, q⟩ := hh
  subst ex
  obtain rfl : u = Value.ref a := rx
  obtain ⟨ox, od, mA, J, _, hr, hl⟩ := exB_inst I1.hok ea ed
  obtain ⟨w, hu, rw_⟩ := RelO.some_of (v := v) (o := mA n) (by rw [← l]; exact hr n)
  exact HandSPX.exc_get I1.kIn J T.ga T.gg T.sb (PySem.W.findObj_own T.hd hno rfl (by rw [hl, hu])) (handed_of rw_) ⟨v, H1, I1.tok _, rw_, q⟩⟩
end Pl

set_option maxRecDepth 100000
set_option maxHeartbeats 4000000
namespace Pl
open PySem PySem.Spec PyProof.Rows L2 Fx LamX
open PySem.W (Frag)
/-! ### caught exceptions as data -/
/-- which field they keep -/
def flOf (c : Str) : Str := if c = "SeveralDoors" then "paper" else if c = "NoCut" then "loop" else if c = "BadCode" then "place" else if c = "BadPaper" then "place" else if c = "BadText" then "line" else "value"
/-- what is asked of the classes L -/
structure XH (K : Frag) (mg : Str → Option Value) (M : MC) (L : List Str) : Prop where
  g : ∀ c ∈ L, mg c = some (.ref (M.xa c))
  xi : ∀ c ∈ L, XI K (M.xa c)
  fl : ∀ c ∈ L, M.fl c = flOf c
  no : ∀ c ∈ L, PySem.W.findIn K (.ref (M.xa c)) (flOf c) = some none
  ki : ∀ c ∈ L, ∀ e ∈ L, PySem.W.kitOne K (.ref (M.xa c)) (.ref (M.xa e)) = some (decide (c = e))
section
variable {X : Cx} {M : MC} {E : XK} {pos : Pos} {L : List Str}
def fIsX (L : List Str) (cls : Str) : D → Option D
  | .exv c _ => if c ∈ L then some (.bl (decide (c = cls))) else none
  | _ => none
theorem d_isX {cls : Str} {p q : Pos} {e : Expr} {g : En → Oc D} (A : XH X.K X.mg M L) (hm : X.mg "isinstance" = none) (hc : cls ∈ L) (he : PE X e (tP M E g)) (hg : Gl X "isinstance" := by rfl) (hg2 : Gl X cls := by rfl) (hd : (cls == ("__debug__" : Str)) = false := by decide)
    (hst : starEach [e, .Name cls q] X.env = (false, eval e X.env) :: starEach [.Name cls q] X.env := by rfl) :
    PE X (.Call (.Name "isinstance" p) [e, .Name cls q] [] pos) (tP M E (g1 (fIsX L cls) g)) :=
  PEup (pe_callB call_isB hg hm (by decide +kernel) (pa_cons he (pa_cons (pe_glob (v := .ref (M.xa cls)) hg2 (A.g cls hc) rfl hd) pa_nil) hst) (he := hst)) fun σ H Q ⟨F, en, s, r, p⟩ => ⟨F, en, s, r, Post.bd p fun x a F1 H1 e1 r1 p1 => by
    cases r1 with
    | exv ha hd hv =>
      rename_i c a dx v d
      replace p1 : Post M E (R M) F1 H1 Q (.of (if c ∈ L then some (.bl (decide (c = cls))) else none)) := p1
      split at p1
      · rename_i hcL
        exact ⟨a, M.xa c, dx, _, .ref (M.xa cls), _, _, rfl, e1.s.s _ _ ha, e1.s.s _ _ hd, A.xi c hcL, .own _, A.ki c hcL cls hc, p1.pure e1.s (.bl _)⟩
      · exact p1.elim
    | _ => exact p1.elim⟩
def fFx (L : List Str) (n : Str) : D → Option D
  | .exv c d => if c ∈ L ∧ flOf c = n then some d else none
  | _ => none
theorem d_fx {n : Str} {e : Expr} {g : En → Oc D} (A : XH X.K X.mg M L) (he : PE X e (tP M E g)) (hb : attributeBase e n X.env (eval e X.env) = eval e X.env := by rfl) : PE X (.Attribute e n pos) (tP M E (g1 (fFx L n) g)) :=
  PEup (pe_fxB he hb) fun σ H Q ⟨F, en, s, r, p⟩ => ⟨F, en, s, r, Post.bd p fun x a F1 H1 e1 r1 p1 => by
    cases r1 with
    | exv ha hd hv =>
      rename_i c a dx v d
      replace p1 : Post M E (R M) F1 H1 Q (.of (if c ∈ L ∧ flOf c = n then some d else none)) := p1
      split at p1
      · rename_i hcL
        obtain ⟨hcL, rfl⟩ := hcL
        refine ⟨_, M.xa c, dx, _, v, rfl, e1.s.s _ _ ha, e1.s.s _ _ hd, ?_, A.xi c hcL, A.no c hcL, p1.pure e1.s hv⟩
        rw [A.fl c hcL]
        simp [List.lookup]
      · exact p1.elim
    | _ => exact p1.elim⟩
/-! ### a def that is handed a lambda -/
theorem Post.shift {v d : Type} {RR : Hp → v → d → Prop} {F H H1 : Hp} {Q : v → Hp → Prop} {o : Oc d} (p : Post M E RR F H Q o) (sx : Sx M.T F H) (e : ExtN H H1) : Post M E RR F H1 Q o := by
  have up : ∀ {F' H'}, Ex M.T F H1 F' H' → Ex M.T F H F' H' := fun x => ⟨x.f, e.trans x.h, x.s, fun a q n => x.n a q (n.ext e)⟩
  cases o with
  | ok a => exact fun x F' H' y r => p x F' H' (up y) r
  | exc c a => exact fun x F' H' dx y r n => p x F' H' dx (up y) r n
  | bad => exact p
def okOnly (o : Oc D) : Oc D := match o with
  | .ok d => .ok d
  | _ => .bad
def TTp (M : MC) (Φ : Oc D → Oc D) : (XK → Hp → VK → Prop) → Hp → VK → Prop := fun tl H Q => ∃ (o : Oc D) (F : Hp), Sx M.T F H ∧ (∀ E Q', Post M E (R M) F H Q' o → tl E H Q') ∧ Post M NoX (R M) F H Q (okOnly (Φ o))
theorem tLam_up {Φ : Oc D → Oc D} {gb : En → Oc D} {σ : L2.St} {H : Hp} {Q : VK} (h : tP M E (fun en => okOnly (Φ (gb en))) σ H Q) : tLam M.T (TTp M Φ) (fun E => tP M E gb) σ H Q := by
  obtain ⟨F, en, s, r, p⟩ := h
  refine ⟨s.tb, fun H1 eN T1 => ?_⟩
  have s1 : Sx M.T F H1 := ⟨fun b o e => eN b o (s.s b o e) fun ps z => by
    rw [z] at e
    exact s.nt b ps e, s.nt, T1⟩
  refine ⟨gb en, F, s1, fun E' Q' p' => ⟨F, en, s1, r, p'⟩, ?_⟩
  have p2 : Post M E (R M) F H1 Q (okOnly (Φ (gb en))) := Post.shift p s eN
  cases z : okOnly (Φ (gb en)) with
  | ok d => rw [z] at p2; exact p2
  | exc c d =>
    unfold okOnly at z
    split at z <;> cases z
  | bad => rw [z] at p2; exact p2
end
end Pl

set_option maxRecDepth 100000
set_option maxHeartbeats 4000000
namespace Pl
open PySem PySem.Spec PyProof.Rows L2 Fx LamX
open PySem.W (Frag)
/-! ### repr of closed data -/
mutual
def clD : D → Option PyData
  | .non => some .none
  | .bl b => some (.bool b)
  | .int i => some (.int i)
  | .str (.lit x) => some (.str x)
  | .str (.atm _) => none
  | .lst xs => (clDs xs).map .list
  | .tup xs => (clDs xs).map .tuple
  | .dic ks _ => if ks.isEmpty = true then some (.dict []) else none
  | .code _ _ _ => none
  | .adr _ => none
  | .exv _ _ => none
def clDs : List D → Option (List PyData)
  | [] => some []
  | x :: xs => (clD x).bind fun p => (clDs xs).map (p :: ·)
end
section
variable {M : MC} {H : Hp}
mutual
theorem R.cl : ∀ {v : V} {d : D} {p : PyData}, R M H v d → clD d = some p → Dz M.K H v p
  | _, _, p, .non, e => by
    simp only [clD, Option.some.injEq] at e
    subst e
    exact .non
  | _, _, p, .bl b, e => by
    simp only [clD, Option.some.injEq] at e
    subst e
    exact .bl b
  | _, _, p, .int b, e => by
    simp only [clD, Option.some.injEq] at e
    subst e
    exact .int b
  | _, _, p, .str h, e => by
    simp only [clD, Option.some.injEq] at e
    subst e
    exact .str _
  | _, _, p, .atm h _, e => by simp [clD] at e
  | _, _, p, .lst h t, e => by
    simp only [clD, Option.map_eq_some_iff] at e
    obtain ⟨ps, e1, rfl⟩ := e
    exact .lst (SqL.of h) (RA.cl t e1)
  | _, _, p, .tup h t, e => by
    simp only [clD, Option.map_eq_some_iff] at e
    obtain ⟨ps, e1, rfl⟩ := e
    exact .tup h (RA.cl t e1)
  | _, _, p, .dic (kvs := kvs) (ks := ks) h t u, e => by
    simp only [clD] at e
    split at e
    · rename_i c
      cases e
      have l := t.len
      cases ks with
      | cons => cases c
      | nil =>
        rw [List.length_map] at l
        obtain rfl := List.eq_nil_of_length_eq_zero l
        exact .dct h
    · cases e
  | _, _, p, .code _ _ _ _, e => by simp [clD] at e
  | _, _, p, .adr _, e => by simp [clD] at e
  | _, _, p, .exv _ _ _, e => by simp [clD] at e
theorem RA.cl : ∀ {vs : List V} {ds : List D} {ps : List PyData}, RA M H vs ds → clDs ds = some ps → DzAll M.K H vs ps
  | _, _, ps, .nil, e => by
    simp only [clDs, Option.some.injEq] at e
    subst e
    exact .nil
  | _, _, ps, .cons h t, e => by
    simp only [clDs] at e
    obtain ⟨p, e1, e2⟩ := Option.bind_eq_some_iff.mp e
    simp only [Option.map_eq_some_iff] at e2
    obtain ⟨qs, e3, rfl⟩ := e2
    exact .cons (R.cl h e1) (RA.cl t e3)
end
end
/-- a list whose items hold no list may hold a dict -/
def topL : PyData → Bool
  | .list ds => noLsts ds
  | _ => false
def rReprN (K : Frag) : List V → Hp → VK → Prop := fun xs H Q => ∃ (x : V) (d : PyData), xs = [x] ∧ Dz K H x d ∧ d.showable = true ∧ (d.hasDict = false ∨ noLst d = true ∨ topL d = true) ∧ d.depth ≤ 60 ∧ d.shown.length ≤ sizeLine ∧ Q (.str d.shown) H
theorem call_reprN {X : Cx} (hg : X.A.guards = some []) (hu : X.A.units + 64 < cLine) : CallR X (.builtin "repr") (rReprN X.K) := fun pins s σ H xs us Q I r h => by
  obtain ⟨x, d, e, hd, hs, hq, hdp, hz, q⟩ := h
  by_cases c : d.hasDict = false ∨ noLst d = true
  · exact call_reprU hg hu pins s σ H xs us Q I r ⟨x, d, e, hd, hs, c, hdp, hz, q⟩
  · have t : topL d = true := by
      rcases hq with z | z | z
      · exact absurd (.inl z) c
      · exact absurd (.inr z) c
      · exact z
    subst e
    obtain ⟨u, rfl, rx⟩ := vals1 r
    cases hd with
    | lst sq all =>
      rename_i a ys ds
      have rx : u = Value.ref a := rx
      subst rx
      obtain ⟨its, rv, ⟨o, n, ho, hc, _, hdt⟩, _⟩ := I.list sq
      obtain ⟨as, hr, no⟩ := Dz.readsAll I ds _ its all rv
      have no := no t
      have hL : (listText (PyData.shownAll ds)).length ≤ sizeLine := by simpa only [PyData.shown] using hz
      obtain ⟨bs, hb, hk⟩ := ReprAllK.of_readsAll (prog := X.prog) (w := X.w) hr (by simpa [PyData.showable] using hs) (fun _ => no) (fun t ht => Nat.le_trans (listText_mem_le ht) hL)
      have na : a ∉ bs := not_mem_of_deeper (.list ho hc hdt hr) (by simp only [PyData.depth]; omega) hb
      have dp : ds.length = ds.length := rfl
      have fin : ∀ h' tk1 tk, (∀ b o, s.heap.get? b = some o → h'.get? b = some o) → EP X pins σ Q (.str (PyData.list ds).shown tk1) { s with heap := h', toks := tk } := fun h' tk1 tk kp => ⟨.str (PyData.list ds).shown, H, I.kept (t' := tk) kp, ⟨_, rfl⟩, q⟩
      simp only [PyData.depth] at hdp
      have e0 : (PyData.list ds).shown = listText (PyData.shownAll ds) := by simp only [PyData.shown]
      rw [e0] at fin
      refine call_repr_slot (by omega) ⟨o, ho, hc⟩ F.slot_list_repr.toG ?_
      cases its with
      | nil =>
        cases hr
        simp only [PyData.shownAll, listText_nil] at fin
        exact call_list_repr_empty ⟨o, ho, hc⟩ ho hdt ⟨_, _, rfl, fin s.heap _ _ fun _ _ e => e⟩
      | cons y ys => exact call_list_reprK ho hc hdt na (by simpa using hk.length_eq) (fun i z e => hk.item i z (by simpa using e)) hg (fun b _ => Clear.nil b) (by show X.A.units + 1 + _ < cLine; omega) (fun _ _ e => e) (fun h' u tk kp => ⟨_, _, rfl, fin h' u tk kp⟩) hL
    | _ => cases t
/-! ### repr(a) != repr(b) -/
def shwOk (p : PyData) : Bool := p.showable && ((!p.hasDict || (noLst p || topL p)) && (decide (p.depth ≤ 60) && decide (p.shown.length ≤ 100000)))
theorem shw_of {p : PyData} (h : shwOk p = true) : p.showable = true ∧ (p.hasDict = false ∨ noLst p = true ∨ topL p = true) ∧ p.depth ≤ 60 ∧ p.shown.length ≤ sizeLine := by
  unfold shwOk at h
  simp only [Bool.and_eq_true, Bool.or_eq_true, Bool.not_eq_true', decide_eq_true_eq] at h
  exact ⟨h.1, h.2.1, h.2.2.1, Nat.le_trans h.2.2.2 (by rw [sizeLine_eq]; decide)⟩
def clS (x : D) : Option PyData := (clD x).bind fun p => if shwOk p = true then some p else none
theorem clS_of {x : D} {p : PyData} (h : clS x = some p) : clD x = some p ∧ shwOk p = true := by
  unfold clS at h
  obtain ⟨q, e1, e2⟩ := Option.bind_eq_some_iff.mp h
  split at e2
  · cases e2
    exact ⟨e1, by assumption⟩
  · cases e2
def gRNe (ga gb : En → Oc D) : En → Oc Bool := fun en => (ga en).bind fun x => (Oc.of (clS x)).bind fun p => (gb en).bind fun y => (Oc.of (clS y)).bind fun q => .ok (!decide (p.shown = q.shown))
section
variable {X : Cx} {M : MC} {E : XK} {pos : Pos}
theorem dt_reprNe {a b : Expr} {ga gb : En → Oc D} {p1 p2 p3 p4 : Pos} (hK : M.K = X.K) (hg : X.A.guards = some []) (hu : X.A.units + 64 < cLine) (hm : X.mg "repr" = none) (ha : PE X a (tP M E ga)) (hb : PE X b (tP M E gb)) (gl : Gl X "repr" := by rfl)
    (ea : starEach [a] X.env = (false, eval a X.env) :: starEach [] X.env := by rfl) (eb : starEach [b] X.env = (false, eval b X.env) :: starEach [] X.env := by rfl) (l1 : (backTo p2 (starEach [] X.env)).any (·.1) = false := by rfl) (l2 : (backTo p4 (starEach [] X.env)).any (·.1) = false := by rfl)
    (nm : behindInMarks .NotEq (.Call (.Name "repr" p3) [b] [] p4) = false := by first | exact nomark _ | rfl) :
    PT X (.Compare (.Call (.Name "repr" p1) [a] [] p2) [.NotEq] [.Call (.Name "repr" p3) [b] [] p4] pos) (tPT M E (gRNe ga gb)) :=
  PTup (pt_cmpR op_ne (pe_callB (call_reprN hg hu) gl hm (by decide +kernel) (pa_cons ha pa_nil ea) (he := ea) (hpl := l1)) (pe_callB (call_reprN hg hu) gl hm (by decide +kernel) (pa_cons hb pa_nil eb) (he := eb) (hpl := l2)) nm) fun σ H Q ⟨F, en, s, r, p⟩ => ⟨F, en, s, r, Post.bd p fun x d F1 H1 e1 r1 p1 => by
    cases z1 : clS d with
    | none =>
      rw [z1] at p1
      exact p1.elim
    | some p0 =>
      rw [z1] at p1
      obtain ⟨c1, k1⟩ := clS_of z1
      obtain ⟨g1, g2, g3, g4⟩ := shw_of k1
      have p1 : Post M E RB F1 H1 Q ((gb en).bind fun y => (Oc.of (clS y)).bind fun q => .ok (!decide (p0.shown = q.shown))) := p1
      refine ⟨x, p0, rfl, by rw [← hK]; exact (r1.ext e1.s.s).cl c1, g1, g2, g3, g4, F1, en, e1.s, r.ext e1.f, Post.bd p1 fun y d2 F2 H2 e2 r2 p2 => ?_⟩
      cases z2 : clS d2 with
      | none =>
        rw [z2] at p2
        exact p2.elim
      | some q0 =>
        rw [z2] at p2
        obtain ⟨c2, k2⟩ := clS_of z2
        obtain ⟨f1, f2, f3, f4⟩ := shw_of k2
        have p2 : Post M E RB F2 H2 Q (.ok (!decide (p0.shown = q0.shown))) := p2
        refine ⟨y, q0, rfl, by rw [← hK]; exact (r2.ext e2.s.s).cl c2, f1, f2, f3, f4, rfl, _, rfl, ?_⟩
        have e : (!decide (V.str p0.shown = V.str q0.shown)) = !decide (p0.shown = q0.shown) := by
          by_cases c : p0.shown = q0.shown
          · rw [c]
            simp
          · rw [decide_eq_false c, decide_eq_false fun z => c (V.str.inj z)]
        first | exact p2.pureB e2.s | (rw [e]; exact p2.pureB e2.s)⟩
end
end Pl

set_option maxRecDepth 100000
set_option maxHeartbeats 4000000
namespace Pl
open PySem PySem.Spec PyProof.Rows L2 Fx LamX
open PySem.W (Frag)
/-! ### defs that make lambdas: their code object is known -/
structure FunL (K : Frag) (x qual : Str) (st : Stmt) (f : Addr) (fd : FuncData) (c : Addr) : Prop where
  ex : ∃ (oc : Value) (od : Option Addr) (kV doc pm : Value) (an : Option Addr) (ct : Value) (osl : Array (Option Value)),
    fd = PySem.W.fnOf x qual (defArgs st) (defBody st) (defScope st) .none kV doc pm an (.ref c) ct ∧ K.lookup f = some ⟨oc, od, .func fd, osl⟩ ∧ PySem.W.codeIn K (.ref c) qual = true
  kp : PySem.W.keepIn K (.ref f) = true
/-- its table -/
structure LTab (base : Heap) (mg : Str → Option Value) (T : List (Addr × Str)) (qual : Str) (c P : Addr) : Prop where
  TB : TabB base mg c P
  mT : (P, (qual ++ ".<locals>.") ++ "<lambda>") ∈ T
  uT : ∀ p ∈ T, p.1 = P → p.2 = (qual ++ ".<locals>.") ++ "<lambda>"
section
variable {P : Program} {w : World} {K : Frag} {mg : Str → Option Value} {base : Heap} {M : MC}
theorem defOL {x qual : Str} {st : Stmt} {f c : Addr} {fd : FuncData} {N ps : List Str} {k n : Nat} {s : SE → SR} (F : FunL K x qual st f fd c) (S : FnScope N ps (defScope st)) (hn : ps.length = n)
    (hbody : ∀ (A : Around) (outer : List Env) (s0 : Shared) (H : Hp) (E : XK), Room k (A.deeper (envOfC qual (defScope st) s0.heap.objs.size f (.ref c))) →
      PSs (cxOf (L2.CX P w) P w K mg base N qual (defScope st) f (.ref c) A outer s0 H E) (defBody st) (tS M E s)) : FnOk P w K mg base (L2.CX P w) (k + 1) f fd ps (spD M n (run N.length s)) := by
  obtain ⟨oc, od, kV, doc, pm, an, ct, osl, rfl, hl, hc⟩ := F.ex
  refine fn_of hl hc S (fun vs H Q E h => by rw [spD_len h, hn]) fun A outer s0 H vs Q E hr hsp => ?_
  obtain ⟨Fh, ds, sx, r, p⟩ := hsp
  refine ⟨_, hbody A outer s0 H E hr, run_ok sx r ?_⟩
  unfold many at p
  split at p
  · exact p
  · exact p.elim
theorem defGL {x qual : Str} {st : Stmt} {f c : Addr} {fd : FuncData} {N ps : List Str} {k n : Nat} {s : SE → SR} (F : FunL K x qual st f fd c) (S : FnScope N ps (defScope st)) (hn : ps.length = n)
    (hbody : ∀ (A : Around) (outer : List Env) (s0 : Shared) (H : Hp) (E : XK), (A.deeper (envOfC qual (defScope st) s0.heap.objs.size f (.ref c))).guards = some [] → Room k (A.deeper (envOfC qual (defScope st) s0.heap.objs.size f (.ref c))) →
      PSs (cxOf (L2.CX P w) P w K mg base N qual (defScope st) f (.ref c) A outer s0 H E) (defBody st) (tS M E s)) : FnG P w K mg base (L2.CX P w) (k + 1) f fd ps (spD M n (run N.length s)) := by
  obtain ⟨oc, od, kV, doc, pm, an, ct, osl, rfl, hl, hc⟩ := F.ex
  refine fnG_of hl hc S (fun vs H Q E h => by rw [spD_len h, hn]) fun A outer s0 H vs Q E hg hr hsp => ?_
  obtain ⟨Fh, ds, sx, r, p⟩ := hsp
  refine ⟨_, hbody A outer s0 H E hg hr, run_ok sx r ?_⟩
  unfold many at p
  split at p
  · exact p
  · exact p.elim
end
/-! ### names of lambdas, by a look -/
def lamDB (N : List Str) (sc scope : Scope) (px : Str) : Bool :=
  decide (scope.kind = .function) && (!scope.isCoroutine && (!scope.isGenerator && ((scope.names.all fun y => !decide (y.2 = .cell) && (!decide (y.2 = .local) || decide (y.1 = px))) && (decide (scope.names.lookup px = some .local) && (!decide (px ∈ N) && (scope.names.all fun y => !decide (y.2 = .free) || (decide (sc.names.lookup y.1 = some .cell) || decide (sc.names.lookup y.1 = some .free))))))))
theorem lamD_by {X : Cx} {px : Str} {scope : Scope} (h : lamDB X.N X.env.scope scope px = true) : LamD X px scope := by
  unfold lamDB at h
  simp only [Bool.and_eq_true, Bool.or_eq_true, Bool.not_eq_true', decide_eq_true_eq, decide_eq_false_iff_not, List.all_eq_true] at h
  obtain ⟨h1, h2, h3, h4, h5, h6, h7⟩ := h
  refine ⟨h1, h2, h3, fun y hy => ⟨(h4 y hy).1, fun e => ?_⟩, h5, h6, fun y hy e => ?_⟩
  · rcases (h4 y hy).2 with z | z
    · exact absurd e z
    · exact z
  · rcases h7 y hy with z | z
    · exact absurd e z
    · exact z
end Pl

set_option maxRecDepth 100000
set_option maxHeartbeats 4000000
namespace Pl
open PySem PySem.Spec PyProof.Rows L2 Fx LamX
open PySem.W (Frag)
/-! ### the end: a law of the second kind, with tables of code objects -/
/-- a new def's table of code objects: nothing in it, K does not speak of it -/
structure Tb (K : Frag) (h : Heap) (p : Addr × Addr) : Prop where
  ob : h.get? p.2 = some { cls := .none, data := .fields #[] }
  no : K.lookup p.2 = none
  cd : PySem.W.CodeHd h p.1 p.2
theorem lawCallGT {P : Program} {w : World} {K : Frag} {mg mb : Str → Option Value} {k : Nat} {fa a : Addr} {cs : List (Addr × Addr)} {fd : FuncData} {x : Str} {sp : Sp} {s1 : Shared} {vs : List Value} {ns : List Int}
    (KX : K.In s1.heap) (gl : s1.heap.Ns mainGlobals mg) (bl : s1.heap.Ns builtinsNs mb) (blb : ∀ x : Str, x ≠ "__name__" → mb x = bootBuiltins x) (lim : s1.heap.NoLimit) (hg : s1.gens = #[])
    (tb : ∀ p ∈ cs, Tb K s1.heap p) (hbm : ∃ (bm : Addr) (ob : Obj), mg "__builtins__" = some (.ref bm) ∧ bm ≠ builtinsNs ∧ s1.heap.get? bm = some ob ∧ ob.cls = .type "module" ∧ ob.dict = some builtinsNs ∧ ob.data = .plain)
    (ha : s1.heap.get? a = some { cls := .type "list", data := .seq vs.toArray }) (hi : IntsAre vs ns) (hl : ns.length ≤ sizeLine) (hr : Room k callerA)
    (F : ∀ base : Heap, K.In base → base.Ns mainGlobals mg → (∀ p ∈ cs, TabB base mg p.1 p.2) → FnG P w K mg base CX0 k fa fd [x] sp) (hbind : ∀ (s : Shared) (u : Value), BindsTo s fd ⟨[u], []⟩ [(x, u)])
    (hsp : ∀ H : Hp, (∀ p ∈ cs, H p.2 = some (.tbl #[])) → SqL K H a (ns.map V.int) → sp [.ref a] H (fun v _ => v = .bl true) fun _ _ _ => False) :
    codeAny (model P w) callerA (.call (.ref fa) ⟨[.ref a], []⟩) (fun r s' => r = .ok (.ret (.bool true)) ∧ OldK s1.heap s'.heap ∧ s'.os = s1.os ∧ AllBare s'.gens) s1 := by
  have rv := intVals hi
  -- the told heap: the tables, and the script unless K tells it
  obtain ⟨H, hH, hS, ok, cases_⟩ : ∃ H : Hp, (∀ p ∈ cs, H p.2 = some (.tbl #[])) ∧ SqL K H a (ns.map V.int) ∧ HOk P w H s1.heap ∧
      ∀ b, H b = none ∨ (H b = some (.tbl #[]) ∧ ∃ p ∈ cs, p.2 = b) ∨ (b = a ∧ K.lookup a = none ∧ ∃ o xs, H b = some (.frz o (.lst xs))) := by
    have aT : ∀ p ∈ cs, p.2 ≠ a := fun p hp z => by
      have q := (tb p hp).ob
      rw [z, ha] at q
      cases q
    have memT : ∀ p ∈ cs, p.2 ∈ cs.map (·.2) := fun p hp => List.mem_map.mpr ⟨p, hp, rfl⟩
    have isT : ∀ b, b ∈ cs.map (·.2) → ∃ p ∈ cs, p.2 = b := fun b hb => List.mem_map.mp hb
    cases hk : K.lookup a with
    | some o =>
      have e := KX a o hk
      rw [ha] at e
      cases e
      refine ⟨fun b => if b ∈ cs.map (·.2) then some (.tbl #[]) else none, fun p hp => if_pos (memT p hp), .inr ⟨_, vs.toArray, _, hk, rfl, rfl, rfl, by rw [List.size_toArray, hi.length]; exact hl, by simpa using rv⟩, fun b u z => ?_, fun b => ?_⟩
      · by_cases hb : b ∈ cs.map (·.2)
        · have y := (if_pos hb).symm.trans z
          cases y
          obtain ⟨p, hp, rfl⟩ := isT b hb
          exact (tb p hp).ob
        · have y := (if_neg hb).symm.trans z
          cases y
      · by_cases hb : b ∈ cs.map (·.2)
        · exact .inr (.inl ⟨if_pos hb, isT b hb⟩)
        · exact .inl (if_neg hb)
    | none =>
      refine ⟨fun b => if b = a then some (.frz { cls := .type "list", data := .seq vs.toArray } (.lst (ns.map V.int))) else if b ∈ cs.map (·.2) then some (.tbl #[]) else none, fun p hp => (if_neg (aT p hp)).trans (if_pos (memT p hp)), .inl (.inr ⟨{ cls := .type "list", data := .seq vs.toArray }, if_pos rfl⟩), fun b u z => ?_, fun b => ?_⟩
      · by_cases hb : b = a
        · have y := (if_pos hb).symm.trans z
          cases y
          subst hb
          exact ⟨ha, by rw [List.length_map]; exact hl, vs, _, rv, ha⟩
        · have z := (if_neg hb).symm.trans z
          by_cases hc : b ∈ cs.map (·.2)
          · have y := (if_pos hc).symm.trans z
            cases y
            obtain ⟨p, hp, rfl⟩ := isT b hc
            exact (tb p hp).ob
          · have y := (if_neg hc).symm.trans z
            cases y
      · by_cases hb : b = a
        · exact .inr (.inr ⟨hb, rfl, _, _, if_pos hb⟩)
        · by_cases hc : b ∈ cs.map (·.2)
          · exact .inr (.inl ⟨(if_neg hb).trans (if_pos hc), isT b hc⟩)
          · exact .inl ((if_neg hb).trans (if_neg hc))
  -- an object that is no list and no empty table is not told
  have free : ∀ {b : Addr} {o : Obj}, s1.heap.get? b = some o → (∀ us n, o.data ≠ .seq us n) → o.data ≠ .fields #[] → H b = none := fun {b o} e n1 n2 => by
    rcases cases_ b with h | ⟨_, p, hp, rfl⟩ | ⟨rfl, _⟩
    · exact h
    · rw [(tb p hp).ob] at e
      cases e
      exact absurd rfl n2
    · rw [ha] at e
      cases e
      exact absurd rfl (n1 _ _)
  have dict : ∀ {b : Addr} {o : Obj} {es : Array DictEntry} {ep : Nat}, s1.heap.get? b = some o → o.data = .dict es ep → H b = none := fun e d => free e (fun us n z => by rw [d] at z; cases z) fun z => by rw [d] at z; cases z
  have nsK : ∀ {b : Addr} {m : Str → Option Value}, s1.heap.Ns b m → (hidT s1.heap H).Ns b m := fun ⟨o, es, ep, e, d, r⟩ => ⟨o, es, ep, hidT_get e (dict e d), d, r⟩
  have KB : K.In (hidT s1.heap H) := fun b o e => hidT_get (KX b o e) (by
    rcases cases_ b with h | ⟨_, p, hp, rfl⟩ | ⟨rfl, h, _⟩
    · exact h
    · rw [(tb p hp).no] at e
      cases e
    · rw [h] at e
      cases e)
  have md : Mod K mg (hidT s1.heap H) := ⟨KB, nsK gl, ⟨mb, nsK bl, blb⟩, let ⟨mc, h1, h2⟩ := lim; ⟨mc, nsK h1, h2⟩⟩
  have TB : ∀ p ∈ cs, TabB (hidT s1.heap H) mg p.1 p.2 := fun p hp => by
    have t := tb p hp
    refine ⟨?_, ?_, fun z => ?_⟩
    · obtain ⟨o, us, file, tf, flags, tg, inF, text, tt, e1, r1, r2, r3, r⟩ := t.cd
      exact ⟨o, us, file, tf, flags, tg, inF, text, tt, hidT_get e1 (free e1 (fun us n z => by rw [r2] at z; cases z) fun z => by rw [r2] at z; cases z; simp at r3), r1, r2, r3, r⟩
    · obtain ⟨bm, ob, b1, b2, b3, b4, b5, b6⟩ := hbm
      have nG : bm ≠ mainGlobals := fun q => by
        obtain ⟨o, es, ep, e, d, _⟩ := gl
        rw [q, e] at b3
        cases b3
        rw [d] at b6
        cases b6
      have nP : bm ≠ p.2 := fun q => by
        rw [q, t.ob] at b3
        cases b3
        cases b6
      exact ⟨bm, ob, b1, b2, nG, nP, hidT_get b3 (free b3 (fun us n z => by rw [b6] at z; cases z) fun z => by rw [b6] at z; cases z), b4, b5, b6⟩
    · obtain ⟨o, es, ep, e, d, _⟩ := gl
      rw [z, t.ob] at e
      cases e
      cases d
  have e0 : Env0 P w K mg (hidT s1.heap H) callerA [] s1 H := ⟨rfl, md, fun b o e => of_hidT e, Nat.le_of_eq (hidT_size _ _), trivial, fun b hb => absurd (show b ∈ ([] : List Addr) from hb) (by simp), ok, .of_eq hg⟩
  refine codeAny_mono ((F _ KB (nsK gl) TB).run callerA [] s1 H ⟨[.ref a], []⟩ [.ref a] [.ref a] _ _ rfl hr e0 (hbind s1 (.ref a)) (.cons rfl .nil) (hsp H hH hS)) fun r s' h => ?_
  cases r with
  | error e => exact False.elim h
  | ok fl =>
    cases fl with
    | next => exact False.elim h
    | brk => exact False.elim h
    | cont => exact False.elim h
    | ret u =>
      obtain ⟨v, H', os, bare, un, ok', r', q⟩ := h
      obtain rfl : v = .bl true := q
      obtain rfl : u = Value.bool true := r'
      have kept : ∀ b o, H b = none ∨ b = a → s1.heap.get? b = some o → s'.heap.get? b = some o := fun b o hb e => by
        rcases cases_ b with h | ⟨_, p, hp, rfl⟩ | ⟨rfl, _, oa, xs, z⟩
        · exact un.keep b o e h (fun z => absurd (show b ∈ ([] : List Addr) from z) (by simp)) (by simp)
        · rcases hb with z | z
          · rw [hH p hp] at z
            cases z
          · rw [z, ha] at e
            have t := (tb p hp).ob
            rw [z, ha] at t
            cases t
        · obtain ⟨e1, _⟩ := ok b _ z
          obtain ⟨e2, _⟩ := ok' b _ (un.frzs b oa _ z)
          rw [e] at e1
          cases e1
          exact e2
      have grown : ∀ p ∈ cs, ∃ more : Array Value, s'.heap.get? p.2 = some { cls := .none, data := .fields more } := fun p hp => by
        obtain ⟨more, z⟩ := un.tbls p.2 #[] (hH p hp)
        exact ⟨_, ok' p.2 _ z⟩
      refine ⟨rfl, ⟨fun b o e => ?_, fun b o e => ?_⟩, os, bare⟩
      · rcases cases_ b with h | ⟨_, p, hp, rfl⟩ | ⟨h, _⟩
        · exact .inl (kept b o (.inl h) e)
        · obtain ⟨more, hm⟩ := grown p hp
          rw [(tb p hp).ob] at e
          cases e
          exact .inr (.inl ⟨((tb p hp).cd.tab (tb p hp).ob).isCodeTable, rfl, #[], more, rfl, by rw [Array.empty_append]; exact hm⟩)
        · exact .inl (kept b o (.inr h) e)
      · rcases cases_ b with h | ⟨_, p, hp, rfl⟩ | ⟨h, _⟩
        · exact ⟨o, kept b o (.inl h) e⟩
        · obtain ⟨more, hm⟩ := grown p hp
          exact ⟨_, hm⟩
        · exact ⟨o, kept b o (.inr h) e⟩
/-- what is known of the law's promise at the head's heap h: xs, the defs whose tables are used -/
def LawAtG (l : PySem.W.OpenLaw) (w : World) (K : Frag) (k n : Nat) (x : Str) (xs : List Str) (mg : Str → Option Value) (fa : Addr) : Prop :=
  ∃ (fd : FuncData) (cs : List (Addr × Addr)) (sp : Sp), (∀ p ∈ cs, ∃ y ∈ xs, PySem.W.tabIn K y = some p) ∧ (∀ p ∈ cs, K.lookup p.2 = none) ∧ (∀ (s : Shared) (u : Value), BindsTo s fd ⟨[u], []⟩ [(x, u)]) ∧
    (∀ (H : Hp) (a : Addr) (ns : List Int), ns.length ≤ n → (∀ p ∈ cs, H p.2 = some (.tbl #[])) → SqL K H a (ns.map V.int) → sp [.ref a] H (fun v _ => v = .bl true) fun _ _ _ => False) ∧
    ∀ base : Heap, K.In base → base.Ns mainGlobals mg → (∀ p ∈ cs, TabB base mg p.1 p.2) → FnG l.prog w K mg base CX0 k fa fd [x] sp
theorem walkGT {l : PySem.W.OpenLaw} {n k : Nat} {q : Program} {loose : List Str} {XP : (Str → Option Value) → Heap → Prop} {YP : World → Heap → Prop} {d : DefRec} {K : Params → Frag} {x : Str} {xs : List Str}
    (hn : l.most = some n) (hn2 : n ≤ sizeLine) (hdf : d.params.defaults = []) (hr : Room k callerA) (hrec : (xs.all fun y => (recsOf q).any fun e => e.name == y) = true) (hY : ∀ (w : World) (h : Heap), YP w h → (K w.params).In h)
    (F : ∀ (w : World) (mg : Str → Option Value) (fa : Addr) (h : Heap), (K w.params).In h → h.Ns mainGlobals mg → mg d.name = some (.ref fa) → LawAtG l w (K w.params) k n x xs mg fa) :
    PySem.W.WalkO q loose XP YP l.row.toRowW d [] (fun f vs => PySem.call f vs) := by
  refine Att.attach_callB hn hdf fun w s0 s1 mg mb fa o pm cd doc a vs ns G Y ho hd hcd hmg hobj hints hlen _ hg => ?_
  have KX := hY w _ Y
  obtain ⟨fd, cs, sp, hcs, nT, hb, hsp, hF⟩ := F w mg fa _ KX G.T.g hmg
  refine lawCallGT KX G.T.g G.T.b G.T.builtins G.T.nolimit hg (fun p hp => ?_) G.T.bmain hobj hints (Nat.le_trans hlen hn2) hr hF hb fun H hH hS => hsp H a ns hlen hH hS
  obtain ⟨y, hy, ht⟩ := hcs p hp
  obtain ⟨dd, hfd⟩ : ∃ dd, (recsOf q).find? (fun e => e.name == y) = some dd := by
    cases e : (recsOf q).find? (fun e => e.name == y) with
    | some dd => exact ⟨dd, rfl⟩
    | none =>
      have z := List.all_eq_true.mp hrec y hy
      rw [List.any_eq_true] at z
      obtain ⟨u, hu, hq⟩ := z
      exact absurd hq (List.find?_eq_none.mp e u hu)
  have t := PySem.W.tab_of G.T KX hfd ht
  exact ⟨t.2, nT p hp, t.1⟩
end Pl

set_option maxRecDepth 100000
set_option maxHeartbeats 4000000
namespace Pl
open PySem PySem.Spec PyProof.Rows L2 Fx LamX
open PySem.W (Frag)
/-- all that is asked of one class -/
structure CF (prog : Program) (K : Frag) (mg : Str → Option Value) (B nw ini : String) (bmB : List Value) (C f : Addr) (fld nm : Str) : Prop where
  xt : XT prog K mg B nw ini bmB C f fld
  xi : XI K C
  kp : PySem.W.keepIn K (.ref C) = true
  no : PySem.W.findIn K (.ref C) fld = some none
  gl : mg nm = some (.ref C)
theorem cf_mk {prog : Program} {K : Frag} {h : Heap} {mg : Str → Option Value} {B nw ini : String} {bmB : List Value} {C f : Addr} {fld nm : Str} (X : K.In h) (G : h.Ns mainGlobals mg)
    (FB : ExcBaseFacts B nw ini bmB) (KF : PySem.W.KxsFacts B ini) (SF : StoreFacts B bmB "object.__setattr__" "object") (hf : Fld fld)
    {oc doc pm ct : Value} {od an : Option Addr} {osl : Array (Option Value)} {cda cc : Addr} {qual msg : Str} {p1 p2 q1 q2 q3 q4 q5 q6 q7 q8 q9 q10 : Pos}
    {ccl cl : Value} {cdd cld : Option Addr} {vs : Array Value} {ccs csl : Array (Option Value)} {file : Str} {tf : Tok}
    (aC : PySem.W.nsIn K mainGlobals nm = some (some (.ref C)))
    (exi : PySem.W.excInitIn K C bmB nw = true) (over : PySem.W.excOver K C bmB = true)
    (sa : PySem.W.findIn K (.ref C) "__setattr__" = some (some (.builtin "object.__setattr__")))
    (tk : PySem.W.takerIn K C fld = some none) (hd : PySem.W.hasDictIn K C = true)
    (iC : PySem.W.findIn K (.ref C) "__init__" = some (some (.ref f))) (iF : PySem.W.isFn K (.ref f) = true)
    (op : PySem.W.nsIn K cStatics "thirdparty.any" = some none)
    (su : PySem.W.ks_superIn K C C "__init__" = some (some (.builtin ini)))
    (sB : PySem.W.subIn K (.ref C) (.type B) = some true) (mr : PySem.W.mroIn K C (.ref C) = some true)
    (gs : PySem.W.nsIn K mainGlobals "super" = some none) (top : (prog.main.scope.names.lookup ("super" : Str)).isSome = false)
    (lf : K.lookup f = some ⟨oc, od, .func (PySem.W.ksFn "__init__" qual (xArgs fld p1 p2) (xBody fld msg q1 q2 q3 q4 q5 q6 q7 q8 q9 q10) (xScope fld) .none .none doc pm an (.ref cda) ct cc), osl⟩)
    (cf : PySem.W.codeIn K (.ref cda) qual = true)
    (lc : K.lookup cda = some ⟨ccl, cdd, .fields vs, ccs⟩) (v2 : vs[2]? = some (.str file tf)) (fi : ((prog.main.file : Str) == file) = true)
    (lx : K.lookup cc = some ⟨cl, cld, .cell (some (.ref C)), csl⟩) (ln : (q3.endLine == q5.line) = true)
    (ga : PySem.W.findIn K (.ref C) "__getattribute__" = some (some (.builtin "BaseException.__getattribute__"))) (gg : PySem.W.findIn K (.ref C) "__getattr__" = some none)
    (sb : PySem.W.subIn K (.ref C) (.type "BaseException") = some true) (kl : PySem.W.findIn K (.ref C) "__class__" = some (some (.builtin "object.__class__")))
    (sp : PySem.W.specialIn K (.builtin "object.__class__") "__get__" = some (some (.builtin "getset_descriptor.__get__"))) (tg : PySem.W.takesIn K (.builtin "object.__class__") = some true)
    (mo : PySem.W.mroIn K C (.type "object") = some true) (kp : PySem.W.keepIn K (.ref C) = true) (no : PySem.W.findIn K (.ref C) fld = some none) : CF prog K mg B nw ini bmB C f fld nm :=
  ⟨⟨FB, KF, SF, hf, exi, over, sa, tk, hd, iC, iF, op, su, sB, mr, PySem.W.mg_none_of X G gs, top, ⟨_, _, _, _, _, _, _, _, _, _, _, _, _, _, _, _, _, _, _, _, _, _, _, lf, cf, ⟨_, _, _, _, _, _, lc, v2, fi⟩, ⟨_, _, _, lx⟩, ln⟩⟩,
    ⟨ga, gg, sb, hd, kl, sp, tg, mo⟩, kp, no, PySem.W.mg_of X G aC⟩
def adrOf (mg : Str → Option Value) (c : Str) : Addr := match mg c with
  | some (.ref a) => a
  | _ => 0
theorem adrOf_eq {mg : Str → Option Value} {c : Str} {a : Addr} (h : mg c = some (.ref a)) : adrOf mg c = a := by
  unfold adrOf
  rw [h]
theorem CF.bxp {prog : Program} {K : Frag} {mg : Str → Option Value} {B nw ini : String} {bmB : List Value} {C f : Addr} {fld nm : Str} (c : CF prog K mg B nw ini bmB C f fld nm) (t : PySem.W.typeIn K (.ref C) = some (.type "type")) (e1 : adrOf mg nm = C) (e2 : flOf nm = fld) : BXp prog K mg (adrOf mg nm) nm (flOf nm) := by
  rw [e1, e2]
  exact ⟨⟨_, _, _, _, _, c.xt⟩, c.xi.sb, t, c.gl, c.kp⟩
theorem FunL.fun {K : Frag} {x qual : Str} {st : Stmt} {f c : Addr} {fd : FuncData} (F : FunL K x qual st f fd c) : Fun K x qual st f fd := by
  obtain ⟨oc, od, kV, doc, pm, an, ct, osl, e, l, h⟩ := F.ex
  exact ⟨⟨oc, od, kV, doc, pm, an, .ref c, ct, osl, e, l, h⟩, F.kp⟩
theorem funL_mk {K : Frag} {x qual : Str} {st : Stmt} {f c : Addr} {oc : Value} {od an : Option Addr} {osl : Array (Option Value)} {kV doc pm ct : Value} (l : K.lookup f = some ⟨oc, od, .func (PySem.W.fnOf x qual (defArgs st) (defBody st) (defScope st) .none kV doc pm an (.ref c) ct), osl⟩)
    (h : PySem.W.codeIn K (.ref c) qual = true) (k : PySem.W.keepIn K (.ref f) = true) : FunL K x qual st f (PySem.W.fnOf x qual (defArgs st) (defBody st) (defScope st) .none kV doc pm an (.ref c) ct) c := ⟨⟨_, _, _, _, _, _, _, _, rfl, l, h⟩, k⟩
theorem funW_mk {K : Frag} {x qual : Str} {st : Stmt} {f : Addr} {oc : Value} {od an : Option Addr} {osl : Array (Option Value)} {dV kV doc pm cdv ct : Value} (l : K.lookup f = some ⟨oc, od, .func (PySem.W.fnOf x qual (defArgs st) (defBody st) (defScope st) dV kV doc pm an cdv ct), osl⟩)
    (h : PySem.W.codeIn K cdv qual = true) (k : PySem.W.keepIn K (.ref f) = true) : FunW K x qual st f (PySem.W.fnOf x qual (defArgs st) (defBody st) (defScope st) dV kV doc pm an cdv ct) := ⟨⟨_, _, _, _, _, _, _, _, _, _, rfl, l, h⟩, k⟩
theorem tabIn_of {K : Frag} {x : Str} {f c P : Addr} {oc d : Value} {od e : Option Addr} {fd : FuncData} {sl s : Array (Option Value)} {vs : Array Value} (a : PySem.W.nsIn K mainGlobals x = some (some (.ref f))) (l : K.lookup f = some ⟨oc, od, .func fd, sl⟩) (hc : fd.code = .ref c)
    (u : K.lookup c = some ⟨d, e, .fields vs, s⟩) (v : vs[11]? = some (.ref P)) : PySem.W.tabIn K x = some (c, P) := by
  unfold PySem.W.tabIn
  rw [a]
  show (match K.lookup f with
    | some ⟨_, _, .func fd, _⟩ => _
    | _ => none) = _
  rw [l]
  dsimp only
  rw [hc]
  dsimp only
  rw [u]
  dsimp only
  rw [v]
/-- an empty tuple that K tells -/
theorem sqT0 {K : Frag} {e : Addr} {d : Option Addr} {n : Nat} {sl : Array (Option Value)} (l : K.lookup e = some ⟨.type "tuple", d, .seq #[] n, sl⟩) (F : Hp) : SqT K F e [] := .inr ⟨_, #[], n, l, rfl, rfl, by simp, .nil⟩
end Pl

set_option maxRecDepth 100000
set_option maxHeartbeats 4000000
namespace Fx
open PySem PySem.Spec PyProof.Rows L2
open PySem.W (Frag)
def top (i : Nat) : Stmt := PySem.Challenge.pw_loopcuts_k43_choices_by_hand_and_refused.main.body.getD i (.Pass ⟨0, 0, 0, 0⟩)
abbrev sBegun : Stmt := top 44
abbrev sNext : Stmt := top 45
def kCells : Key := .inr "cells"
def kLeft : Key := .inr "left"
def kAt : Key := .inr "at"
def mKvs (c l : Addr) (z : Int) : List (Key × V) := [(kCells, .ref c), (kLeft, .ref l), (kAt, .int z)]
theorem kcl : ¬ kCells = kLeft := by decide +kernel
theorem kca : ¬ kCells = kAt := by decide +kernel
theorem kla : ¬ kLeft = kAt := by decide +kernel
theorem mKvs_cells (c l : Addr) (z : Int) : valV (mKvs c l z) kCells = some (.ref c) := valV_pos rfl
theorem mKvs_left (c l : Addr) (z : Int) : valV (mKvs c l z) kLeft = some (.ref l) := by
  unfold mKvs
  rw [valV_neg kcl, valV_pos rfl]
theorem mKvs_at (c l : Addr) (z : Int) : valV (mKvs c l z) kAt = some (.int z) := by
  unfold mKvs
  rw [valV_neg kca, valV_neg kla, valV_pos rfl]
theorem mKvs_putLeft (c l l' : Addr) (z : Int) : putK (mKvs c l z) kLeft (.ref l') = mKvs c l' z := by
  unfold putK mKvs
  simp [kcl, kca, kla, Ne.symm kcl, Ne.symm kca, Ne.symm kla]
theorem mKvs_putAt (c l : Addr) (z z' : Int) : putK (mKvs c l z) kAt (.int z') = mKvs c l z' := by
  unfold putK mKvs
  simp [kcl, kca, kla, Ne.symm kcl, Ne.symm kca, Ne.symm kla]
theorem mKvs_merge (c l : Addr) (z : Int) : mergeK [] (mKvs c l z) = mKvs c l z := by
  unfold mergeK mKvs putK
  simp [kcl, kca, kla, Ne.symm kcl, Ne.symm kca, Ne.symm kla]
/-- the state of the draws: the dict at m, its lists; apart from what G tells -/
def MSx (H G : Hp) (m : Addr) (n : Nat) (c l : Addr) (z : Int) (ns ls : List Int) : Prop :=
  H m = some (.dK (mKvs c l z)) ∧ H c = some (.lst (ns.map V.int)) ∧ H l = some (.lst (ls.map V.int)) ∧ c ≠ l ∧ 0 ≤ z ∧ z ≤ (n : Int) ∧ ns.length ≤ 63 ∧ ls.length ≤ 63 ∧ G m = none ∧ G c = none ∧ G l = none
structure MS (H G : Hp) (m : Addr) (n : Nat) : Prop where
  ex : ∃ (c l : Addr) (z : Int) (ns ls : List Int), MSx H G m n c l z ns ls
  sub : Same G H
theorem MS.new {H G : Hp} {m p : Addr} {n : Nat} {o : HO} (M : MS H G m n) (hp : H p = none) : MS (upd H p o) (upd G p o) m n := by
  obtain ⟨⟨c, l, z, ns, ls, h1, h2, h3, r⟩, s⟩ := M
  have n1 := ne_of_none h1 hp
  have n2 := ne_of_none h2 hp
  have n3 := ne_of_none h3 hp
  refine ⟨⟨c, l, z, ns, ls, by rw [upd_ne n1]; exact h1, by rw [upd_ne n2]; exact h2, by rw [upd_ne n3]; exact h3, r.1, r.2.1, r.2.2.1, r.2.2.2.1, r.2.2.2.2.1, by rw [upd_ne n1]; exact r.2.2.2.2.2.1, by rw [upd_ne n2]; exact r.2.2.2.2.2.2.1, by rw [upd_ne n3]; exact r.2.2.2.2.2.2.2⟩, fun b u e => ?_⟩
  by_cases hb : b = p
  · subst hb
    rw [upd_same] at e ⊢
    exact e
  · rw [upd_ne hb] at e ⊢
    exact s b u e
theorem MS.put {H G : Hp} {m p : Addr} {n : Nat} {o u : HO} (M : MS H G m n) (hp : G p = some u) : MS (upd H p o) (upd G p o) m n := by
  obtain ⟨⟨c, l, z, ns, ls, h1, h2, h3, r⟩, s⟩ := M
  have n1 : m ≠ p := (ne_of_none hp r.2.2.2.2.2.1).symm
  have n2 : c ≠ p := (ne_of_none hp r.2.2.2.2.2.2.1).symm
  have n3 : l ≠ p := (ne_of_none hp r.2.2.2.2.2.2.2).symm
  refine ⟨⟨c, l, z, ns, ls, by rw [upd_ne n1]; exact h1, by rw [upd_ne n2]; exact h2, by rw [upd_ne n3]; exact h3, r.1, r.2.1, r.2.2.1, r.2.2.2.1, r.2.2.2.2.1, by rw [upd_ne n1]; exact r.2.2.2.2.2.1, by rw [upd_ne n2]; exact r.2.2.2.2.2.2.1, by rw [upd_ne n3]; exact r.2.2.2.2.2.2.2⟩, fun b u e => ?_⟩
  by_cases hb : b = p
  · subst hb
    rw [upd_same] at e ⊢
    exact e
  · rw [upd_ne hb] at e ⊢
    exact s b u e
theorem MS.mono {H G : Hp} {m : Addr} {n k : Nat} (M : MS H G m n) (h : n ≤ k) : MS H G m k := by
  obtain ⟨⟨c, l, z, ns, ls, h1, h2, h3, r1, r2, r3, r⟩, s⟩ := M
  exact ⟨⟨c, l, z, ns, ls, h1, h2, h3, r1, r2, by omega, r⟩, s⟩
theorem MS.less {H G G' : Hp} {m : Addr} {n : Nat} (M : MS H G m n) (h : Same G' G) : MS H G' m n := by
  obtain ⟨⟨c, l, z, ns, ls, h1, h2, h3, r1, r2, r3, r4, r5, r6, r7, r8⟩, s⟩ := M
  exact ⟨⟨c, l, z, ns, ls, h1, h2, h3, r1, r2, r3, r4, r5, h.free r6, h.free r7, h.free r8⟩, h.trans s⟩
theorem intAt {ns : List Int} {i : Nat} {y : V} (h : (ns.map V.int)[i]? = some y) : ∃ u, y = V.int u := by
  rw [List.getElem?_map] at h
  cases e : ns[i]? with
  | none =>
    rw [e] at h
    cases h
  | some u =>
    rw [e] at h
    exact ⟨u, (Option.some.inj h).symm⟩
def spBegun (K : Frag) : Sp := fun vs H Q _ => ∃ (a : Addr) (ns : List Int), vs = [.ref a] ∧ SqL K H a (ns.map V.int) ∧ ns.length ≤ 63 ∧ ∀ m H', MS H' H m 0 → Q (.ref m) H'
structure Blt (mg : Str → Option Value) : Prop where
  len : mg "len" = none
  int : mg "int" = none
  list : mg "list" = none
section
variable {P : Program} {w : World} {K : Frag} {mg : Str → Option Value} {base : Heap}
theorem scBegun : FnScope ["script", "cell"] ["script"] (defScope sBegun) := ⟨rfl, rfl, rfl, by decide +kernel, rfl, by decide +kernel, by decide +kernel⟩
theorem ok_begun {f : Addr} {fd : FuncData} (F : Fun K "_law_begun" "_law_begun" sBegun f fd) (B : Blt mg) : FnOk P w K mg base CX0 1 f fd ["script"] (spBegun K) := by
  refine F.ok scBegun (fun vs H Q E h => ?_) (fun cdv A outer s H vs Q E hr h => ?_)
  · obtain ⟨a, ns, rfl, _⟩ := h
    rfl
  · obtain ⟨a, ns, rfl, hS, hlen, k⟩ := h
    have hu := hu_of hr
    refine ⟨_, pss_one (ps_ret (pe_disp (pps_cons pe_str (pe_callTy call_list_of (by rfl) B.list (by decide +kernel) (pa_cons (pv 0) pa_nil))
      (pps_cons pe_str (pe_lc (own := [("cell", 1)]) (g := gName 1) rfl scBegun.nd (pi_list (pv 0)) (blkOk_by (own := [("cell", 1)]) (N := ["script", "cell"]) (sc := defScope sBegun) (by decide +kernel)) (fun _ _ _ _ _ => pg_name (i := 1) scBegun.nd rfl (Or.inl rfl))
        (fun _ _ _ _ _ => pts_one (pt_cmpR op_ge (pv 1) (pe_op op_pow pe_int pe_int) (nomark _))) (fun _ _ _ _ _ => pv 1))
      (pps_cons pe_str pe_int pps_nil))) (by rfl) (by rfl) (fun z => by cases z) (by decide))), ?_⟩
    intro p np
    have s1 : Same H (upd H p (.dK [])) := fun b o e => by
      rw [upd_ne (ne_of_none e np)]
      exact e
    refine ⟨_, rfl, a, _, rfl, .inl (s1.seq hS), fun c hc => ?_⟩
    have npc : p ≠ c := fun z => by
      rw [z, upd_same] at hc
      cases hc
    have hc0 : H c = none := by
      rw [upd_ne npc.symm] at hc
      exact hc
    have s2 : Same H (upd (upd H p (.dK [])) c (.lst (ns.map V.int))) := fun b o e => by
      rw [upd_ne (ne_of_none e hc0), upd_ne (ne_of_none e np)]
      exact e
    refine ⟨_, rfl, a, rfl, ⟨_, s2.seq hS⟩, fun l hl => ?_⟩
    have nl : l ≠ p ∧ l ≠ c ∧ H l = none := by
      refine ⟨fun z => ?_, fun z => ?_, s2.free hl⟩
      · rw [z, upd_ne npc, upd_same] at hl
        cases hl
      · rw [z, upd_same] at hl
        cases hl
    have s3 : ∀ o, Same H (upd (upd (upd H p (.dK [])) c (.lst (ns.map V.int))) l o) := fun o b u e => by
      rw [upd_ne (ne_of_none e nl.2.2)]
      exact s2 b u e
    refine lc_list (K := K) (a := a) (xs := ns.map V.int) (fun i H' => ∃ ls : List Int, ls.length ≤ i ∧ H' = upd (upd (upd H p (.dK [])) c (.lst (ns.map V.int))) l (.lst (ls.map V.int))) ⟨[], Nat.le_refl _, rfl⟩ (fun i H' _ ⟨ls, _, e⟩ => ?_) ?_ ?_
    · subst e
      exact (s3 _).seq hS
    · rintro i y H' hi ⟨ls, hll, rfl⟩
      obtain ⟨u, rfl⟩ := intAt hi
      have hlt : i < ns.length := by
        have q := (List.getElem?_eq_some_iff.mp hi).1
        rwa [List.length_map] at q
      refine ⟨rfl, _, rfl, _, _, rfl, rfl, ⟨by decide, by decide, by decide⟩, _, _, rfl, rfl, _, rfl, ?_⟩
      by_cases c18 : (10 : Int) ^ (18 : Int).toNat ≤ u
      · rw [decide_eq_true c18]
        refine iteT ⟨_, rfl, _, upd_same, ?_, ls ++ [u], ?_, ?_⟩
        · rw [List.length_map]
          exact small1000 (by omega)
        · rw [List.length_append, List.length_singleton]
          omega
        · rw [upd_upd, List.map_append]
          rfl
      · rw [decide_eq_false c18]
        exact iteF ⟨ls, by omega, rfl⟩
    · rintro H' ⟨ls, hll, rfl⟩
      rw [List.length_map] at hll
      have hp3 : upd (upd (upd H p (.dK [])) c (.lst (ns.map V.int))) l (.lst (ls.map V.int)) p = some (.dK []) := by
        rw [upd_ne nl.1.symm, upd_ne npc, upd_same]
      refine ⟨hp3, mKvs c l 0, rfl, (by show 3 ≤ 15; decide), k p _ ⟨⟨c, l, 0, ns, ls, ?_, ?_, ?_, nl.2.1.symm, Int.le_refl _, by omega, hlen, by omega, np, hc0, nl.2.2⟩, fun b o e => ?_⟩⟩
      · rw [upd_same]
        exact congrArg some (congrArg HO.dK (mKvs_merge c l 0))
      · rw [upd_ne npc.symm, upd_ne nl.2.1.symm, upd_same]
      · rw [upd_ne nl.1, upd_same]
      · rw [upd_ne (ne_of_none e np)]
        exact s3 _ b o e
/-- a draw below many -/
def spNext : Sp := fun vs H Q _ => ∃ (G : Hp) (m : Addr) (n : Nat) (many : Int), vs = [.ref m, .int many] ∧ MS H G m n ∧ n < 2 ^ 60 ∧ 1 ≤ many ∧ many < 1073741824 ∧ ∀ (r : Int) (H' : Hp), 0 ≤ r → r < many → MS H' G m (n + 1) → Q (.int r) H'
theorem dpInts {K : Frag} {H : Hp} : ∀ ns : List Int, DpAll K H (ns.map V.int) (ns.map PyData.int)
  | [] => .nil
  | n :: ns => .cons (.int n) (dpInts ns)
theorem layInts : ∀ ns : List Int, PyData.canLayAll0 (ns.map PyData.int) = true
  | [] => rfl
  | n :: ns => by
    rw [List.map_cons]
    simp [PyData.canLayAll0, PyData.canLay0, layInts ns]
theorem depthInts : ∀ ns : List Int, PyData.depthAll (ns.map PyData.int) ≤ 0
  | [] => by simp [PyData.depthAll]
  | n :: ns => by
    have h := depthInts ns
    rw [List.map_cons]
    simp only [PyData.depthAll, PyData.depth]
    omega
theorem shapeInts (ns : List Int) : SeqAt.shaped (.list (ns.map PyData.int)) = true := by
  have h := depthInts ns
  have h2 : (PyData.list (ns.map PyData.int)).depth ≤ 64 := by
    simp only [PyData.depth]
    omega
  unfold SeqAt.shaped
  rw [decide_eq_true h2]
  simp only [PyData.canLay0, layInts ns, Bool.and_self]
theorem eqvInts (ns : List Int) : PyData.eqv (.list (ns.map PyData.int)) (.list []) = ns.isEmpty := by
  cases ns <;> simp [PyData.eqv, PyData.eqvAll]
theorem ixN0 {n : Nat} (h : 0 < n) : ixN n 0 = some 0 := by
  unfold ixN
  rw [if_pos (Int.le_refl 0), if_pos (by omega)]
  rfl
theorem cutTail (v : V) (xs : List V) : cutV (v :: xs) (some 1) none = xs := by
  have e : HT.sIx (v :: xs).length 0 (some 1) = 1 := by
    simp [HT.sIx]
  have e2 : HT.sIx (v :: xs).length (v :: xs).length none = (v :: xs).length := by
    simp [HT.sIx]
  unfold cutV
  rw [e, e2]
  simp
theorem MSx.left {H G : Hp} {m c l : Addr} {n : Nat} {z : Int} {ns ls : List Int} (X : MSx H G m n c l z ns ls) : DGet H m (.str "left") (some (.ref l)) := by
  have q := DGet.k (k := kLeft) X.1
  rw [mKvs_left] at q
  exact q
theorem MSx.cells {H G : Hp} {m c l : Addr} {n : Nat} {z : Int} {ns ls : List Int} (X : MSx H G m n c l z ns ls) : DGet H m (.str "cells") (some (.ref c)) := by
  have q := DGet.k (k := kCells) X.1
  rw [mKvs_cells] at q
  exact q
theorem MSx.at_ {H G : Hp} {m c l : Addr} {n : Nat} {z : Int} {ns ls : List Int} (X : MSx H G m n c l z ns ls) : DGet H m (.str "at") (some (.int z)) := by
  have q := DGet.k (k := kAt) X.1
  rw [mKvs_at] at q
  exact q
theorem MSx.junk {H G : Hp} {m c l p : Addr} {n : Nat} {z : Int} {ns ls : List Int} {o : HO} (X : MSx H G m n c l z ns ls) (hp : H p = none) : MSx (upd H p o) G m n c l z ns ls := by
  obtain ⟨h1, h2, h3, r⟩ := X
  exact ⟨by rw [upd_ne (ne_of_none h1 hp)]; exact h1, by rw [upd_ne (ne_of_none h2 hp)]; exact h2, by rw [upd_ne (ne_of_none h3 hp)]; exact h3, r⟩
theorem sameNew {G H : Hp} {p : Addr} {o : HO} (s : Same G H) (hp : H p = none) : Same G (upd H p o) := fun b u e => by
  rw [upd_ne (ne_of_none (s b u e) hp)]
  exact s b u e
theorem samePut {G H : Hp} {p : Addr} {o : HO} (s : Same G H) (hp : G p = none) : Same G (upd H p o) := fun b u e => by
  rw [upd_ne (ne_of_none e hp)]
  exact s b u e
theorem MSx.setLeft {H G : Hp} {m c l l' : Addr} {n : Nat} {z : Int} {ns ls ls' : List Int} (X : MSx H G m n c l z ns ls) (h : H l' = some (.lst (ls'.map V.int))) (hc : c ≠ l') (hG : G l' = none) (hl : ls'.length ≤ 63) :
    MSx (upd H m (.dK (putK (mKvs c l z) kLeft (.ref l')))) G m n c l' z ns ls' := by
  obtain ⟨h1, h2, h3, r1, r2, r3, r4, r5, r6, r7, r8⟩ := X
  have n1 : c ≠ m := ne_of h2 h1 (by intro q; cases q)
  have n2 : l' ≠ m := ne_of h h1 (by intro q; cases q)
  exact ⟨by rw [upd_same, mKvs_putLeft], by rw [upd_ne n1]; exact h2, by rw [upd_ne n2]; exact h, hc, r2, r3, r4, hl, r6, r7, hG⟩
theorem MSx.setAt {H G : Hp} {m c l : Addr} {n : Nat} {z : Int} {ns ls : List Int} (X : MSx H G m n c l z ns ls) : MSx (upd H m (.dK (putK (mKvs c l z) kAt (.int (z + 1))))) G m (n + 1) c l (z + 1) ns ls := by
  obtain ⟨h1, h2, h3, r1, r2, r3, r4, r5, r6, r7, r8⟩ := X
  have n1 : c ≠ m := ne_of h2 h1 (by intro q; cases q)
  have n2 : l ≠ m := ne_of h3 h1 (by intro q; cases q)
  exact ⟨by rw [upd_same, mKvs_putAt], by rw [upd_ne n1]; exact h2, by rw [upd_ne n2]; exact h3, r1, by omega, by omega, r4, r5, r6, r7, r8⟩
abbrev nNext : List Str := ["m", "many", "rest", "at", "bits", "cell", "blend"]
theorem scNext : FnScope nNext ["m", "many"] (defScope sNext) := ⟨rfl, rfl, rfl, by decide +kernel, rfl, by decide +kernel, by decide +kernel⟩
theorem ok_next {f : Addr} {fd : FuncData} (F : Fun K "_law_next" "_law_next" sNext f fd) (B : Blt mg) : FnOk P w K mg base CX0 1 f fd ["m", "many"] spNext := by
  refine F.ok scNext (fun vs H Q E h => ?_) (fun cdv A outer s H vs Q E hr h => ?_)
  · obtain ⟨G, m, n, many, rfl, _⟩ := h
    rfl
  · obtain ⟨G, m, n, many, rfl, M, hn, h1, h2, k⟩ := h
    have hu := hu_of hr
    refine ⟨_, C8.pss_cut (ps_while PassesOwn.never
          (PW.pt (pw_and (pt_cmpR (op_neD hr.units) (pe_dget hu (pv 0) pe_str (fun _ _ => rfl)) (pe_lst pa_nil) (nomark _))
            (pw_and1 (pt_cmpR op_eq (pe_ix ix_list (pe_dget hu (pv 0) pe_str (fun _ _ => rfl)) pe_int (fun _ _ => rfl)) pe_int (nomark _)))))
          (pss_one (ps_dput hu (pv 0) pe_str (pe_slice sl_list (pe_dget hu (pv 0) pe_str (fun _ _ => rfl)) (po_some pe_int) po_none) rfl)))
      (pss_cons (ps_if (pt_cmpR (op_neD hr.units) (pe_dget hu (pv 0) pe_str (fun _ _ => rfl)) (pe_lst pa_nil) (nomark _))
          (pss_cons (ps_set (i := 2) scNext.nd rfl (Or.inl rfl) (pe_ix ix_list (pe_dget hu (pv 0) pe_str (fun _ _ => rfl)) pe_int (fun _ _ => rfl)))
            (pss_cons (ps_asg (pe_op op_fdivN (pv 2) (pv 1)) (pg_sub (pe_dget hu (pv 0) pe_str (fun _ _ => rfl)) pe_int set_list))
              (pss_one (ps_ret (pe_op op_modN (pe_callTy call_int1 (by rfl) B.int (by decide +kernel) (pa_cons (pv 2) pa_nil)) (pv 1)))))) pss_nil)
      (pss_cons (ps_par rfl scNext.nd (i := 3) (j := 4) rfl rfl (by decide) rfl rfl (pa_cons (pe_op op_add (pe_dget hu (pv 0) pe_str (fun _ _ => rfl)) pe_int) (pa_cons (pe_dget hu (pv 0) pe_str (fun _ _ => rfl)) pa_nil)) (by rfl))
      (pss_cons (ps_dput hu (pv 0) pe_str (pv 3) rfl)
      (C8.pss_cut (ps_set (i := 5) scNext.nd rfl (Or.inl rfl) (pe_ifExp (pt_cmpR (op_neD hr.units) (pv 4) (pe_lst pa_nil) (nomark _))
          (pe_callTy call_int1 (by rfl) B.int (by decide +kernel) (pa_cons (pe_ix ix_list (pv 4) (pe_op op_modN (pe_callTy call_int1 (by rfl) B.int (by decide +kernel) (pa_cons (pe_op op_add (pe_op op_mul (pv 3) (pv 3)) (pe_op op_fdiv (pv 3) pe_int)) pa_nil)) (pe_callB call_len_seq (by rfl) B.len PySem.boot_len (pa_cons (pv 4) pa_nil))) (fun _ _ => rfl)) pa_nil)) pe_int))
      (pss_cons (ps_set (i := 6) scNext.nd rfl (Or.inl rfl) (pe_op op_mod (pe_callTy call_int1 (by rfl) B.int (by decide +kernel) (pa_cons (pe_op op_add (pe_op op_add (pe_op op_mul (pv 5) pe_int) (pe_op op_mul (pv 3) pe_int)) (pe_op op_mul (pe_op op_mul pe_int (pv 3)) (pv 3))) pa_nil)) pe_int))
      (pss_one (ps_ret (pe_op op_modN (pe_callTy call_int1 (by rfl) B.int (by decide +kernel) (pa_cons (pe_op op_fdiv (pe_op op_mod (pe_callTy call_int1 (by rfl) B.int (by decide +kernel) (pa_cons (pe_op op_add (pe_op op_mul (pv 6) pe_int) (pe_op op_mul pe_int (pv 3))) pa_nil)) pe_int) pe_int) pa_nil)) (pv 1))))))))), ?_⟩
    refine ⟨fun σ' H' => σ' = [some (.ref m), some (.int many), none, none, none, none, none] ∧ MS H' G m n, ?_, ?_⟩
    · obtain ⟨⟨c0, l0, z0, ns0, ls0, X0⟩, s0⟩ := M
      refine ⟨fun j σ' H' => σ' = [some (.ref m), some (.int many), none, none, none, none, none] ∧ Same G H' ∧ ∃ (c l : Addr) (z : Int) (ns ls : List Int), MSx H' G m n c l z ns ls ∧ ls.length = j, ⟨_, rfl, s0, c0, l0, z0, ns0, ls0, X0, rfl⟩, ?_⟩
      rintro j σ' H' ⟨rfl, sG, c, l, z, ns, ls, X, rfl⟩
      refine ⟨_, rfl, m, _, rfl, X.left, Nat.zero_le _, fun p np => ⟨_, _, .lst (SqL.of (X.junk np).2.2.1) (dpInts ls), .lst (SqL.of upd_same) .nil, shapeInts ls, shapeInts [], _, rfl, ?_⟩⟩
      rw [eqvInts]
      have X1 := X.junk (o := .lst []) np
      have sG1 : Same G (upd H' p (.lst [])) := sameNew sG np
      cases ls with
      | nil => exact iteF (iteF ⟨rfl, ⟨c, l, z, ns, [], X1⟩, sG1⟩)
      | cons v rs =>
        refine iteT ⟨_, rfl, m, _, rfl, X1.left, l, _, _, _, rfl, rfl, SqL.of X1.2.2.1, atI_nat (j := 0) rfl, rfl, _, rfl, ?_⟩
        by_cases hv : V.int v = V.int 0
        · rw [decide_eq_true hv]
          refine iteT ⟨fun σ2 H2 => σ2 = [some (.ref m), some (.int many), none, none, none, none, none] ∧ Same G H2 ∧ ∃ (c l : Addr) (z : Int) (ns ls : List Int), MSx H2 G m n c l z ns ls ∧ ls.length = rs.length, fun σ2 H2 h => ⟨rs.length, by simp, h⟩, ?_⟩
          refine ⟨_, rfl, m, _, rfl, X1.left, _, rfl, l, _, rfl, SqL.of X1.2.2.1, fun p2 np2 => ?_⟩
          have X2 := X1.junk (o := .lst (cutV (((v :: rs) : List Int).map V.int) (some 1) none)) np2
          have e2 : cutV (((v :: rs) : List Int).map V.int) (some 1) none = rs.map V.int := cutTail _ _
          refine ⟨_, rfl, m, _, rfl, DPut.k (k := kLeft) X2.1 (by show 3 < sizeLine; decide), rfl, ?_, c, p2, z, ns, rs, X2.setLeft (by rw [upd_same, e2]) (ne_of_none X1.2.1 np2) (sG1.free np2) ?_, rfl⟩
          · exact samePut (sameNew sG1 np2) X.2.2.2.2.2.2.2.2.1
          · have q := X.2.2.2.2.2.2.2.1
            rw [List.length_cons] at q
            omega
        · rw [decide_eq_false hv]
          exact iteF ⟨rfl, ⟨c, l, z, ns, v :: rs, X1⟩, sG1⟩
    · rintro σ' H' ⟨rfl, ⟨c, l, z, ns, ls, X⟩, sG⟩
      have M0 : G m = none ∧ G c = none ∧ G l = none := X.2.2.2.2.2.2.2.2
      refine ⟨_, rfl, m, _, rfl, X.left, Nat.zero_le _, fun p np => ⟨_, _, .lst (SqL.of (X.junk np).2.2.1) (dpInts ls), .lst (SqL.of upd_same) .nil, shapeInts ls, shapeInts [], _, rfl, ?_⟩⟩
      rw [eqvInts]
      have X1 := X.junk (o := .lst []) np
      have sG1 : Same G (upd H' p (.lst [])) := sameNew sG np
      cases ls with
      | cons v rs =>
        refine iteT ⟨_, rfl, m, _, rfl, X1.left, l, _, _, _, rfl, rfl, SqL.of X1.2.2.1, atI_nat (j := 0) rfl, ?_⟩
        refine ⟨_, rfl, _, rfl, _, _, rfl, rfl, ⟨by omega, by omega⟩, _, rfl, m, _, rfl, X1.left, l, _, _, _, rfl, rfl, X1.2.2.1, ixN0 (by simp), ?_⟩
        refine ⟨_, rfl, .inl ⟨_, rfl, _, rfl, _, _, rfl, rfl, by omega, ?_⟩⟩
        have e := Int.fmod_eq_emod_of_nonneg v (b := many) (by omega)
        refine k _ _ (by rw [e]; exact Int.emod_nonneg _ (by omega)) (by rw [e]; exact Int.emod_lt_of_pos _ (by omega)) ⟨⟨c, l, z, ns, v.fdiv many :: rs, ?_⟩, samePut sG1 M0.2.2⟩
        obtain ⟨g1, g2, g3, g4, g5, g6, g7, g8, g9⟩ := X1
        have n1 : m ≠ l := ne_of g1 g3 (by intro q; cases q)
        exact ⟨by rw [upd_ne n1]; exact g1, by rw [upd_ne g4]; exact g2, upd_same, g4, g5, by omega, g7, g8, g9⟩
      | nil =>
        refine iteF ?_
        refine ⟨_, rfl, m, _, rfl, X1.at_, _, _, rfl, rfl, _, rfl, m, _, rfl, X1.cells, _, _, rfl, ?_⟩
        refine ⟨_, rfl, _, rfl, m, _, rfl, DPut.k (k := kAt) X1.1 (by show 3 < sizeLine; decide), ?_⟩
        have X2 := X1.setAt
        have hz : 0 ≤ z ∧ z ≤ (n : Int) := ⟨X1.2.2.2.2.1, X1.2.2.2.2.2.1⟩
        have zs : (-(2 ^ 64) : Int) < z + 1 ∧ z + 1 < 2 ^ 64 := by omega
        have sG2 : Same G (upd (upd H' p (.lst [])) m (.dK (putK (mKvs c l z) kAt (.int (z + 1))))) := samePut sG1 M0.1
        refine ⟨fun σ3 H3 => ∃ cell : Int, σ3 = [some (.ref m), some (.int many), none, some (.int (z + 1)), some (.ref c), some (.int cell), none] ∧ MS H3 G m (n + 1), ?_, ?_⟩
        · refine ⟨_, rfl, Nat.zero_le _, fun p2 np2 => ⟨_, _, .lst (SqL.of (X2.junk np2).2.1) (dpInts ns), .lst (SqL.of upd_same) .nil, shapeInts ns, shapeInts [], _, rfl, ?_⟩⟩
          rw [eqvInts]
          have X3 := X2.junk (o := .lst []) np2
          have sG3 := sameNew (o := .lst []) sG2 np2
          cases ns with
          | nil => exact iteF ⟨5, rfl, ⟨c, l, _, _, _, X3⟩, sG3⟩
          | cons y ys =>
            have hlen : (0 : Int) < (((y :: ys) : List Int).map V.int).length := by
              rw [List.length_map, List.length_cons]
              omega
            refine iteT ⟨_, rfl, _, rfl, _, rfl, _, _, rfl, rfl, .inl zs, _, rfl, _, _, rfl, rfl, ⟨by decide, by decide⟩, _, _, rfl, rfl, .inl ⟨_, rfl, _, rfl, c, _, rfl, .inl (SqL.of X3.2.1), _, _, rfl, rfl, by omega, ?_⟩⟩
            obtain ⟨j, hj, hj2⟩ : ∃ j : Nat, ((z + 1) * (z + 1) + (z + 1) / 2).fmod ((((y :: ys) : List Int).map V.int).length : Int) = (j : Int) ∧ j < (y :: ys).length := by
              have e := Int.fmod_eq_emod_of_nonneg ((z + 1) * (z + 1) + (z + 1) / 2) (b := ((((y :: ys) : List Int).map V.int).length : Int)) (by omega)
              have q1 := Int.emod_nonneg ((z + 1) * (z + 1) + (z + 1) / 2) (b := ((((y :: ys) : List Int).map V.int).length : Int)) (by omega)
              have q2 := Int.emod_lt_of_pos ((z + 1) * (z + 1) + (z + 1) / 2) (b := ((((y :: ys) : List Int).map V.int).length : Int)) hlen
              rw [List.length_map] at *
              exact ⟨_, by rw [e]; exact (Int.toNat_of_nonneg q1).symm, by omega⟩
            have ha : atI (((y :: ys) : List Int).map V.int) (((z + 1) * (z + 1) + (z + 1) / 2).fmod ((((y :: ys) : List Int).map V.int).length : Int)) = some (V.int ((y :: ys)[j]'hj2)) := by
              rw [hj]
              exact atI_nat (by rw [List.getElem?_map, List.getElem?_eq_getElem hj2]; rfl)
            refine ⟨c, _, _, _, rfl, rfl, SqL.of X3.2.1, ha, ?_⟩
            exact .inl ⟨_, rfl, _, rfl, ⟨c, l, _, _, _, X3⟩, sG3⟩
        · rintro σ3 H3 ⟨cell, rfl, M3⟩
          refine ⟨_, rfl, _, _, rfl, rfl, .inr ⟨by decide, by decide⟩, _, rfl, _, _, rfl, rfl, .inl zs, _, _, rfl, rfl, _, rfl, _, _, rfl, rfl, .inl ⟨by decide, by decide⟩, _, rfl, _, _, rfl, rfl, .inr zs, _, _, rfl, rfl, .inl ⟨_, rfl, _, _, rfl, rfl, (by show (0 : Int) < 2147483399; decide), ?_⟩⟩
          refine ⟨_, rfl, _, _, rfl, rfl, .inr ⟨by decide, by decide⟩, _, rfl, _, _, rfl, rfl, .inl ⟨by decide, by decide⟩, _, _, rfl, rfl, .inl ⟨_, rfl, _, _, rfl, rfl, (by show (0 : Int) < 2147483647; decide), _, _, rfl, rfl, ⟨by decide, by decide⟩, .inl ⟨_, rfl, _, rfl, _, _, rfl, rfl, by omega, ?_⟩⟩⟩
          have e := fun x : Int => Int.fmod_eq_emod_of_nonneg x (b := many) (by omega)
          exact k _ _ (by rw [e]; exact Int.emod_nonneg _ (by omega)) (by rw [e]; exact Int.emod_lt_of_pos _ (by omega)) M3
end
end Fx

set_option maxRecDepth 100000
set_option maxHeartbeats 4000000
namespace Fx
open PySem PySem.Spec PyProof.Rows L2
open PySem.W (Frag)
abbrev sNames : Stmt := top 46
/-! ### words as lists of signs -/
def S (l : List Nat) : Str := ⟨l.toArray⟩
theorem S_len (l : List Nat) : (S l).length = l.length := by simp [S, Str.length]
theorem S_list (l : List Nat) : (S l).cps.toList = l := by simp [S]
theorem S_app (a b : List Nat) : S a ++ S b = S (a ++ b) := by
  show Str.append (S a) (S b) = _
  simp [S, Str.append]
theorem S_one (c : Nat) : (⟨#[c]⟩ : Str) = S [c] := rfl
theorem S_inj {a b : List Nat} (h : S a = S b) : a = b := by
  have q := congrArg (fun z : Str => z.cps.toList) h
  simpa [S] using q
theorem S_of (x : Str) : x = S x.cps.toList := by
  cases x
  simp [S]
theorem S_cut (l : List Nat) (lo hi : Option Int) : cutS (S l) lo hi = S ((l.drop (HT.sIx l.length 0 lo)).take (HT.sIx l.length l.length hi - HT.sIx l.length 0 lo)) := by
  unfold cutS
  rw [S_list, S_len]
  rfl
theorem sIx_pos {n d k : Nat} (h : k ≤ n) : HT.sIx n d (some (k : Int)) = k := by
  rw [HT.sIx_nat]
  omega
theorem S_take (l : List Nat) {k : Nat} (h : k ≤ l.length) : cutS (S l) none (some (k : Int)) = S (l.take k) := by
  rw [S_cut, sIx_pos h]
  simp [HT.sIx]
theorem S_drop (l : List Nat) {k : Nat} (h : k ≤ l.length) : cutS (S l) (some (k : Int)) none = S (l.drop k) := by
  rw [S_cut, sIx_pos h]
  have e : HT.sIx l.length l.length none = l.length := by simp [HT.sIx]
  rw [e, List.take_of_length_le (by rw [List.length_drop]; omega)]
def Ltr (c : Nat) : Prop := 97 ≤ c ∧ c ≤ 122
structure IsW (x : Str) : Prop where
  pos : 1 ≤ x.length
  le : x.length ≤ 8
  ltr : ∀ c ∈ x.cps.toList, Ltr c
theorem isW_S {l : List Nat} (h1 : 1 ≤ l.length) (h2 : l.length ≤ 8) (h3 : ∀ c ∈ l, Ltr c) : IsW (S l) := ⟨by rw [S_len]; exact h1, by rw [S_len]; exact h2, by rw [S_list]; exact h3⟩
theorem letters_at {j : Nat} (h : j < 26) : atI ("abcdefghijklmnopqrstuvwxyz" : Str).cps.toList (j : Int) = some (97 + j) := by
  refine atI_nat ?_
  have all : ∀ j : Fin 26, ("abcdefghijklmnopqrstuvwxyz" : Str).cps.toList[j.val]? = some (97 + j.val) := by decide +kernel
  exact all ⟨j, h⟩
/-- one sign, eight times -/
theorem op_rep8 {X : Cx} : OpR X (binaryOp .Mult) (fun x y H Q => ∃ c, x = .str ⟨#[c]⟩ ∧ y = .int 8 ∧ Q (.str (S (List.replicate 8 c))) H) := by
  intro pins s σ H x y v u Q I rx ry h
  obtain ⟨c, rfl, rfl, q⟩ := h
  obtain ⟨t, rfl⟩ := rx
  obtain ⟨t', rfl⟩ := ry
  refine SB.mul ⟨by decide, fun _ _ => by show ¬ ((1 : Int) > (2 ^ 63 - 1) / 8); decide, fun _ _ => by show Builtin.Str.tooLong (1 * 8) = false; decide +kernel⟩ fun t2 k => ?_
  exact ⟨.str (S (List.replicate 8 c)), H, I.tok _, ⟨t2, rfl⟩, q⟩
theorem letters_atI {z : Int} (h0 : 0 ≤ z) (h1 : z < 26) : atI ("abcdefghijklmnopqrstuvwxyz" : Str).cps.toList z = some (97 + z.toNat) := by
  have q := letters_at (j := z.toNat) (by omega)
  rwa [Int.toNat_of_nonneg h0] at q
theorem nodupMap {n : Nat} {f : Nat → Str} (h : ∀ i j, i < n → j < n → f i = f j → i = j) : ((List.range n).map f).Nodup := by
  refine List.pairwise_map.mpr (List.Pairwise.imp_of_mem (fun {a b} ha hb ne e => ne (h a b (List.mem_range.mp ha) (List.mem_range.mp hb) e)) List.nodup_range)
theorem wordsA {l : List Nat} (hl : l.length = 8) (hL : ∀ c ∈ l, Ltr c) {many : Nat} (hm : many ≤ 8) {f : Nat → Str} (hf : ∀ k, k < many → f k = S (l.drop k)) : ((List.range many).map f).Nodup ∧ ∀ x ∈ (List.range many).map f, IsW x := by
  refine ⟨nodupMap fun i j hi hj e => ?_, fun x hx => ?_⟩
  · rw [hf i hi, hf j hj] at e
    have q := congrArg List.length (S_inj e)
    rw [List.length_drop, List.length_drop, hl] at q
    omega
  · obtain ⟨i, hi, rfl⟩ := List.mem_map.mp hx
    rw [hf i (List.mem_range.mp hi)]
    have hi' := List.mem_range.mp hi
    exact isW_S (by rw [List.length_drop, hl]; omega) (by rw [List.length_drop, hl]; omega) fun c hc => hL c (List.mem_of_mem_drop hc)
theorem wordsB {l : List Nat} (hl : l.length = 8) (hL : ∀ c ∈ l, Ltr c) {many : Nat} (hm : many ≤ 8) {f : Nat → Str} (hf : ∀ k, k < many → f k = S (l.take (k + 9 - many))) : ((List.range many).map f).Nodup ∧ ∀ x ∈ (List.range many).map f, IsW x := by
  refine ⟨nodupMap fun i j hi hj e => ?_, fun x hx => ?_⟩
  · rw [hf i hi, hf j hj] at e
    have q := congrArg List.length (S_inj e)
    rw [List.length_take, List.length_take, hl] at q
    omega
  · obtain ⟨i, hi, rfl⟩ := List.mem_map.mp hx
    rw [hf i (List.mem_range.mp hi)]
    have hi' := List.mem_range.mp hi
    exact isW_S (by rw [List.length_take, hl]; omega) (by rw [List.length_take, hl]; omega) fun c hc => hL c (List.mem_of_mem_take hc)
theorem wordsC {st : List Nat} (hl : st.length ≤ 7) (hL : ∀ c ∈ st, Ltr c) {many a j : Nat} {b : Int} (hb : b = 1 ∨ b = 3 ∨ b = 5 ∨ b = 7 ∨ b = 9 ∨ b = 11) (hm : many ≤ 8) {f : Nat → Str}
    (hf : ∀ k, k < many → f k = S (st.take a ++ [97 + (((j : Int) + b * (k : Int)) % 26).toNat] ++ st.drop a)) : ((List.range many).map f).Nodup ∧ ∀ x ∈ (List.range many).map f, IsW x := by
  have r26 : ∀ k : Nat, 0 ≤ ((j : Int) + b * (k : Int)) % 26 ∧ ((j : Int) + b * (k : Int)) % 26 < 26 := fun k => ⟨Int.emod_nonneg _ (by decide), Int.emod_lt_of_pos _ (by decide)⟩
  refine ⟨nodupMap fun x y hx hy e => ?_, fun x hx => ?_⟩
  · rw [hf x hx, hf y hy] at e
    have q := S_inj e
    rw [List.append_assoc, List.append_assoc] at q
    have q2 := List.append_cancel_left q
    have q3 : 97 + (((j : Int) + b * (x : Int)) % 26).toNat = 97 + (((j : Int) + b * (y : Int)) % 26).toNat := (List.cons.inj q2).1
    have h1 := r26 x
    have h2 := r26 y
    rcases hb with rfl | rfl | rfl | rfl | rfl | rfl <;> omega
  · obtain ⟨i, hi, rfl⟩ := List.mem_map.mp hx
    rw [hf i (List.mem_range.mp hi)]
    have h1 := r26 i
    have hlen : (st.take a ++ [97 + (((j : Int) + b * (i : Int)) % 26).toNat] ++ st.drop a).length = st.length + 1 := by
      rw [List.length_append, List.length_append, List.length_take, List.length_drop, List.length_singleton]
      omega
    refine isW_S (by rw [hlen]; omega) (by rw [hlen]; omega) fun c hc => ?_
    rcases List.mem_append.mp hc with h | h
    · rcases List.mem_append.mp h with h | h
      · exact hL c (List.mem_of_mem_take h)
      · obtain rfl := List.mem_singleton.mp h
        unfold Ltr
        omega
    · exact hL c (List.mem_of_mem_drop h)
theorem pick6 {r : Int} (h0 : 0 ≤ r) (h1 : r < 6) : ∃ b : Int, atI ([.int 1, .int 3, .int 5, .int 7, .int 9, .int 11] : List V) r = some (.int b) ∧ (b = 1 ∨ b = 3 ∨ b = 5 ∨ b = 7 ∨ b = 9 ∨ b = 11) := by
  obtain ⟨j, rfl⟩ : ∃ j : Nat, r = (j : Int) := ⟨r.toNat, (Int.toNat_of_nonneg h0).symm⟩
  have j6 : j = 0 ∨ j = 1 ∨ j = 2 ∨ j = 3 ∨ j = 4 ∨ j = 5 := by omega
  rcases j6 with rfl | rfl | rfl | rfl | rfl | rfl
  · exact ⟨1, atI_nat rfl, by simp⟩
  · exact ⟨3, atI_nat rfl, by simp⟩
  · exact ⟨5, atI_nat rfl, by simp⟩
  · exact ⟨7, atI_nat rfl, by simp⟩
  · exact ⟨9, atI_nat rfl, by simp⟩
  · exact ⟨11, atI_nat rfl, by simp⟩
theorem emptyS : ("" : Str) = S [] := by decide +kernel
theorem small8 {n : Nat} (h : n ≤ 64) : n ≤ sizeLine := Nat.le_trans h (by decide)
def spNames : Sp := fun vs H Q _ => ∃ (G : Hp) (m : Addr) (n : Nat) (many : Nat), vs = [.ref m, .int many] ∧ MS H G m n ∧ n < 2 ^ 58 ∧ 1 ≤ many ∧ many ≤ 8 ∧
  ∀ (ws : List Str) (p : Addr) (H' : Hp), ws.length = many → ws.Nodup → (∀ x ∈ ws, IsW x) → G p = none → MS H' (upd G p (.lst (ws.map V.str))) m (n + 12) → Q (.ref p) H'
theorem MS.keep {H H' G : Hp} {m : Addr} {n : Nat} (M : MS H G m n) (s : Same H H') : MS H' G m n := by
  obtain ⟨⟨c, l, z, ns, ls, h1, h2, h3, r⟩, sG⟩ := M
  exact ⟨⟨c, l, z, ns, ls, s _ _ h1, s _ _ h2, s _ _ h3, r⟩, sG.trans s⟩
structure BltN (mg : Str → Option Value) (fN : Addr) : Prop extends Blt mg where
  next : mg "_law_next" = some (.ref fN)
  range : mg "range" = none
section
variable {P : Program} {w : World} {K : Frag} {mg : Str → Option Value} {base : Heap}
abbrev nNames : List Str := ["m", "many", "letters", "stem", "k", "at", "first", "by", "word"]
theorem scNames : FnScope nNames ["m", "many"] (defScope sNames) := ⟨rfl, rfl, rfl, by decide +kernel, rfl, by decide +kernel, by decide +kernel⟩
theorem ok_names {f fN : Addr} {fd fdN : FuncData} (F : Fun K "_law_names" "_law_names" sNames f fd) (B : BltN mg fN) (FN : Fun K "_law_next" "_law_next" sNext fN fdN) (bN : Binds K fdN ["m", "many"] []) : FnOk P w K mg base CX0 2 f fd ["m", "many"] spNames := by
  have GN : FnOk P w K mg base CX0 1 fN fdN ["m", "many"] spNext := ok_next FN B.toBlt
  refine F.ok scNames (fun vs H Q E h => ?_) (fun cdv A outer s H vs Q E hr h => ?_)
  · obtain ⟨G, m, n, many, rfl, _⟩ := h
    rfl
  · obtain ⟨G, m, n, many, rfl, M, hn, h1, h2, k⟩ := h
    have nd := scNames.nd
    refine ⟨_, pss_cons (ps_asg (pe_tup (pa_cons pe_str (pa_cons pe_str pa_nil))) (pg_tup rfl (pgs_cons (pg_name (i := 2) nd rfl (Or.inr rfl)) (pgs_cons (pg_name (i := 3) nd rfl (Or.inr rfl)) pgs_nil))))
      (C8.pss_cut (ps_for PassesOwn.never rfl (pi_range1 rfl B.range (pa_cons (pe_call GN hr rfl B.next FN.kp bN .nil pass0 (pa_cons (pv 0) (pa_cons pe_int pa_nil))) pa_nil)) (pg_name (i := 4) nd rfl (Or.inl rfl))
        (pss_one (ps_set (i := 3) nd rfl (Or.inr rfl) (pe_op op_add_str (pv 3) (pe_ix ix_str (pv 2) (pe_call GN hr rfl B.next FN.kp bN .nil pass0 (pa_cons (pv 0) (pa_cons pe_int pa_nil))) (fun _ _ => rfl))))))
      (pss_cons (ps_asg (pe_tup (pa_cons (pe_call GN hr rfl B.next FN.kp bN .nil pass0 (pa_cons (pv 0) (pa_cons (pe_op op_add (pe_callB call_len_str (by rfl) B.len PySem.boot_len (pa_cons (pv 3) pa_nil)) pe_int) pa_nil)))
          (pa_cons (pe_call GN hr rfl B.next FN.kp bN .nil pass0 (pa_cons (pv 0) (pa_cons pe_int pa_nil)))
          (pa_cons (pe_ix ix_list (pe_lst (pa_cons pe_int (pa_cons pe_int (pa_cons pe_int (pa_cons pe_int (pa_cons pe_int (pa_cons pe_int pa_nil))))))) (pe_call GN hr rfl B.next FN.kp bN .nil pass0 (pa_cons (pv 0) (pa_cons pe_int pa_nil))) (fun _ _ => rfl)) pa_nil))))
          (pg_tup rfl (pgs_cons (pg_name (i := 5) nd rfl (Or.inr rfl)) (pgs_cons (pg_name (i := 6) nd rfl (Or.inr rfl)) (pgs_cons (pg_name (i := 7) nd rfl (Or.inr rfl)) pgs_nil)))))
      (pss_cons (ps_set (i := 8) nd rfl (Or.inr rfl) (pe_slice sl_str (pe_op op_add_str (pv 3) (pe_op op_rep8 (pe_ix ix_str (pv 2) (pv 6) (fun _ _ => rfl)) pe_int)) po_none (po_some pe_int)))
      (pss_cons (ps_if (PW.pt (pw_and (pt_cmpR op_gt (pv 7) pe_int (nomark _)) (pw_and1 (pt_cmpR op_lt (pv 1) pe_int (nomark _)))))
          (pss_one (ps_ret (pe_lc (own := [("k", 4)]) (g := gName 4) (tt := tYes) rfl nd (pi_range1 rfl B.range (pa_cons (pv 1) pa_nil)) (blkOk_by (own := [("k", 4)]) (N := nNames) (sc := defScope sNames) (by decide +kernel)) (fun _ _ _ _ _ => pg_name (i := 4) nd rfl (Or.inl rfl)) (fun _ _ _ _ _ => pts_nil)
            (fun _ _ _ _ _ => pe_ifExp (pt_cmpR op_gt (pv 7) pe_int (nomark _)) (pe_slice sl_str (pv 8) (po_some (pv 4)) po_none) (pe_slice sl_str (pv 8) po_none (po_some (pe_op op_sub (pe_op op_add (pv 4) pe_int) (pv 1)))))))) pss_nil)
      (pss_one (ps_ret (pe_lc (own := [("k", 4)]) (g := gName 4) (tt := tYes) rfl nd (pi_range1 rfl B.range (pa_cons (pv 1) pa_nil)) (blkOk_by (own := [("k", 4)]) (N := nNames) (sc := defScope sNames) (by decide +kernel)) (fun _ _ _ _ _ => pg_name (i := 4) nd rfl (Or.inl rfl)) (fun _ _ _ _ _ => pts_nil)
            (fun _ _ _ _ _ => pe_op op_add_str (pe_op op_add_str (pe_slice sl_str (pv 3) po_none (po_some (pv 5))) (pe_ix ix_str (pv 2) (pe_op op_mod (pe_callTy call_int1 (by rfl) B.int (by decide +kernel) (pa_cons (pe_op op_add (pv 6) (pe_op op_mul (pv 7) (pv 4))) pa_nil)) pe_int) (fun _ _ => rfl))) (pe_slice sl_str (pv 3) (po_some (pv 5)) po_none))))))))), ?_⟩
    refine ⟨by show 2 ≤ sizeLine; decide, fun t0 ht0 => ⟨t0, _, rfl, SqT.of upd_same, rfl, _, _, rfl, _, _, rfl, rfl, ?_⟩⟩
    have M0 := M.keep (sameNew (o := .tup [.str "abcdefghijklmnopqrstuvwxyz", .str ""]) (Same.refl _) ht0)
    refine ⟨fun σ' H' => ∃ (st : List Nat) (x4 : Option V), σ' = [some (.ref m), some (.int many), some (.str "abcdefghijklmnopqrstuvwxyz"), some (.str (S st)), x4, none, none, none, none] ∧ st.length ≤ 7 ∧ (∀ c ∈ st, Ltr c) ∧ MS H' G m (n + 8), ?_, ?_⟩
    · refine ⟨_, rfl, G, m, n, 8, rfl, M0, by omega, by decide, by decide, fun r H1 r0 r1 M1 => ⟨r, rfl, by omega, by omega, for_range (lo := 0) (n := r.toNat) (fun i σ' H' => ∃ (st : List Nat) (x4 : Option V), σ' = [some (.ref m), some (.int many), some (.str "abcdefghijklmnopqrstuvwxyz"), some (.str (S st)), x4, none, none, none, none] ∧ st.length ≤ i ∧ (∀ c ∈ st, Ltr c) ∧ MS H' G m (n + 1 + i)) ⟨[], _, by rw [← emptyS]; rfl, Nat.le_refl _, (fun c h => absurd h (by simp)), M1⟩ ?_ ?_⟩⟩
      · rintro i σ' H' hi ⟨st, x4, rfl, hst, hl, Mi⟩
        refine ⟨_, rfl, _, rfl, _, rfl, G, m, _, 26, rfl, Mi, by omega, by decide, by decide, fun q H2 q0 q1 M2 => ?_⟩
        obtain ⟨j, rfl⟩ : ∃ j : Nat, q = (j : Int) := ⟨q.toNat, (Int.toNat_of_nonneg q0).symm⟩
        refine ⟨_, _, _, rfl, rfl, by decide +kernel, letters_at (by omega), _, _, rfl, rfl, ?_, st ++ [97 + j], some (.int (0 + (i : Int))), ?_, ?_, ?_, M2⟩
        · rw [S_len]
          exact small8 (by show st.length + 1 ≤ 64; omega)
        · rw [← S_app]
          rfl
        · rw [List.length_append, List.length_singleton]
          omega
        · intro c hc
          rcases List.mem_append.mp hc with h | h
          · exact hl c h
          · obtain rfl := List.mem_singleton.mp h
            unfold Ltr
            omega
      · rintro σ' H' ⟨st, x4, rfl, hst, hl, Mi⟩
        exact ⟨st, x4, rfl, by omega, hl, Mi.mono (by omega)⟩
    · rintro σ' H' ⟨st, x4, rfl, hst, hl, M8⟩
      refine ⟨_, rfl, _, rfl, _, rfl, by rw [S_len]; exact small8 (by omega), _, _, rfl, rfl, G, m, n + 8, _, rfl, M8, by omega, by omega, by rw [S_len]; omega, fun at_ H1 a0 a1 M1 => ?_⟩
      refine ⟨_, rfl, G, m, _, 26, rfl, M1, by omega, by decide, by decide, fun fi H2 f0 f1 M2 => ?_⟩
      refine ⟨by show 6 ≤ sizeLine; decide, fun p hp => ?_⟩
      have g0 := M2.sub.free hp
      refine ⟨_, rfl, _, m, _, 6, rfl, M2.new hp, by omega, by decide, by decide, fun bi H3 b0 b1 M3 => ?_⟩
      obtain ⟨b, hb, hb6⟩ := pick6 b0 b1
      refine ⟨p, _, _, _, rfl, rfl, SqL.of (M3.sub p _ upd_same), hb, by show 3 ≤ sizeLine; decide, fun t ht => ⟨t, _, rfl, SqT.of upd_same, rfl, _, _, rfl, _, _, rfl, _, _, rfl, rfl, ?_⟩⟩
      have M4 := (M3.less (sameNew (Same.refl G) g0)).keep (sameNew (o := .tup [.int at_, .int fi, .int b]) (Same.refl _) ht)
      rw [S_len] at a1
      obtain ⟨ai, rfl⟩ : ∃ j : Nat, at_ = (j : Int) := ⟨at_.toNat, (Int.toNat_of_nonneg a0).symm⟩
      obtain ⟨j, rfl⟩ : ∃ j : Nat, fi = (j : Int) := ⟨fi.toNat, (Int.toNat_of_nonneg f0).symm⟩
      refine ⟨_, rfl, _, rfl, _, rfl, _, _, _, rfl, rfl, by decide +kernel, letters_at (by omega), _, rfl, rfl, _, _, rfl, rfl, ?_, _, rfl, _, rfl, ?_, ?_⟩
      · rw [S_len, S_len, List.length_replicate]
        exact small8 (by omega)
      · rw [S_app, S_len, List.length_append, List.length_replicate]
        exact small8 (by omega)
      have wl8 : ((st ++ List.replicate 8 (97 + j)).take 8).length = 8 := by
        rw [List.length_take, List.length_append, List.length_replicate]
        omega
      have wlL : ∀ c ∈ (st ++ List.replicate 8 (97 + j)).take 8, Ltr c := fun c hc => by
        rcases List.mem_append.mp (List.mem_of_mem_take hc) with h | h
        · exact hl c h
        · obtain ⟨_, rfl⟩ := List.mem_replicate.mp h
          unfold Ltr
          omega
      have hw : cutS (S st ++ S (List.replicate 8 (97 + j))) none (some 8) = S ((st ++ List.replicate 8 (97 + j)).take 8) := by
        rw [S_app]
        exact S_take (k := 8) _ (by rw [List.length_append, List.length_replicate]; omega)
      have hwl : (cutS (S st ++ S (List.replicate 8 (97 + j))) none (some 8)).length ≤ sizeLine := by
        rw [hw, S_len, wl8]
        exact small8 (by decide)
      refine ⟨_, rfl, _, _, rfl, rfl, _, rfl, ?_⟩
      by_cases c5 : (5 : Int) < b
      · rw [decide_eq_true c5]
        refine iteT ⟨_, rfl, _, _, rfl, rfl, _, rfl, ?_⟩
        rw [decide_eq_true (show (many : Int) < 9 by omega)]
        refine iteT ⟨_, rfl, _, rfl, by omega, by omega, fun D hD => lc_range (lo := 0) (n := _) (fun i H' => H' = upd _ D (.lst (((List.range i).map fun q : Nat => if 7 < b then cutS (cutS (S st ++ S (List.replicate 8 (97 + j))) none (some 8)) (some (0 + (q : Int))) none else cutS (cutS (S st ++ S (List.replicate 8 (97 + j))) none (some 8)) none (some (0 + (q : Int) + 9 - (many : Int)))).map V.str))) rfl ?_ ?_⟩
        · rintro i H' hi rfl
          refine ⟨rfl, ?_⟩
          unfold tYes
          refine iteT ?_
          refine ⟨_, rfl, _, _, rfl, rfl, _, rfl, ?_⟩
          by_cases c7 : (7 : Int) < b
          · rw [decide_eq_true c7]
            refine iteT ⟨_, rfl, _, rfl, _, rfl, _, rfl, hwl, _, upd_same, ?_, ?_⟩
            · rw [List.length_map, List.length_map, List.length_range]
              exact small1000 (by omega)
            · rw [upd_upd, List.range_succ, List.map_append, List.map_append]
              simp only [List.map_cons, List.map_nil, if_pos c7]
          · rw [decide_eq_false c7]
            refine iteF ⟨_, rfl, _, rfl, _, _, rfl, rfl, _, rfl, _, _, rfl, rfl, _, rfl, _, rfl, hwl, _, upd_same, ?_, ?_⟩
            · rw [List.length_map, List.length_map, List.length_range]
              exact small1000 (by omega)
            · rw [upd_upd, List.range_succ, List.map_append, List.map_append]
              simp only [List.map_cons, List.map_nil, if_neg c7]
        · rintro H' rfl
          rw [Int.toNat_natCast]
          have fin : (((List.range many).map fun q : Nat => if 7 < b then cutS (cutS (S st ++ S (List.replicate 8 (97 + j))) none (some 8)) (some (0 + (q : Int))) none else cutS (cutS (S st ++ S (List.replicate 8 (97 + j))) none (some 8)) none (some (0 + (q : Int) + 9 - (many : Int))))).Nodup ∧
              ∀ x ∈ ((List.range many).map fun q : Nat => if 7 < b then cutS (cutS (S st ++ S (List.replicate 8 (97 + j))) none (some 8)) (some (0 + (q : Int))) none else cutS (cutS (S st ++ S (List.replicate 8 (97 + j))) none (some 8)) none (some (0 + (q : Int) + 9 - (many : Int)))), IsW x := by
            by_cases c7 : (7 : Int) < b
            · refine wordsA wl8 wlL h2 fun q hq => ?_
              rw [if_pos c7, hw, Int.zero_add]
              exact S_drop _ (by rw [wl8]; omega)
            · refine wordsB wl8 wlL h2 fun q hq => ?_
              rw [if_neg c7, hw, show (0 : Int) + (q : Int) + 9 - (many : Int) = ((q + 9 - many : Nat) : Int) by omega]
              exact S_take _ (by rw [wl8]; omega)
          exact k _ D _ (by rw [List.length_map, List.length_range]) fin.1 fin.2 (M4.sub.free hD) ((M4.new hD).mono (by omega))
      · rw [decide_eq_false c5]
        refine iteF (iteF ?_)
        have sl : (S st).length ≤ sizeLine := by
          rw [S_len]
          exact small8 (by omega)
        have cl : ∀ lo hi, (cutS (S st) lo hi).length ≤ 7 := fun lo hi => Nat.le_trans (cutS_length _ _ _) (by rw [S_len]; exact hst)
        have al : ∀ (x y : Str), (x ++ y).length = x.length + y.length := fun x y => by
          rw [S_of x, S_of y, S_app, S_len, S_len, S_len, List.length_append]
        refine ⟨_, rfl, _, rfl, by omega, by omega, fun D hD => lc_range (lo := 0) (n := _) (fun i H' => H' = upd _ D (.lst (((List.range i).map fun q : Nat => cutS (S st) none (some (ai : Int)) ++ (⟨#[97 + (((j : Int) + b * (0 + (q : Int))) % 26).toNat]⟩ : Str) ++ cutS (S st) (some (ai : Int)) none).map V.str))) rfl ?_ ?_⟩
        · rintro i H' hi rfl
          refine ⟨rfl, ?_⟩
          unfold tYes
          refine iteT ?_
          have r0 : 0 ≤ ((j : Int) + b * (0 + (i : Int))) % 26 := Int.emod_nonneg _ (by decide)
          have r1 : ((j : Int) + b * (0 + (i : Int))) % 26 < 26 := Int.emod_lt_of_pos _ (by decide)
          refine ⟨_, rfl, _, rfl, _, rfl, _, rfl, sl, _, rfl, _, rfl, _, rfl, _, rfl, _, _, rfl, rfl, .inl ⟨by omega, by omega⟩, _, _, rfl, rfl, .inl ⟨_, rfl, _, _, rfl, rfl, (by show (0 : Int) < 26; decide), _, _, _, rfl, rfl, by decide +kernel, letters_atI r0 r1, ?_⟩⟩
          refine ⟨_, _, rfl, rfl, ?_, _, rfl, _, rfl, _, rfl, _, rfl, sl, _, _, rfl, rfl, ?_, _, upd_same, ?_, ?_⟩
          · have q := cl none (some (ai : Int))
            exact small8 (by show _ + 1 ≤ 64; omega)
          · rw [al]
            have q := cl none (some (ai : Int))
            have q2 := cl (some (ai : Int)) none
            exact small8 (by show _ + 1 + _ ≤ 64; omega)
          · rw [List.length_map, List.length_map, List.length_range]
            exact small1000 (by omega)
          · rw [upd_upd, List.range_succ, List.map_append, List.map_append]
            rfl
        · rintro H' rfl
          rw [Int.toNat_natCast]
          have fin := wordsC (many := many) (a := ai) (j := j) hst hl hb6 h2 (f := fun q : Nat => cutS (S st) none (some (ai : Int)) ++ (⟨#[97 + (((j : Int) + b * (0 + (q : Int))) % 26).toNat]⟩ : Str) ++ cutS (S st) (some (ai : Int)) none) fun q hq => by
            show cutS (S st) none (some (ai : Int)) ++ (⟨#[97 + (((j : Int) + b * (0 + (q : Int))) % 26).toNat]⟩ : Str) ++ cutS (S st) (some (ai : Int)) none = _
            rw [Int.zero_add, S_one, S_take _ (by omega), S_drop _ (by omega), S_app, S_app]
          exact k _ D _ (by rw [List.length_map, List.length_range]) fin.1 fin.2 (M4.sub.free hD) ((M4.new hD).mono (by omega))
end
end Fx

set_option maxRecDepth 100000
set_option maxHeartbeats 4000000
namespace Pl
open PySem PySem.Spec PyProof.Rows L2 Fx LamX
open PySem.W (Frag)
/-! ### three words for three atoms -/
def mcW (K : Frag) (C : Addr) (mg : Str → Option Value) (T : List (Addr × Str)) (ws : List Str) : MC :=
  { K := K, C := C, na := ws.length, al := fun i => ws.getD i "", xa := adrOf mg, sf := fun _ => 0, fl := flOf, T := T }
structure Good (ws : List Str) : Prop where
  wd : ∀ n, n < ws.length → wordQ (ws.getD n "") = true
  asc : ∀ i j, i < j → j < ws.length → (ws.getD i "").cps.toList < (ws.getD j "").cps.toList
theorem wordQ_of {x : Str} (h : IsW x) : wordQ x = true := by
  obtain ⟨h1, h2, h3⟩ := h
  unfold wordQ
  have e : x.length = x.cps.size := rfl
  rw [e] at h1 h2
  rw [decide_eq_true h1, decide_eq_true h2, Bool.true_and, Bool.true_and, Array.all_eq_true']
  intro c hc
  obtain ⟨g1, g2⟩ := h3 c (by simpa using hc)
  rw [decide_eq_true g1, decide_eq_true g2]
  rfl
theorem strOk_of {x : Str} (h : IsW x) : PyData.strOk x = true := by
  unfold PyData.strOk
  rw [Array.all_eq_true']
  intro c hc
  obtain ⟨g1, g2⟩ := h.ltr c (by simpa using hc)
  exact decide_eq_true (Nat.lt_of_le_of_lt g2 (by decide))
theorem good3 {x y z : Str} (hx : IsW x) (hy : IsW y) (hz : IsW z) (h1 : x.cps.toList < y.cps.toList) (h2 : y.cps.toList < z.cps.toList) : Good [x, y, z] := by
  refine ⟨fun n hn => ?_, fun i j h hj => ?_⟩
  · have : n = 0 ∨ n = 1 ∨ n = 2 := by
      have e : ([x, y, z] : List Str).length = 3 := rfl
      omega
    rcases this with rfl | rfl | rfl
    · exact wordQ_of hx
    · exact wordQ_of hy
    · exact wordQ_of hz
  · have e : ([x, y, z] : List Str).length = 3 := rfl
    have : (i = 0 ∧ j = 1) ∨ (i = 0 ∧ j = 2) ∨ (i = 1 ∧ j = 2) := by omega
    rcases this with ⟨rfl, rfl⟩ | ⟨rfl, rfl⟩ | ⟨rfl, rfl⟩
    · exact h1
    · exact List.lt_trans h1 h2
    · exact h2
theorem none_same {H : Hp} : Same (fun _ => none) H := fun b o e => nomatch (show (none : Option HO) = some _ from e)
theorem tabS_up {H G : Hp} {P : Addr} {q : Str} (t : TabS H P q) (k : ∀ b o, H b = some o → (∀ kvs, o ≠ .dK kvs) → (∀ ys, o ≠ .lst ys) → G b = some o) : TabS G P q := by
  obtain ⟨ps, h1, h2, h3⟩ := t
  refine ⟨ps, k _ _ h1 (fun _ z => by cases z) (fun _ z => by cases z), h2, fun pos cv hc => ?_⟩
  obtain ⟨c, e1, e2⟩ := h3 pos cv hc
  exact ⟨c, e1, k _ _ e2 (fun _ z => by cases z) (fun _ z => by cases z)⟩
theorem tabs0 {H : Hp} {T : List (Addr × Str)} (h : ∀ p ∈ T, H p.1 = some (.tbl #[])) : Tabs T H := fun p hp => ⟨#[], h p hp, by simp [TriplesOk], fun pos cv z => by simp [codeAmong] at z⟩
/-- the state of the draws lives on -/
theorem msextN {H H' : Hp} {m : Addr} {n : Nat} (M : MS H (fun _ => none) m n) (s : ExtN H H') : MS H' (fun _ => none) m n := by
  obtain ⟨⟨c, l, z, ns, ls, h1, h2, h3, r⟩, _⟩ := M
  exact ⟨⟨c, l, z, ns, ls, s _ _ h1 (fun _ z => by cases z), s _ _ h2 (fun _ z => by cases z), s _ _ h3 (fun _ z => by cases z), r⟩, none_same⟩
/-- all but the state is told -/
theorem mswhole {H G : Hp} {m : Addr} {n : Nat} (M : MS H G m n) : ∃ G' : Hp, MS H G' m n ∧ ∀ b o, H b = some o → (∀ kvs, o ≠ .dK kvs) → (∀ ys, o ≠ .lst ys) → G' b = some o := by
  obtain ⟨⟨c, l, z, ns, ls, h1, h2, h3, ne, r1, r2, r3, r4, r5, r6, r7⟩, sub⟩ := M
  refine ⟨fun b => if b = m ∨ b = c ∨ b = l then none else H b, ⟨⟨c, l, z, ns, ls, h1, h2, h3, ne, r1, r2, r3, r4, if_pos (.inl rfl), if_pos (.inr (.inl rfl)), if_pos (.inr (.inr rfl))⟩, fun b o e => ?_⟩, fun b o e no1 no2 => ?_⟩
  · have e : (if b = m ∨ b = c ∨ b = l then none else H b) = some o := e
    by_cases hb : b = m ∨ b = c ∨ b = l
    · rw [if_pos hb] at e
      cases e
    · rw [if_neg hb] at e
      exact e
  · have hb : ¬ (b = m ∨ b = c ∨ b = l) := by
      rintro (rfl | rfl | rfl)
      · rw [h1] at e
        cases e
        exact no1 _ rfl
      · rw [h2] at e
        cases e
        exact no2 _ rfl
      · rw [h3] at e
        cases e
        exact no2 _ rfl
    show (if b = m ∨ b = c ∨ b = l then none else H b) = some o
    rw [if_neg hb]
    exact e
/-- a look of the law that comes out true for data of a kind, the words being three in their order -/
def spDs (K : Frag) (C : Addr) (mg : Str → Option Value) (T : List (Addr × Str)) (Pd : List D → Prop) : Sp := fun vs H Q _ => ∃ ws ds, Good ws ∧ Pd ds ∧ RA (mcW K C mg T ws) (fun _ => none) vs ds ∧ Tabs T H ∧ ∀ H', ExtN H H' → Tabs T H' → Q (.bl true) H'
section
variable {P : Program} {w : World} {K : Frag} {mg : Str → Option Value} {base : Heap} {C : Addr} {T : List (Addr × Str)} {φ : List D → Oc D} {Pd : List D → Prop} {n : Nat}
theorem spDs_sp (h : ∀ ds, Pd ds → ds.length = n ∧ φ ds = .ok (.bl true)) {vs : List V} {H : Hp} {Q : VK} {E : XK} (p : spDs K C mg T Pd vs H Q E) : ∃ ws, Good ws ∧ spD (mcW K C mg T ws) n φ vs H Q E := by
  obtain ⟨ws, ds, g, pd, r, tb, k⟩ := p
  obtain ⟨h1, h2⟩ := h ds pd
  refine ⟨ws, g, fun _ => none, ds, ⟨none_same, (fun a ps e => by exact nomatch (show (none : Option HO) = some _ from e)), tb⟩, r, ?_⟩
  show Post _ _ _ _ _ _ (many n φ ds)
  rw [show many n φ ds = φ ds from if_pos h1, h2]
  intro v F' H' x r
  cases r
  exact k H' x.h x.s.tb
theorem spDs_len (h : ∀ ds, Pd ds → ds.length = n ∧ φ ds = .ok (.bl true)) {vs : List V} {H : Hp} {Q : VK} {E : XK} (p : spDs K C mg T Pd vs H Q E) : vs.length = n := by
  obtain ⟨ws, ds, g, pd, r, tb, k⟩ := p
  rw [r.len]
  exact (h ds pd).1
theorem ds_ok {k : Nat} {f : Addr} {fd : FuncData} {ps : List Str} (hl : ps.length = n) (h : ∀ ds, Pd ds → ds.length = n ∧ φ ds = .ok (.bl true)) (F : ∀ ws, Good ws → FnOk P w K mg base (L2.CX P w) k f fd ps (spD (mcW K C mg T ws) n φ)) : FnOk P w K mg base (L2.CX P w) k f fd ps (spDs K C mg T Pd) := by
  refine ⟨fun vs H Q E p => (spDs_len h p).trans hl.symm, fun A outer s H args us vs Q E hr e0 hb r p => ?_⟩
  obtain ⟨ws, g, q⟩ := spDs_sp h p
  exact (F ws g).run A outer s H args us vs Q E hr e0 hb r q
theorem ds_okG {k : Nat} {f : Addr} {fd : FuncData} {ps : List Str} (hl : ps.length = n) (h : ∀ ds, Pd ds → ds.length = n ∧ φ ds = .ok (.bl true)) (F : ∀ ws, Good ws → FnG P w K mg base (L2.CX P w) k f fd ps (spD (mcW K C mg T ws) n φ)) : FnG P w K mg base (L2.CX P w) k f fd ps (spDs K C mg T Pd) := by
  refine ⟨fun vs H Q E p => (spDs_len h p).trans hl.symm, fun A outer s H args us vs Q E hg hr e0 hb r p => ?_⟩
  obtain ⟨ws, g, q⟩ := spDs_sp h p
  exact (F ws g).run A outer s H args us vs Q E hg hr e0 hb r q
end
section
variable {P : Program} {w : World} {K : Frag} {mg : Str → Option Value} {base : Heap}
/-- the rule for a def of the second kind, no exception leaves it -/
theorem funOkG {x qual : Str} {st : Stmt} {f : Addr} {fd : FuncData} {N ps : List Str} {k : Nat} {sp : Sp} (F : Fun K x qual st f fd) (S : FnScope N ps (defScope st)) (len : ∀ vs H Q E, sp vs H Q E → vs.length = ps.length)
    (hbody : ∀ (cdv : Value) (A : Around) (outer : List Env) (s : Shared) (H : Hp) (vs : List V) (Q : VK) (E : XK), (A.deeper (envOfC qual (defScope st) s.heap.objs.size f cdv)).guards = some [] → Room k (A.deeper (envOfC qual (defScope st) s.heap.objs.size f cdv)) → sp vs H Q E →
      ∃ t, PSs (cxOf CX0 P w K mg base N qual (defScope st) f cdv A outer s H E).nox (defBody st) t ∧ t { nx := fun _ H' => Q .non H', rt := Q } (start N vs) H) : FnG P w K mg base CX0 (k + 1) f fd ps sp := by
  obtain ⟨oc, od, kV, doc, pm, an, cdv, ct, osl, rfl, lk, hcd⟩ := F.ex
  refine fnG_of lk hcd S len fun A outer s H vs Q E hg hr hsp => ?_
  obtain ⟨t, h, q⟩ := hbody cdv A outer s H vs Q E hg hr hsp
  exact ⟨t, h.nox, q⟩
end
end Pl

set_option maxRecDepth 100000
set_option maxHeartbeats 4000000
namespace Pl
open PySem PySem.Spec PyProof.Rows L2 Fx
open PySem.W (Frag)
def isT : Oc D → Bool
  | .ok (.bl b) => b
  | _ => false
theorem isT_of {o : Oc D} (h : isT o = true) : o = .ok (.bl true) := by
  unfold isT at h
  split at h
  · rw [h]
  · cases h
abbrev abc : List D := [.str (.atm 0), .str (.atm 1), .str (.atm 2)]
end Pl

set_option maxRecDepth 100000
set_option maxHeartbeats 4000000
namespace Pl
open PySem PySem.Spec PyProof.Rows L2 Fx LamX
open PySem.W (Frag)
/-! ### lambda px: .. (one parameter, passed), run by a builtin -/
/-- its names: the parameter, else names of the maker -/
structure LamP (X : Cx) (px : Str) (sc : Scope) : Prop where
  kind : sc.kind = .function
  co : sc.isCoroutine = false
  gen : sc.isGenerator = false
  own : ∀ y ∈ sc.names, y.2 ≠ .cell ∧ (y.2 = .local → y.1 = px)
  par : sc.names.lookup px = some .local
  out : px ∉ X.N
  free : ∀ y ∈ sc.names, y.2 = .free → X.env.scope.names.lookup y.1 = some .cell ∨ X.env.scope.names.lookup y.1 = some .free
theorem LamP.has {X : Cx} {px : Str} {sc : Scope} (L : LamP X px sc) (ok : X.Ok) : ∀ y ∈ sc.names, y.2 = .free → ∃ c, X.env.cells.lookup y.1 = some c := fun y hy e => (L.free y hy e).elim (fun k => ok.has _ (.inl k)) fun k => ok.has _ (.inr k)
def lamPB (N : List Str) (sc scope : Scope) (px : Str) : Bool :=
  decide (scope.kind = .function) && !scope.isCoroutine && !scope.isGenerator && decide (scope.names.lookup px = some .local) && decide (px ∉ N) &&
    scope.names.all fun y => !decide (y.2 = .cell) && (!decide (y.2 = .local) || decide (y.1 = px)) && (!decide (y.2 = .free) || decide (sc.names.lookup y.1 = some .cell) || decide (sc.names.lookup y.1 = some .free))
theorem lamP_by {X : Cx} {px : Str} {scope : Scope} (h : lamPB X.N X.env.scope scope px = true) : LamP X px scope := by
  unfold lamPB at h
  simp only [Bool.and_eq_true, Bool.or_eq_true, Bool.not_eq_true', decide_eq_true_eq, decide_eq_false_iff_not, List.all_eq_true] at h
  obtain ⟨⟨⟨⟨⟨h1, h2⟩, h3⟩, h4⟩, h5⟩, h6⟩ := h
  refine ⟨h1, h2, h3, fun y hy => ⟨(h6 y hy).1.1, fun e => (h6 y hy).1.2.resolve_left fun n => n e⟩, h4, h5, fun y hy e => ?_⟩
  rcases (h6 y hy).2 with (z | z) | z
  · exact absurd e z
  · exact .inl z
  · exact .inr z
/-- the context of its body -/
def lamCxP (X : Cx) (px : Str) (A : Around) (outer : List Env) (s : Shared) (H : Hp) (E : XK) (sc : Scope) (f c' : Addr) : Cx := { lamCx X A outer s H E sc f c' with N := px :: X.N }
section
variable {X : Cx} {pins : List (Addr × Obj)} {σ : L2.St} {H HZ : Hp} {s s1 : Shared}
theorem lamP_start {A : Around} {outer : List Env} {E : XK} {px : Str} {sc : Scope} {f c' : Addr} {g1 : Heap} {tk : Nat} {v : V} {u0 : Value} (I : Inv X pins σ H s) (L : LamP X px sc) (rv : RelV v u0) (e0 : Env0 X.prog X.w X.K X.mg X.base A outer s1 HZ) (hd : A.handled = none)
    (un : Un (frs X.stack) [] H HZ s.heap s1.heap) (ns : g1.Ns s1.heap.objs.size fun y => ([(px, u0)] : List (Str × Value)).reverse.lookup y) (kp : ∀ b o, s1.heap.get? b = some o → g1.get? b = some o) : Inv (lamCxP X px A outer s1 HZ E sc f c') [] (some v :: σ) HZ { s1 with heap := g1, toks := tk } := by
  have fre := L.has I.ok
  have inC : ∀ {y c}, (cloFrom X.env.cells sc.names []).lookup y = some c → X.env.cells.lookup y = some c := fun {y c} e => by
    rcases cloFrom_mem (PySem.mem_of_lookup e) with q | ⟨q1, q2⟩
    · cases q
    · obtain ⟨d, hd2⟩ := fre _ q1 rfl
      have hd2 : X.env.cells.lookup y = some d := hd2
      have e2 : c = d := by
        rw [q2, hd2] <;> rfl
      rw [e2]
      exact hd2
  have at_ : ∀ {y}, sc.names.lookup y = some .free → ∃ c, (cloFrom X.env.cells sc.names []).lookup y = some c := fun {y} q => mem_lookup (cloFrom_has (cells := X.env.cells) (acc := []) (PySem.mem_of_lookup q))
  have keepC : ∀ {c : Addr} {v : Option Value}, H c = none → s.heap.IsCell c v → g1.IsCell c v := fun {c v} n ⟨o, q1, q2⟩ => by
    obtain ⟨sl, q3⟩ := un.any q1 n (by simp)
    exact ⟨_, kp _ _ q3, q2⟩
  have noX : ∀ b : Addr, b ∉ (lamCxP X px A outer s1 HZ E sc f c').ex := fun b z => absurd (show b ∈ ([] : List Addr) from z) (by simp)
  have hv : ∀ y, (sc.names.lookup y = some .cell ∨ sc.names.lookup y = some .free) → ∃ c, (cloFrom X.env.cells sc.names []).lookup y = some c := fun y hy => by
    rcases hy with hy | hy
    · exact absurd rfl (L.own _ (PySem.mem_of_lookup hy)).1
    · exact at_ hy
  have ok : (lamCxP X px A outer s1 HZ E sc f c').Ok := ⟨e0.mod, L.kind, rfl, rfl, Nat.le_refl _, fun y z c q1 q2 => I.ok.inj y z c (inC q1) (inC q2), hv, fun y c z _ => absurd (show false = true from z) (by decide), fun _ => hd, Around.frames_deeper e0.frames, .inr ⟨rfl, rfl⟩, fun b z => absurd z (noX b), e0.bs, e0.bsz, fun b _ _ => noX b, fun b z => absurd z (noX b), e0.funs, e0.frf⟩
  refine ⟨ok, rfl, e0.bare, Un.kept kp, ⟨_, ns, fun i y v' e1 e2 e3 => ?_⟩, fun y c e => ?_, e0.hok.fresh (Nat.le_refl _), fun y c e => ?_, fun q hq => absurd (show q ∈ ([] : List (Addr × Obj)) ++ [] from hq) (by simp), e0.hok.kept kp, ?_⟩
  · have e3 : Vis sc y := e3
    have e1 : (px :: X.N)[i]? = some y := e1
    cases i with
    | zero =>
      have ey : px = y := Option.some.inj (by simpa using e1)
      subst ey
      have ev : v = v' := Option.some.inj (Option.some.inj (by simpa using e2))
      subst ev
      refine ⟨u0, rv, .inl ⟨L.par, ?_⟩⟩
      show ([(px, u0)] : List (Str × Value)).lookup px = some u0
      simp [List.lookup]
    | succ i =>
      have e1 : X.N[i]? = some y := by simpa using e1
      have e2 : σ[i]? = some (some v') := by simpa using e2
      rcases e3 with q | q | q
      · have z := (L.own _ (PySem.mem_of_lookup q)).2 rfl
        have z : y = px := z
        have hm : y ∈ X.N := List.mem_of_getElem? e1
        rw [z] at hm
        exact absurd hm L.out
      · exact absurd rfl (L.own _ (PySem.mem_of_lookup q)).1
      · have vis : Vis X.env.scope y := (L.free _ (PySem.mem_of_lookup q) rfl).elim (fun k => .inr (.inl k)) (fun k => .inr (.inr k))
        obtain ⟨m, _, lk⟩ := I.loc
        obtain ⟨u, ru, q2⟩ := lk i y v' e1 e2 vis
        obtain ⟨d, hd2⟩ := at_ q
        have hd3 := inC hd2
        refine ⟨u, ru, .inr ⟨.inr q, d, hd2, ?_⟩⟩
        rcases q2 with ⟨q3, _⟩ | ⟨_, d2, q4, q5⟩
        · have q3 : X.env.scope.names.lookup y = some .local := q3
          rcases L.free _ (PySem.mem_of_lookup q) rfl with q6 | q6
          · rw [show X.env.scope.names.lookup y = _ from q6] at q3
            cases q3
          · rw [show X.env.scope.names.lookup y = _ from q6] at q3
            cases q3
        · rw [hd3] at q4
          cases q4
          exact keepC (I.freeC y _ hd3) q5
  · obtain ⟨u, hu⟩ := I.cell y c (inC e)
    exact ⟨u, keepC (I.freeC y c (inC e)) hu⟩
  · obtain ⟨v, o, q1, q2⟩ := I.cell y c (inC e)
    exact un.free c o q1 (I.freeC y c (inC e)) (by simp)
  · show (some v :: σ).length = (px :: X.N).length
    rw [List.length_cons, List.length_cons, I.len]
/-- how it binds -/
def BindP (px : Str) (params : Arguments) (body : Expr) (sc : Scope) : Prop := ∀ (q : Str) (cl : List (Str × Addr)) (u0 pm cv ctv : Value), bindArgs (PySem.W.kla_fn "<lambda>" q params body sc cl pm cv ctv) ⟨[u0], []⟩ = pure [(px, u0)]
abbrev lamPObj (X : Cx) (params : Arguments) (body : Expr) (sc : Scope) (pm : Value) (c' : Addr) (ctv : Value) : Obj := PySem.W.kla_obj "<lambda>" (X.env.qual ++ "<lambda>") params body sc (cloFrom X.env.cells sc.names []) pm c' ctv
/-- f(v), f the lambda: s the state in which it was made, s1 the one now -/
theorem lamP_run {f c' : Addr} {pm ctv u0 : Value} {px : Str} {params : Arguments} {body : Expr} {sc : Scope} {k : Nat} {E : XK} {tb : TE} {v : V} {A : Around} {Q : VK}
    (I : Inv X pins σ H s) (L : LamP X px sc) (rv : RelV v u0) (of : s.heap.get? f = some (lamPObj X params body sc pm c' ctv)) (hc : H c' = some (CodeO c' (X.env.qual ++ "<lambda>"))) (bd : BindP px params body sc) (hr : Room (k + 1) A) (e0 : Env0 X.prog X.w X.K X.mg X.base A X.stack s H)
    (bodyR : PE (lamCxP X px A X.stack s H E sc f c') body tb) (ht : tb (some v :: σ) H Q) :
    codeAny (model X.prog X.w) A (.call (.ref f) ⟨[u0], []⟩) (CR (L2.CX X.prog X.w) X.stack X.prog X.w H s Q E) s := by
  obtain ⟨⟨oc, vs, tq, q1, q2, q3⟩, _, _⟩ := I.hok c' _ hc
  refine PySem.W.kla_callFunE hr.depth of rfl L.co L.gen rfl ⟨c', oc, vs, tq, rfl, q1, q2, q3⟩ ?_
  rw [bd]
  refine wpAny_pure (wpAny_newFunctionEnv (fun y hy => (L.own y hy).1) (fun y hy => ?_) (fun g1 hns hsb => ⟨I.nolimit.fresh _ hsb, ?_⟩) L.kind)
  · rw [List.mem_singleton.mp hy]
    exact L.par
  · show codeAny _ _ (.expr body (lamEnv X sc s.heap.objs.size f c')) _ _
    have kp : ∀ b o, s.heap.get? b = some o → g1.get? b = some o := fun b o e => hsb.extBut b o (Nat.ne_of_lt (Heap.lt_size e)) (Heap.get?_push_of_some _ e)
    have J := lamP_start (A := A) (outer := X.stack) (E := E) (f := f) (c' := c') (tk := s.toks + [(px, u0)].length) I L rv e0 hr.hd Un.refl hns kp
    refine PySem.W.kla_codeExpr (wpAny_mono (bodyR.run [] _ _ H Q J ht) (fun v s' hq => ?_) fun e s' hq => hq)
    obtain ⟨w', H', J', rv, q⟩ := hq
    exact ⟨w', H', J'.os, J'.bare, J'.base, J'.hok, rv, q⟩
end
end Pl

set_option maxRecDepth 100000
set_option maxHeartbeats 4000000
namespace Pl
open PySem PySem.Spec PyProof.Rows L2 Fx LamX
open PySem.W (Frag)
/-! ### min(xs, key=lambda px: ..) -/
section
variable {prog : Program} {w : World} {A : Around}
def PV (xs : List V) : Nat → Value → Prop := fun j v => ∃ x, xs[j]? = some x ∧ RelV x v
def StL (I l : Addr) (xs : List V) : Nat → Shared → Prop := fun i s => s.heap.IsListIter I l i ∧ ∃ its : List Value, s.heap.IsList l its.toArray ∧ Vals xs its
theorem walksL {I l : Addr} {xs : List V} (hh : A.handled = none) (ne : l ≠ I) : WalksS prog w A I [I, l] [I] (fun a b => a = b) xs.length (PV xs) (StL I l xs) where
  sub := fun b hb => by
    rw [List.mem_singleton.mp hb]
    exact List.mem_cons_self ..
  grefl := fun _ => rfl
  gtrans := fun _ _ _ a b => a.trans b
  frame := fun i s h' tk ⟨a, its, b, r⟩ _ k => ⟨a.at (k I (by simp)), its, b.at (k l (by simp)), r⟩
  item := fun i s Q E hi ⟨a, its, b, r⟩ q => by
    have hl := r.length
    obtain ⟨x, hx⟩ : ∃ x, xs[i]? = some x := ⟨_, List.getElem?_eq_getElem hi⟩
    obtain ⟨u, hu, ru⟩ := r.get hx
    refine wpAny_pyNext_list_item a b (x := u) (by simpa using hu) fun h' a' sb => q u _ ⟨x, hx, ru⟩ ⟨a', its, b.at fun o e => (sb.2 l ne).trans e, r⟩ ⟨fun b o hb e => (sb.2 b fun z => hb (by simp [z])).trans e, rfl, rfl, rfl, Nat.le_refl _⟩
  done := fun s Q E ⟨a, its, b, r⟩ q => by
    have hl := r.length
    refine wpAny_pyNext_list_end hh a b (by rw [Array.getElem?_eq_none]; simp; omega) fun h' sb => q _ ⟨fun b o hb e => sb b o (fun z => hb (by simp [z])) e, rfl, rfl, rfl, Nat.le_refl _⟩
  self := fun i s Q E ⟨a, _⟩ q => wpAny_pyIter_listiter a q
end
section
variable {X : Cx} {pins : List (Addr × Obj)} {σ : L2.St} {H : Hp} {s s' : Shared}
/-- an address that is new -/
def Far (X : Cx) (pins : List (Addr × Obj)) (b : Addr) : Prop := X.s_0.heap.objs.size ≤ b ∧ b ≠ X.env.locals ∧ (∀ x c, X.env.cells.lookup x = some c → c ≠ b) ∧ ∀ p ∈ X.pn ++ pins, p.1 ≠ b
theorem far_of (I : Inv X pins σ H s) {b : Addr} (h : s.heap.objs.size ≤ b) : Far X pins b := by
  refine ⟨Nat.le_trans I.sz h, fun z => ?_, fun x c e z => ?_, fun p hp z => ?_⟩
  · have q := I.lt
    rw [← z] at q
    exact absurd (Nat.lt_of_lt_of_le q h) (Nat.lt_irrefl _)
  · obtain ⟨v, o, ho, _⟩ := I.cell x c e
    have q := Heap.lt_size ho
    rw [z] at q
    exact absurd (Nat.lt_of_lt_of_le q h) (Nat.lt_irrefl _)
  · obtain ⟨e, _⟩ := I.pin p hp
    have q := Heap.lt_size e
    rw [z] at q
    exact absurd (Nat.lt_of_lt_of_le q h) (Nat.lt_irrefl _)
theorem far_frs (I : Inv X pins σ H s) {b : Addr} (h : s.heap.objs.size ≤ b) : b ∉ frs X.stack := fun z => by
  rcases List.mem_cons.mp (I.stkSub _ z) with e | e
  · have q := I.lt
    rw [← e] at q
    exact absurd (Nat.lt_of_lt_of_le q h) (Nat.lt_irrefl _)
  · exact I.nofs h e
theorem inv_moved {S It : Addr} {G : Array GenState → Array GenState → Prop} (I : Inv X pins σ H s) (mv : Moved [S, It] G s s') (hG : s'.gens = s.gens) (nS : H S = none) (nI : H It = none) (fS : Far X pins S) (fI : Far X pins It) : Inv X pins σ H s' := by
  have nin : ∀ b u, H b = some u → b ∉ [S, It] := fun b u e z => by
    rcases List.mem_cons.mp z with rfl | z
    · rw [nS] at e
      cases e
    · rw [List.mem_singleton.mp z, nI] at e
      cases e
  refine I.call' (ch := [S, It]) mv.os ⟨fun b o e _ _ hx => mv.heap b o hx e, fun b o e _ _ hx => ⟨o.slots, mv.heap b o hx e⟩, fun _ _ _ n _ => n, fun b o e hx => ⟨o, mv.heap b o hx e⟩, fun _ _ e => e, fun _ _ _ e => e, fun b ps e => ⟨#[], by rw [e]; simp⟩⟩ (fun b u e => ?_) (by rw [hG]; exact I.bare) fun b hb => ?_
  · refine (I.hok b u e).stay (fun c v hc q => mv.heap c v ?_ q) (fun _ q => q) fun _ _ q => q
    rcases hc with z | z
    · rw [z]
      exact nin b u e
    · exact nin c _ z
  · rcases List.mem_cons.mp hb with rfl | hb
    · exact ⟨.inr fS.1, fS.2⟩
    · rw [List.mem_singleton.mp hb]
      exact ⟨.inr fI.1, fI.2⟩
end
/-- the answers for the items -/
def keysI (gb : En → Oc D) (en : En) : List D → Option (List Int)
  | [] => some []
  | d :: ds => match gb (some d :: en) with
    | .ok (.int k) => (keysI gb en ds).map (k :: ·)
    | _ => none
theorem keysI_at {gb : En → Oc D} {en : En} : ∀ {ds : List D} {ks : List Int}, keysI gb en ds = some ks → ks.length = ds.length ∧ ∀ (i : Nat) (d : D), ds[i]? = some d → gb (some d :: en) = .ok (.int (ks.getD i 0))
  | [], ks, e => by
    cases e
    exact ⟨rfl, fun i d h => by simp at h⟩
  | d :: ds, ks, e => by
    simp only [keysI] at e
    split at e
    · rename_i k hk
      obtain ⟨ks', e1, rfl⟩ := Option.map_eq_some_iff.mp e
      obtain ⟨h1, h2⟩ := keysI_at e1
      refine ⟨by simp [h1], fun i d' h => ?_⟩
      cases i with
      | zero =>
        have h : d = d' := Option.some.inj (by simpa using h)
        subst h
        simpa using hk
      | succ i => simpa using h2 i d' (by simpa using h)
    · cases e
/-- the first one with the least key -/
def bestK : Int → D → List Int → List D → D
  | _, d, [], _ => d
  | _, d, _, [] => d
  | m, d, k :: ks, e :: es => if k < m then bestK k e ks es else bestK m d ks es
theorem bestK_at (ks : List Int) (ds : List D) (hl : ks.length = ds.length) : ∀ (r j : Nat) (m : Int) (d : D), ds.length - (j + 1) = r → j + 1 ≤ ds.length → ds[argBest (fun i j => decide (ks.getD i 0 < ks.getD j 0)) j]? = some d → m = ks.getD (argBest (fun i j => decide (ks.getD i 0 < ks.getD j 0)) j) 0 →
    ds[argBest (fun i j => decide (ks.getD i 0 < ks.getD j 0)) (ds.length - 1)]? = some (bestK m d (ks.drop (j + 1)) (ds.drop (j + 1)))
  | 0, j, m, d, hr, hj, e, em => by
    have h1 : ds.length - 1 = j := by omega
    rw [h1, e, List.drop_eq_nil_of_le (by omega), List.drop_eq_nil_of_le (by omega)]
    rfl
  | r + 1, j, m, d, hr, hj, e, em => by
    obtain ⟨k, hk⟩ : ∃ k, ks[j + 1]? = some k := ⟨_, List.getElem?_eq_getElem (by omega)⟩
    obtain ⟨x, hx⟩ : ∃ x, ds[j + 1]? = some x := ⟨_, List.getElem?_eq_getElem (by omega)⟩
    have hk2 : ks.getD (j + 1) 0 = k := by rw [List.getD_eq_getElem?_getD, hk]; rfl
    have e1 : ks.drop (j + 1) = k :: ks.drop (j + 1 + 1) := by
      obtain ⟨h, rfl⟩ := List.getElem?_eq_some_iff.mp hk
      exact List.drop_eq_getElem_cons h
    have e2 : ds.drop (j + 1) = x :: ds.drop (j + 1 + 1) := by
      obtain ⟨h, rfl⟩ := List.getElem?_eq_some_iff.mp hx
      exact List.drop_eq_getElem_cons h
    rw [e1, e2]
    simp only [bestK]
    by_cases c : k < m
    · rw [if_pos c]
      have hb : argBest (fun i j => decide (ks.getD i 0 < ks.getD j 0)) (j + 1) = j + 1 := by
        have q : decide (ks.getD (j + 1) 0 < ks.getD (argBest (fun i j => decide (ks.getD i 0 < ks.getD j 0)) j) 0) = true := by
          rw [hk2, ← em]
          exact decide_eq_true c
        exact if_pos q
      exact bestK_at ks ds hl r (j + 1) k x (by omega) (by omega) (by rw [hb]; exact hx) (by rw [hb, hk2])
    · rw [if_neg c]
      have hb : argBest (fun i j => decide (ks.getD i 0 < ks.getD j 0)) (j + 1) = argBest (fun i j => decide (ks.getD i 0 < ks.getD j 0)) j := by
        have q : ¬ decide (ks.getD (j + 1) 0 < ks.getD (argBest (fun i j => decide (ks.getD i 0 < ks.getD j 0)) j) 0) = true := by
          rw [hk2, ← em, decide_eq_false c]
          decide
        exact if_neg q
      exact bestK_at ks ds hl r (j + 1) m d (by omega) (by omega) (by rw [hb]; exact e) (by rw [hb]; exact em)
def minKeyD (gb : En → Oc D) (en : En) : List D → Oc D
  | [.lst (d :: ds)] => match keysI gb en (d :: ds) with
    | some (k :: ks) => .ok (bestK k d ks ds)
    | _ => .bad
  | _ => .bad
def gMinKey (gs : En → Oc (List D)) (gb : En → Oc D) : En → Oc D := fun en => (gs en).bind (minKeyD gb en)
theorem REn.cons {M : MC} {F : Hp} {σ : L2.St} {en : En} {v : V} {d : D} (h : REn M F σ en) (r : R M F v d) : REn M F (some v :: σ) (some d :: en) := ⟨by simpa using h.le, fun i d' e => by
  cases i with
  | zero =>
    have e : d = d' := Option.some.inj (Option.some.inj (by simpa using e))
    subst e
    exact ⟨v, rfl, r⟩
  | succ i => exact h.at_ i d' (by simpa using e)⟩
end Pl

set_option maxRecDepth 100000
set_option maxHeartbeats 4000000
namespace Pl
open PySem PySem.Spec PyProof.Rows L2 Fx LamX
open PySem.W (Frag)
theorem sx_extN {T : List (Addr × Str)} {F H H1 : Hp} (s : Sx T F H) (e : ExtN H H1) (t : Tabs T H1) : Sx T F H1 := ⟨fun b o h => e _ _ (s.s b o h) fun ps z => s.nt b ps (by rw [h, z]), s.nt, t⟩
theorem minKeyD_inv (gb : En → Oc D) (en : En) (l : List D) : minKeyD gb en l = .bad ∨ ∃ d ds k ks, l = [.lst (d :: ds)] ∧ keysI gb en (d :: ds) = some (k :: ks) ∧ minKeyD gb en l = .ok (bestK k d ks ds) := by
  match l with
  | [] => exact .inl rfl
  | [.lst []] => exact .inl rfl
  | [.lst (d :: ds)] =>
    cases h : keysI gb en (d :: ds) with
    | none => exact .inl (by simp only [minKeyD, h])
    | some l =>
      match l, h with
      | [], h => exact .inl (by simp only [minKeyD, h])
      | k :: ks, h => exact .inr ⟨d, ds, k, ks, rfl, h, by simp only [minKeyD, h]⟩
  | [.non] => exact .inl rfl
  | [.bl _] => exact .inl rfl
  | [.int _] => exact .inl rfl
  | [.str _] => exact .inl rfl
  | [.tup _] => exact .inl rfl
  | [.dic _ _] => exact .inl rfl
  | [.code _ _ _] => exact .inl rfl
  | [.adr _] => exact .inl rfl
  | [.exv _ _] => exact .inl rfl
  | a :: _ :: _ => cases a <;> first | exact .inl rfl | (rename_i ls; cases ls <;> exact .inl rfl)
section
variable {X : Cx} {M : MC} {E : XK} {pos : Pos}
theorem d_minKey {p lpos kpos : Pos} {e body : Expr} {params : Arguments} {sc : Scope} {px qual : Str} {c P : Addr} {k : Nat} {gs : En → Oc (List D)} {gb : En → Oc D} (hK : M.K = X.K) (hr : Room (k + 2) X.A) (hm : X.mg "min" = none) (T : LTab X.base X.mg M.T qual c P) (eq : X.env.qual = qual ++ ".<locals>.") (cd : X.env.code = .ref c)
    (L : LamP X px sc) (hdef : defaultsOf params X.env = ([], [])) (bd : BindP px params body sc) (ha : PA X [e] (tPA M E gs)) (bodyR : ∀ (s : Shared) (H : Hp) (f c' : Addr), Room k (X.A.in1.deeper (lamEnv X sc s.heap.objs.size f c')) → PE (lamCxP X px X.A.in1 X.stack s H NoX sc f c') body (tP M NoX gb))
    (hg : Gl X "min" := by rfl) (he : backTo pos (starEach [e] X.env) = (false, eval e X.env) :: backTo pos (starEach [] X.env) := by rfl) (hpl : (backTo pos (starEach [e] X.env)).any (·.1) = false := by rfl) :
    PE X (.Call (.Name "min" p) [e] [⟨some "key", .Lambda params body sc lpos, kpos⟩] pos) (tP M E (gMinKey gs gb)) := by
  refine ⟨fun pins s σ H Q I h => ?_⟩
  obtain ⟨F, en, sx, r, pp⟩ := h
  refine wpAny_Call_Name_kw (ld_blt I hg hm (show bootBuiltins "min" = some (.builtin "min") by decide +kernel) ?_)
  refine PyProof.Rows.callWith_kw (thn (ha.run pos pins s σ H (fun vs H1 => ∃ F1 ds, Ex M.T F H F1 H1 ∧ RA M F1 vs ds ∧ Post M E (R M) F1 H1 Q (minKeyD gb en ds)) I ⟨F, en, sx, r, Post.bd pp fun xs ds F1 H1 e1 r1 p1 => ⟨F1, ds, e1, r1, p1⟩⟩) fun us s1 ⟨vs, H1, I1, r1, F1, ds, x1, rs, q1⟩ => ?_) he hpl
  show wpAny _ _ (evalAll ((do let v ← eval (.Lambda params body sc lpos) X.env; standAt pos; pure v) :: [])) _ _ s1
  refine wpAny_evalAll_cons (wpAny_bind (lam_make2 I1 T.TB cd (by rw [eq]; exact T.mT) (by rw [eq]; exact T.uT) x1.s.tb hdef (L.has I1.ok) fun f c' pm ctv H2 s2 I2 eN tb2 of nf ff hc => wpAny_bind (wpAny_standAt (wpAny_pure (wpAny_evalAll_nil ?_)))))
  show wpAny _ _ (call (.builtin "min") us [(Str.ofString "key", .ref f)]) _ _ s2
  have sx2 : Sx M.T F1 H2 := sx_extN x1.s eN tb2
  rcases minKeyD_inv gb en ds with z | ⟨d0, es, k0, ks, rfl, hk, z⟩
  · rw [z] at q1
    exact q1.elim
  · rw [z] at q1
    obtain ⟨kn, kat⟩ := keysI_at hk
    cases rs with
    | cons ra rn =>
      cases rn
      cases ra with
      | @lst a ws _ hla rw0 =>
        have hl0 := rw0.len
        have hla2 := sx2.s _ _ hla
        obtain ⟨its, rv, hl, _⟩ := I2.list (SqL.of (K := X.K) hla2)
        rw [Vals.ref1 r1]
        have rE : REn M F1 σ en := r.ext x1.f
        refine call_min_walkK (iter_any hl.isList fun s3 e3 hI hne => ?_)
        have I3 : Inv X pins σ H2 s3 := by
          rw [e3]
          exact I2.kept fun b o q => Heap.get?_push_of_some _ q
        have sz3 : s3.heap.objs.size = s2.heap.objs.size + 1 := by
          rw [e3, Heap.size_push]
        have k23 : ∀ b o, s2.heap.get? b = some o → s3.heap.get? b = some o := fun b o q => by
          rw [e3]
          exact Heap.get?_push_of_some _ q
        have fI := far_of I2 (Nat.le_refl s2.heap.objs.size)
        have fS := far_of I2 (show s2.heap.objs.size ≤ s3.heap.objs.size by omega)
        have gI := far_frs I2 (Nat.le_refl s2.heap.objs.size)
        have gS := far_frs I2 (show s2.heap.objs.size ≤ s3.heap.objs.size by omega)
        have nI : H2 s2.heap.objs.size = none := I2.hok.fresh (Nat.le_refl _)
        have nS : H2 s3.heap.objs.size = none := I3.hok.fresh (Nat.le_refl _)
        have hflt : f < s2.heap.objs.size := Heap.lt_size of
        have nSI : s3.heap.objs.size ≠ s2.heap.objs.size := by omega
        refine ⟨s2.heap.objs.size, [s2.heap.objs.size, a], [s2.heap.objs.size], fun a b => a = b, ws.length, PV ws, StL s2.heap.objs.size a ws,
          fun s => ∃ Fc Hc, Inv X pins σ Hc s ∧ Ex M.T F1 H2 Fc Hc ∧ s.heap.get? f = some (lamPObj X params body sc pm c' ctv) ∧ Hc f = none ∧ Hc s3.heap.objs.size = none ∧ Hc s2.heap.objs.size = none,
          fun i v _ => ∃ t, v = .int ((k0 :: ks).getD i 0) t, fun i j => decide ((k0 :: ks).getD i 0 < (k0 :: ks).getD j 0), rfl, walksL hr.hd hne, ⟨hI.1, its, hI.2, rv⟩, fun b hb => ?_, by rw [hl0]; simp, ⟨?_, fun i k s s' h _ => h, ?_, ?_⟩, ⟨F1, H2, I3, Ex.refl sx2, k23 _ _ of, nf, nS, nI⟩, ?_⟩
        · rcases List.mem_cons.mp hb with rfl | hb
          · rw [sz3]
            exact Nat.lt_succ_self _
          · rw [List.mem_singleton.mp hb, sz3]
            obtain ⟨o, ho, _⟩ := hl.isList
            exact Nat.lt_succ_of_lt (Heap.lt_size ho)
        · rintro z z' ⟨Fc, Hc, J, ex, of1, nf1, nS1, nI1⟩ mv
          refine ⟨Fc, Hc, inv_moved J mv mv.gens.symm nS1 nI1 fS fI, ex, mv.heap _ _ (fun w => ?_) of1, nf1, nS1, nI1⟩
          rcases List.mem_cons.mp w with w | w
          · rw [w, sz3] at hflt
            exact absurd (Nat.lt_of_succ_lt hflt) (Nat.lt_irrefl _)
          · rw [List.mem_singleton.mp w] at hflt
            exact absurd hflt (Nat.lt_irrefl _)
        · rintro i v z o Qz Ez hi ⟨x, hx, rx⟩ ⟨Fc, Hc, J, ex, of1, nf1, nS1, nI1⟩ ⟨st1, its1, st2, st3⟩ hS hQ
          obtain ⟨dx, hdx, rdx⟩ := rw0.atV hx
          have kk := kat i dx hdx
          have rdc : R M Fc x dx := rdx.ext ex.f
          have hr1 : Room (k + 1) X.A.in1 := hr.in1
          refine wpAny_call (codeAny_mono (lamP_run (E := NoX) (k := k) (A := X.A.in1) (Q := fun y H' => (y = .int ((k0 :: ks).getD i 0)) ∧ ∃ F', Ex M.T Fc Hc F' H') J L rx of1 (ex.h _ _ hc codeO_ne) bd hr1 J.env0.in1 (bodyR _ _ _ _ (hr1.deeper _)) ?_) fun rr s' hq => ?_)
          · refine ⟨Fc, some dx :: en, ex.s, (rE.ext ex.f).cons rdc, ?_⟩
            rw [kk]
            intro y F' H' e' ry
            cases ry
            exact ⟨rfl, F', e'⟩
          · cases rr with
            | error er =>
              obtain ⟨_, _, _, _, _, _, _, _, _, _, _, _, zz⟩ := hq
              exact zz.elim
            | ok fl =>
              cases fl with
              | next => exact False.elim hq
              | brk => exact False.elim hq
              | cont => exact False.elim hq
              | ret u =>
                obtain ⟨y, H', os, bare, un, hok, ry, ey, F', e'⟩ := hq
                subst ey
                obtain ⟨t, rfl⟩ := ry
                have J' : Inv X pins σ H' s' := J.call' (ch := []) os un hok bare fun b z => absurd z (by simp)
                have hS1 : s'.heap.get? s3.heap.objs.size = some o := un.keep _ _ hS nS1 gS (by simp)
                obtain ⟨oI, hoI, cI, dI⟩ := st1
                have hoI1 := un.keep _ _ hoI nI1 gI (by simp)
                have hla3 : H' a = some (.lst ws) := (ex.trans e').s.s _ _ ((ex.trans e').f _ _ hla)
                obtain ⟨its2, rv2, hl2, _⟩ := J'.list (SqL.of (K := X.K) hla3)
                refine hQ _ _ ⟨F', H', J', ex.trans e', un.keep _ _ of1 nf1 ff (by simp), un.free _ _ of1 nf1 (by simp), un.free _ _ hS nS1 (by simp), un.free _ _ hoI nI1 (by simp)⟩ ⟨⟨oI, hoI1, cI, dI⟩, its2, hl2.isList, rv2⟩ hS1 ⟨t, rfl⟩ fun _ _ w => w
        · rintro i j ki kj z Qz Ez _ ⟨t1, rfl⟩ ⟨t2, rfl⟩ hQ
          refine PySem.W.rcLt_alike (.int _) (.int _) X.A.in1 z (.int _ t1) (.int _ t2) [] [] (.int _ _) (.int _ _) (by simp [PySem.W.alike]) (by simp) (by
            have q := hr.in1.units0
            have e : min (PyData.int ((k0 :: ks).getD i 0)).depth (PyData.int ((k0 :: ks).getD j 0)).depth = 0 := by simp [PyData.depth]
            rw [e]
            exact q) _ _ _ _ ?_
          rw [PySem.W.dataLt_int]
          exact hQ
        · rintro v z ⟨x, hx, rx⟩ ⟨Fc, Hc, J, ex, _⟩
          have hb := bestK_at (k0 :: ks) (d0 :: es) kn _ 0 k0 d0 rfl (by simp) (by simp [argBest]) (by simp [argBest])
          rw [hl0] at hx
          obtain ⟨v2, hv2, rv2⟩ := rw0.at hb
          rw [hx] at hv2
          cases hv2
          have fin := Post.shift q1 x1.s eN
          have fin2 := fin _ Fc Hc ex (rv2.ext ex.f)
          exact ⟨x, Hc, J, rx, fin2⟩
end
end Pl

set_option maxRecDepth 100000
set_option maxHeartbeats 4000000
namespace Fx
open PySem PySem.Spec PyProof.Rows L2
open PySem.W (Frag EachIs dataLe)
/-! ### sorted(rows), the rows tuples of numbers, any number of them -/
abbrev RI' := Addr × List Nat
def encR (b : RI') : PyData := .tuple (b.2.map fun (k : Nat) => PyData.int (k : Int))
abbrev kVr (ks : List Nat) : List V := ks.map fun (k : Nat) => V.int (k : Int)
theorem dzKs {K : Frag} {H : Hp} : ∀ ks : List Nat, DzAll K H (kVr ks) (ks.map fun (k : Nat) => PyData.int (k : Int))
  | [] => .nil
  | k :: ks => .cons (.int _) (dzKs ks)
def rSortedR (K : Frag) : List V → Hp → VK → Prop := fun vs H Q => ∃ (a : Addr) (its : List RI'), vs = [V.ref a] ∧ SqL K H a (its.map fun x => V.ref x.1) ∧ (∀ x ∈ its, SqT K H x.1 (kVr x.2) ∧ x.2 ≠ []) ∧ its.length ≤ sizeLine ∧
  ∀ p, H p = none → Q (.ref p) (upd H p (.lst ((its.mergeSort (dataLe false encR)).map fun x => V.ref x.1)))
theorem each_refs : ∀ {its : List RI'} {us : List Value}, Vals (its.map fun x => V.ref x.1) us → EachIs (fun v (b : RI') => v = Value.ref b.1) us its
  | [], _, .nil => .nil
  | x :: its, _ :: us, .cons r t => .cons r (each_refs t)
theorem refs_each : ∀ {its : List RI'} {us : List Value}, EachIs (fun v (b : RI') => v = Value.ref b.1) us its → Vals (its.map fun x => V.ref x.1) us
  | _, _, .nil => .nil
  | _, _, .cons r t => .cons r (refs_each t)
theorem each_mem2 {α β : Type} {R R' : α → β → Prop} : ∀ {as : List α} {bs : List β}, EachIs R as bs → (∀ b ∈ bs, ∀ a, R a b → R' a b) → EachIs R' as bs
  | _, _, .nil, _ => .nil
  | _, _, .cons r t, h => .cons (h _ (List.mem_cons_self ..) _ r) (each_mem2 t fun b hb => h b (List.mem_cons_of_mem _ hb))
theorem cr_sortedR {X : Cx} (hu : X.A.units + 64 < cLine) : CallR X (.builtin "sorted") (rSortedR X.K) := by
  intro pins s σ H vs us Q I r h
  obtain ⟨a, its, rfl, hs, hx, hz, q⟩ := h
  obtain ⟨vals, rv, hl, _⟩ := I.list hs
  rw [Vals.ref1 r]
  have e := each_refs rv
  have er : EachIs (fun v (b : RI') => ∃ as, Reads s.heap v (encR b) as) vals its := each_mem2 e fun b hb v hv => by
    subst hv
    obtain ⟨as, rd, _⟩ := Dz.reads I (encR b) (.ref b.1) (.ref b.1) (.tup (hx b hb).1 (dzKs b.2)) rfl
    exact ⟨as, rd⟩
  refine PySem.W.sorted_data (enc := encR) hl.isList e er (PySem.W.AllAlike.of fun b b' => ?_) (.inl fun d hd => ?_) hz (fun b hb => ?_) fun out ho eo => ?_
  · have q := PySem.W.alike_ints (b.2.map fun (k : Nat) => (k : Int)) (b'.2.map fun (k : Nat) => (k : Int))
    rw [List.map_map, List.map_map] at q
    exact q
  · obtain ⟨b, hb, rfl⟩ := List.mem_map.mp hd
    have ne := (hx b hb).2
    cases e2 : b.2 with
    | nil => exact absurd e2 ne
    | cons k r => exact ⟨_, _, by unfold encR; rw [e2]; rfl⟩
  · have q := PySem.W.depth_ints (b.2.map fun (k : Nat) => (k : Int))
    rw [List.map_map] at q
    have d1 : (encR b).depth ≤ 1 := by
      unfold encR
      simp only [PyData.depth]
      have q2 : PyData.depthAll (b.2.map fun (k : Nat) => PyData.int (k : Int)) = 0 := q
      omega
    omega
  · obtain ⟨ep, he'⟩ := PyProof.Rows.sortedAll_at s.heap vals out.toArray
    have ev := refs_each eo
    have hlen : ((its.mergeSort (dataLe false encR)).map fun x => V.ref x.1).length ≤ sizeLine := by
      rw [List.length_map, List.length_mergeSort]
      exact hz
    exact ⟨.ref _, upd H (s.heap.objs.size + 1) (.lst ((its.mergeSort (dataLe false encR)).map fun x => V.ref x.1)), I.laid (t' := s.toks) (fun _ _ => PyProof.Rows.sortedAll_old) (Nat.le_succ _) ⟨hlen, out, ep, ev, by simpa using he'⟩, rfl, q _ (I.hok.fresh (Nat.le_succ _))⟩
end Fx

set_option maxRecDepth 100000
set_option maxHeartbeats 4000000
namespace Pl
open PySem PySem.Spec PyProof.Rows L2 Fx
open PySem.W (Frag EachIs dataLe dataLt keyToks keyToksAll alike alikeAll TotalLe sameRank)
/-! ### sorting by insertion -/
section
variable {α β : Type}
def insS (le : α → α → Bool) (a : α) : List α → List α
  | [] => [a]
  | b :: l => if le a b = true then a :: b :: l else b :: insS le a l
def isortS (le : α → α → Bool) : List α → List α
  | [] => []
  | a :: l => insS le a (isortS le l)
theorem insS_perm (le : α → α → Bool) (a : α) : ∀ l : List α, (insS le a l).Perm (a :: l)
  | [] => List.Perm.refl _
  | b :: l => by
    unfold insS
    split
    · exact List.Perm.refl _
    · exact ((insS_perm le a l).cons b).trans (List.Perm.swap a b l)
theorem isortS_perm (le : α → α → Bool) : ∀ l : List α, (isortS le l).Perm l
  | [] => List.Perm.refl _
  | a :: l => (insS_perm le a _).trans ((isortS_perm le l).cons a)
theorem insS_pw {le : α → α → Bool} (T : TotalLe le) (a : α) : ∀ {l : List α}, l.Pairwise (fun x y => le x y = true) → (insS le a l).Pairwise (fun x y => le x y = true)
  | [], _ => by simp [insS]
  | b :: l, h => by
    unfold insS
    obtain ⟨h1, h2⟩ := List.pairwise_cons.mp h
    split
    · rename_i c
      refine List.pairwise_cons.mpr ⟨fun y hy => ?_, h⟩
      rcases List.mem_cons.mp hy with rfl | hy
      · exact c
      · exact T.trans _ _ _ c (h1 y hy)
    · rename_i c
      refine List.pairwise_cons.mpr ⟨fun y hy => ?_, insS_pw T a h2⟩
      rcases List.mem_cons.mp ((insS_perm le a l).mem_iff.mp hy) with rfl | hy
      · exact (T.total b y).resolve_right c
      · exact h1 y hy
theorem isortS_pw {le : α → α → Bool} (T : TotalLe le) : ∀ l : List α, (isortS le l).Pairwise (fun x y => le x y = true)
  | [] => List.Pairwise.nil
  | a :: l => insS_pw T a (isortS_pw T l)
theorem insS_filter {le : α → α → Bool} (T : TotalLe le) (a c : α) : ∀ {l : List α}, (insS le a l).filter (sameRank le c) = (a :: l).filter (sameRank le c)
  | [] => rfl
  | b :: l => by
    unfold insS
    split
    · rfl
    · rename_i h
      rw [List.filter_cons, insS_filter T a c (l := l)]
      cases hb : sameRank le c b with
      | false => simp [List.filter_cons, hb]
      | true =>
        have ha : sameRank le c a = false := by
          cases q : sameRank le c a with
          | false => rfl
          | true =>
            unfold sameRank at q hb
            rw [Bool.and_eq_true] at q hb
            exact absurd (T.trans _ _ _ q.2 hb.1) h
        simp [List.filter_cons, hb, ha]
theorem isortS_filter {le : α → α → Bool} (T : TotalLe le) (c : α) : ∀ l : List α, (isortS le l).filter (sameRank le c) = l.filter (sameRank le c)
  | [] => rfl
  | a :: l => by
    show (insS le a (isortS le l)).filter _ = _
    rw [insS_filter T, List.filter_cons, List.filter_cons, isortS_filter T c l]
theorem isortS_eq {le : α → α → Bool} (T : TotalLe le) (l : List α) : isortS le l = l.mergeSort le := PySem.W.sort_unique T (isortS_pw T l) fun c => isortS_filter T c l
theorem insS_map {le : α → α → Bool} {le' : β → β → Bool} (f : α → β) (a : α) : ∀ {l : List α}, (∀ b ∈ l, le a b = le' (f a) (f b)) → (insS le a l).map f = insS le' (f a) (l.map f)
  | [], _ => rfl
  | b :: l, h => by
    unfold insS
    rw [List.map_cons]
    simp only
    rw [← h b (List.mem_cons_self ..)]
    split
    · rfl
    · rw [List.map_cons, insS_map f a fun x hx => h x (List.mem_cons_of_mem _ hx)]
theorem isortS_map {le : α → α → Bool} {le' : β → β → Bool} (f : α → β) : ∀ {l : List α}, (∀ a ∈ l, ∀ b ∈ l, le a b = le' (f a) (f b)) → (isortS le l).map f = isortS le' (l.map f)
  | [], _ => rfl
  | a :: l, h => by
    show (insS le a (isortS le l)).map f = insS le' (f a) (isortS le' (l.map f))
    rw [insS_map f a fun b hb => h a (List.mem_cons_self ..) b (List.mem_cons_of_mem _ ((isortS_perm le l).mem_iff.mp hb)), isortS_map f fun x hx y hy => h x (List.mem_cons_of_mem _ hx) y (List.mem_cons_of_mem _ hy)]
end
/-! ### data in order -/
inductive Tk where
  | i (n : Int)
  | s (x : SS)
mutual
def toks : D → List Tk
  | .non => []
  | .bl b => [.i (if b = true then 1 else 0)]
  | .int n => [.i n]
  | .str x => [.s x]
  | .lst xs => toksA xs
  | .tup xs => toksA xs
  | .dic _ _ => []
  | .code _ _ _ => []
  | .adr _ => []
  | .exv _ _ => []
def toksA : List D → List Tk
  | [] => [.i 0]
  | x :: xs => .i 1 :: (toks x ++ toksA xs)
end
def Tk.v (M : MC) : Tk → Int ⊕ List Nat
  | .i n => .inl n
  | .s x => .inr (x.val M).cps.toList
def Tk.inr (M : MC) : Tk → Prop
  | .i _ => True
  | .s x => x.inr M
mutual
theorem toks_py (M : MC) : ∀ d : D, pure0 d = true → keyToks (py M d) = (toks d).map (Tk.v M)
  | .non, _ => by simp [py, keyToks, toks]
  | .bl b, _ => by simp [py, keyToks, toks, Tk.v]
  | .int i, _ => by simp [py, keyToks, toks, Tk.v]
  | .str x, _ => by simp [py, keyToks, toks, Tk.v]
  | .lst xs, h => by
    simp only [py, keyToks, toks]
    exact toksA_py M xs (by simpa [pure0] using h)
  | .tup xs, h => by
    simp only [py, keyToks, toks]
    exact toksA_py M xs (by simpa [pure0] using h)
  | .dic _ _, h => by simp [pure0] at h
  | .code _ _ _, h => by simp [pure0] at h
  | .adr _, h => by simp [pure0] at h
  | .exv _ _, h => by simp [pure0] at h
theorem toksA_py (M : MC) : ∀ ds : List D, pures ds = true → keyToksAll (pys M ds) = (toksA ds).map (Tk.v M)
  | [], _ => by simp [pys, keyToksAll, toksA, Tk.v]
  | x :: xs, h => by
    simp only [pures, Bool.and_eq_true] at h
    simp only [pys, keyToksAll, toksA, List.map_cons, List.map_append, Tk.v]
    rw [toks_py M x h.1, toksA_py M xs h.2]
end
mutual
theorem R.tin {M : MC} {H : Hp} : ∀ {v : V} {d : D}, R M H v d → ∀ t ∈ toks d, t.inr M
  | _, _, .non, t, h => by simp [toks] at h
  | _, _, .bl b, t, h => by simp [toks] at h; subst h; trivial
  | _, _, .int i, t, h => by simp [toks] at h; subst h; trivial
  | _, _, .str g, t, h => by simp [toks] at h; subst h; trivial
  | _, _, .atm g _, t, h => by simp [toks] at h; subst h; exact g
  | _, _, .lst _ r, t, h => RA.tin r t (by simpa [toks] using h)
  | _, _, .tup _ r, t, h => RA.tin r t (by simpa [toks] using h)
  | _, _, .dic _ _ _, t, h => by simp [toks] at h
  | _, _, .code _ _ _ _, t, h => by simp [toks] at h
  | _, _, .adr _, t, h => by simp [toks] at h
  | _, _, .exv _ _ _, t, h => by simp [toks] at h
theorem RA.tin {M : MC} {H : Hp} : ∀ {vs : List V} {ds : List D}, RA M H vs ds → ∀ t ∈ toksA ds, t.inr M
  | _, _, .nil, t, h => by simp [toksA] at h; subst h; trivial
  | _, _, .cons r rs, t, h => by
    simp only [toksA, List.mem_cons, List.mem_append] at h
    rcases h with rfl | h | h
    · trivial
    · exact R.tin r t h
    · exact RA.tin rs t h
end
def ltT : List Tk → List Tk → Option Bool
  | [], [] => some false
  | [], _ :: _ => some true
  | _ :: _, [] => some false
  | .i a :: l, .i b :: m => if a = b then ltT l m else some (decide (a < b))
  | .s a :: l, .s b :: m => match SS.eq? a b with
    | some true => ltT l m
    | some false => SS.lt? a b
    | none => none
  | _, _ => none
theorem ltT_val {M : MC} (ok : MOk M) : ∀ {l m : List Tk} {b : Bool}, (∀ t ∈ l, t.inr M) → (∀ t ∈ m, t.inr M) → ltT l m = some b → PyProof.Rows.lexLt itemOrd (l.map (Tk.v M)) (m.map (Tk.v M)) = b
  | [], [], b, _, _, e => by cases e; rfl
  | [], _ :: _, b, _, _, e => by cases e; rfl
  | .i _ :: _, [], b, _, _, e => by cases e; rfl
  | .s _ :: _, [], b, _, _, e => by cases e; rfl
  | .i a :: l, .i c :: m, b, hl, hm, e => by
    simp only [ltT] at e
    simp only [List.map_cons, Tk.v]
    split at e
    · rename_i h
      subst h
      rw [PyProof.Rows.lex_self (O := itemOrd)]
      exact ltT_val ok (fun t ht => hl t (List.mem_cons_of_mem _ ht)) (fun t ht => hm t (List.mem_cons_of_mem _ ht)) e
    · rename_i h
      rw [PyProof.Rows.lex_diff (O := itemOrd) (fun z => h (Sum.inl.inj z))]
      cases e
      rfl
  | .s a :: l, .s c :: m, b, hl, hm, e => by
    simp only [ltT] at e
    simp only [List.map_cons, Tk.v]
    have ia : a.inr M := hl (.s a) (List.mem_cons_self ..)
    have ic : c.inr M := hm (.s c) (List.mem_cons_self ..)
    split at e
    · rename_i h
      have q := eq?_val ok ia ic h
      rw [eq_of_beq q, PyProof.Rows.lex_self (O := itemOrd)]
      exact ltT_val ok (fun t ht => hl t (List.mem_cons_of_mem _ ht)) (fun t ht => hm t (List.mem_cons_of_mem _ ht)) e
    · rename_i h
      have q := eq?_val ok ia ic h
      rw [PyProof.Rows.lex_diff (O := itemOrd) (fun z => by
        have w := PySem.W.str_of_cps (Sum.inr.inj z)
        rw [w, beq_self_eq_true] at q
        cases q)]
      exact lt?_val ok ia ic e
    · cases e
  | .i a :: l, .s c :: m, b, _, _, e => by cases e
  | .s a :: l, .i c :: m, b, _, _, e => by cases e
mutual
def alk : D → D → Bool
  | .non, .non => true
  | .bl _, .bl _ => true
  | .int _, .int _ => true
  | .str _, .str _ => true
  | .lst xs, .lst ys => alks xs ys
  | .tup xs, .tup ys => alks xs ys
  | _, _ => false
def alks : List D → List D → Bool
  | x :: xs, y :: ys => alk x y && alks xs ys
  | [], _ => true
  | _ :: _, [] => true
end
mutual
theorem alk_py (M : MC) : ∀ {a b : D}, alk a b = true → alike (py M a) (py M b) = true
  | .non, b, h => by cases b <;> first | (simp [py, alike]; done) | (simp [alk] at h)
  | .bl _, b, h => by cases b <;> first | (simp [py, alike]; done) | (simp [alk] at h)
  | .int _, b, h => by cases b <;> first | (simp [py, alike]; done) | (simp [alk] at h)
  | .str _, b, h => by cases b <;> first | (simp [py, alike]; done) | (simp [alk] at h)
  | .lst xs, b, h => by
    cases b with
    | lst ys =>
      simp only [py, alike]
      exact alks_py M (by simpa [alk] using h)
    | _ => simp [alk] at h
  | .tup xs, b, h => by
    cases b with
    | tup ys =>
      simp only [py, alike]
      exact alks_py M (by simpa [alk] using h)
    | _ => simp [alk] at h
  | .dic _ _, b, h => by cases b <;> simp [alk] at h
  | .code _ _ _, b, h => by cases b <;> simp [alk] at h
  | .adr _, b, h => by cases b <;> simp [alk] at h
  | .exv _ _, b, h => by cases b <;> simp [alk] at h
theorem alks_py (M : MC) : ∀ {as bs : List D}, alks as bs = true → alikeAll (pys M as) (pys M bs) = true
  | [], _, _ => by simp [pys, alikeAll]
  | _ :: _, [], _ => by simp [pys, alikeAll]
  | x :: xs, y :: ys, h => by
    simp only [alks, Bool.and_eq_true] at h
    simp only [pys, alikeAll]
    rw [alk_py M h.1, alks_py M h.2]
    rfl
end
def leD (a b : D) : Bool := match ltT (toks b) (toks a) with
  | some r => !r
  | none => false
def isTup1 : D → Bool
  | .tup (_ :: _) => true
  | _ => false
def noTup : D → Bool
  | .tup _ => false
  | .non => false
  | _ => true
/-- all can be held against one another -/
def okSort (ds : List D) : Bool := (ds.all fun a => shp a && ds.all fun b => alk a b && (ltT (toks a) (toks b)).isSome) && (ds.all isTup1 || ds.all noTup)
def fSort : List D → Option D
  | [.lst ds] => if fit ds.length = true ∧ (okSort ds = true ∨ (ds.length ≤ 1 ∧ (ds.all fun a => shp a && alk a a && !isN a) = true)) then some (.lst (isortS leD ds)) else none
  | _ => none
theorem vals_zip : ∀ {vs : List V} {ds : List D} {us : List Value}, vs.length = ds.length → Vals vs us → EachIs (fun v (b : V × D) => RelV b.1 v) us (vs.zip ds)
  | [], ds, _, _, .nil => by simp; exact .nil
  | v :: vs, d :: ds, _, h, .cons r t => .cons r (vals_zip (by simpa using h) t)
theorem zip_vals : ∀ {us : List Value} {bs : List (V × D)}, EachIs (fun v (b : V × D) => RelV b.1 v) us bs → Vals (bs.map (·.1)) us
  | _, _, .nil => .nil
  | _, _, .cons r t => .cons r (zip_vals t)
theorem RA.zipm {M : MC} {H : Hp} : ∀ {vs : List V} {ds : List D}, RA M H vs ds → ∀ b ∈ vs.zip ds, R M H b.1 b.2
  | _, _, .nil, b, h => by simp at h
  | _, _, .cons r t, b, h => by
    rcases List.mem_cons.mp h with rfl | h
    · exact r
    · exact RA.zipm t b h
theorem RA.ofm {M : MC} {H : Hp} : ∀ {bs : List (V × D)}, (∀ b ∈ bs, R M H b.1 b.2) → RA M H (bs.map (·.1)) (bs.map (·.2))
  | [], _ => .nil
  | b :: bs, h => .cons (h b (List.mem_cons_self ..)) (RA.ofm fun x hx => h x (List.mem_cons_of_mem _ hx))
theorem zip_snd {vs : List V} {ds : List D} (h : vs.length = ds.length) : (vs.zip ds).map (·.2) = ds := by
  rw [List.map_snd_zip]
  omega
theorem each_mem3 {α β : Type} {R R' : α → β → Prop} : ∀ {as : List α} {bs : List β}, EachIs R as bs → (∀ b ∈ bs, ∀ a, R a b → R' a b) → EachIs R' as bs
  | _, _, .nil, _ => .nil
  | _, _, .cons r t, h => .cons (h _ (List.mem_cons_self ..) _ r) (each_mem3 t fun b hb => h b (List.mem_cons_of_mem _ hb))
end Pl

set_option maxRecDepth 100000
set_option maxHeartbeats 4000000
namespace Pl
open PySem PySem.Spec PyProof.Rows L2 Fx
open PySem.W (Frag EachIs dataLe dataLt keyToks keyToksAll alike alikeAll TotalLe sameRank)
/-! ### sorted(xs) of data that can be held against one another -/
section
variable {prog : Program} {w : World} {A : Around} {E : Value → Shared → Prop} {s : Shared} {β : Type} {R0 : Value → β → Prop} {enc : β → PyData} {bs : List β} {vs : List Value}
open PySem.W in
/-- a list of one item at most -/
theorem sorted_one {l : Addr} {Q : Value → Shared → Prop} (hl : s.heap.IsList l vs.toArray) (e : EachIs R0 vs bs) (er : EachIs (fun v b => ∃ as, Reads s.heap v (enc b) as) vs bs) (hal : AllAlike (bs.map enc)) (hn : ∀ d ∈ bs.map enc, d ≠ .none) (h1 : bs.length ≤ 1)
    (hu : ∀ b, b ∈ bs → A.units + 2 + (enc b).depth < cLine) (h : ∀ out, out.length = bs.length → EachIs R0 out (bs.mergeSort (dataLe false enc)) → Q (.ref (s.heap.objs.size + 1)) { s with heap := sortedAll s.heap vs (List.toArray out) }) :
    wpAny (model prog w) A (call (.builtin "sorted") [.ref l]) Q E s := by
  have er' : EachIs (fun v b => ∃ as, Reads (sortingHeap (copyHeap s.heap vs) (s.heap.objs.size + 1) vs) v (enc b) as) vs bs := er.mono fun _ _ ⟨as, r⟩ => ⟨as, PyProof.Rows.Reads.keeps (fun _ _ => sorting_copy_old) r⟩
  have el := each_map (R := fun v d => ∃ as, Reads (sortingHeap (copyHeap s.heap vs) (s.heap.objs.size + 1) vs) v d as) enc er'
  have hv : vs.length ≤ 1 := by rw [e.length]; exact h1
  refine sorted_vals (κ := dataKind (sortingHeap (copyHeap s.heap vs) (s.heap.objs.size + 1) vs) (bs.map enc)) hl ⟨fun v hv => ?_, general', fun E x y a b Q ha hb hq => ?_, fun h2 => absurd h2 (by omega)⟩ (Nat.le_trans hv (by rw [sizeLine_eq]; decide)) (h _ (by rw [sortVals_length false rfl]; exact e.length) (sortVals_data false e er' hal))
  · obtain ⟨d, hd, as, r⟩ := el.left v hv
    exact ⟨_, dataKind_some hal hd r⟩
  · obtain ⟨d, as, hd, ra, rfl⟩ := dataKind_inv ha
    obtain ⟨d', as', hd', rb, rfl⟩ := dataKind_inv hb
    have room : A.units + 2 + d.depth < cLine := by
      obtain ⟨b, hb, rfl⟩ := List.mem_map.mp hd
      exact hu b hb
    exact oneLt_alike (f := false) (fun z => nomatch z) ra rb (hal d hd d' hd') (hn d hd) (by show A.units + 1 + 1 + _ < _; have := Nat.min_le_left d.depth d'.depth; omega) hq
end
theorem sort_small {α : Type} (le : α → α → Bool) : ∀ {l : List α}, l.length ≤ 1 → isortS le l = l
  | [], _ => rfl
  | [_], _ => rfl
  | _ :: _ :: _, h => by simp at h
theorem one_mem {α : Type} : ∀ {l : List α} {x y : α}, l.length ≤ 1 → x ∈ l → y ∈ l → x = y
  | [z], x, y, _, hx, hy => by rw [List.mem_singleton.mp hx, List.mem_singleton.mp hy]
  | _ :: _ :: _, _, _, h, _, _ => by simp at h
theorem leD_val {M : MC} (ok : MOk M) {H : Hp} {u v : V} {a b : D} (ra : R M H u a) (rb : R M H v b) (pa : pure0 a = true) (pb : pure0 b = true) (c : (ltT (toks b) (toks a)).isSome = true) : (!dataLt (py M b) (py M a)) = leD a b := by
  obtain ⟨r, hr⟩ := Option.isSome_iff_exists.mp c
  unfold dataLt leD
  rw [hr, toks_py M b pb, toks_py M a pa, ltT_val ok rb.tin ra.tin hr]
theorem cd_sorted {X : Cx} {M : MC} (hK : M.K = X.K) (ok : MOk M) (hu : X.A.units + 64 < cLine) : CallD X M (.builtin "sorted") fSort := by
  intro pins s σ H xs us Q I r z
  obtain ⟨F, ds, d, sx, ra, e, q⟩ := rD_inv z
  match ds, e with
  | [.lst es], e =>
    cases ra with
    | cons ra rn =>
      cases rn
      cases ra with
      | @lst a vs _ ha rs =>
        simp only [fSort] at e
        split at e
        · rename_i c
          obtain ⟨c1, c2⟩ := c
          cases e
          have hfit : es.length ≤ sizeLine := of_decide_eq_true c1
          have hl0 := rs.len
          obtain ⟨vals, rv, hl, _⟩ := I.list (SqL.of (K := X.K) (sx.s _ _ ha))
          rw [Vals.ref1 r]
          have hs := rs.ext sx.s
          have sh : ∀ x ∈ es, shp x = true := fun x hx => by
            rcases c2 with c2 | ⟨_, c2⟩
            · unfold okSort at c2
              rw [Bool.and_eq_true] at c2
              exact (Bool.and_eq_true_iff.mp (List.all_eq_true.mp c2.1 x hx)).1
            · have q := List.all_eq_true.mp c2 x hx
              simp only [Bool.and_eq_true] at q
              exact q.1.1
          have pz : ∀ b ∈ vs.zip es, b.2 ∈ es := fun b hb => (List.of_mem_zip hb).2
          have sp0 : ∀ x ∈ es, pure0 x = true := fun x hx => (Bool.and_eq_true_iff.mp (sh x hx)).1
          have e1 := vals_zip hl0 rv
          have er : EachIs (fun v (b : V × D) => ∃ as, Reads s.heap v (py M b.2) as) vals (vs.zip es) := each_mem3 e1 fun b hb v hv => by
            have dz := (hs.zipm b hb).dz (sp0 _ (pz b hb))
            rw [hK] at dz
            obtain ⟨as, rd, _⟩ := Dz.reads I (py M b.2) b.1 v dz hv
            exact ⟨as, rd⟩
          have T : TotalLe (dataLe (β := V × D) false fun b => py M b.2) := PySem.W.sortLe_total _ _ _
          have done : ∀ out : List Value, EachIs (fun v (b : V × D) => RelV b.1 v) out (isortS (dataLe false fun b => py M b.2) (vs.zip es)) → (isortS (dataLe (β := V × D) false fun b => py M b.2) (vs.zip es)).map (·.2) = isortS leD es → ∀ p, H p = none →
              Vals ((isortS (dataLe (β := V × D) false fun b => py M b.2) (vs.zip es)).map (·.1)) out ∧ ((isortS (dataLe (β := V × D) false fun b => py M b.2) (vs.zip es)).map (·.1)).length ≤ sizeLine ∧ Q (.ref p) (upd H p (.lst ((isortS (dataLe (β := V × D) false fun b => py M b.2) (vs.zip es)).map (·.1)))) := fun out eo em p hp => by
            refine ⟨zip_vals eo, ?_, ?_⟩
            · rw [List.length_map, (isortS_perm _ _).length_eq, List.length_zip]
              omega
            · refine Post.newL (E := fun _ _ _ => False) (M := M) (ds := isortS leD es) q sx ?_ hp
              rw [← em]
              exact RA.ofm fun b hb => rs.zipm b ((isortS_perm _ _).mem_iff.mp hb)
          rcases c2 with c2 | c2
          · unfold okSort at c2
            rw [Bool.and_eq_true] at c2
            have al : ∀ x ∈ es, ∀ y ∈ es, alk x y = true ∧ (ltT (toks x) (toks y)).isSome = true := fun x hx y hy => Bool.and_eq_true_iff.mp (List.all_eq_true.mp (Bool.and_eq_true_iff.mp (List.all_eq_true.mp c2.1 x hx)).2 y hy)
            have hal : PySem.W.AllAlike ((vs.zip es).map fun b => py M b.2) := by
              intro d hd d' hd'
              obtain ⟨b, hb, rfl⟩ := List.mem_map.mp hd
              obtain ⟨b', hb', rfl⟩ := List.mem_map.mp hd'
              exact alk_py M (al _ (pz b hb) _ (pz b' hb')).1
            have hk : PySem.W.Sortable ((vs.zip es).map fun b => py M b.2) := by
              rcases Bool.or_eq_true_iff.mp c2.2 with h | h
              · refine .inl fun d hd => ?_
                obtain ⟨b, hb, rfl⟩ := List.mem_map.mp hd
                have q := List.all_eq_true.mp h _ (pz b hb)
                match b.2, q with
                | .tup (x :: r), _ => exact ⟨py M x, pys M r, by simp only [py, pys]⟩
              · refine .inr fun d hd => ?_
                obtain ⟨b, hb, rfl⟩ := List.mem_map.mp hd
                have q := List.all_eq_true.mp h _ (pz b hb)
                have q0 := sp0 _ (pz b hb)
                cases z : b.2 with
                | non => rw [z] at q; cases q
                | tup _ => rw [z] at q; cases q
                | dic _ _ => rw [z] at q0; simp [pure0] at q0
                | code _ _ _ => rw [z] at q0; simp [pure0] at q0
                | adr _ => rw [z] at q0; simp [pure0] at q0
                | exv _ _ => rw [z] at q0; simp [pure0] at q0
                | _ => simp [py]
            refine PySem.W.sorted_data (enc := fun b : V × D => py M b.2) hl.isList e1 er hal hk (by rw [List.length_zip]; omega) (fun b hb => ?_) fun out ho eo => ?_
            · have q := ((hs.zipm b hb).lay (sp0 _ (pz b hb))).2
              have q2 : dep b.2 ≤ 60 := of_decide_eq_true (Bool.and_eq_true_iff.mp (sh _ (pz b hb))).2
              omega
            · obtain ⟨ep, he'⟩ := PyProof.Rows.sortedAll_at s.heap vals out.toArray
              rw [← isortS_eq T] at eo
              have em : (isortS (dataLe (β := V × D) false fun b => py M b.2) (vs.zip es)).map (·.2) = isortS leD es := by
                rw [isortS_map (le := dataLe false fun b : V × D => py M b.2) (le' := leD) (fun x : V × D => x.2) fun a ha b hb => ?_, zip_snd hl0]
                exact leD_val ok (hs.zipm a ha) (hs.zipm b hb) (sp0 _ (pz a ha)) (sp0 _ (pz b hb)) (al _ (pz b hb) _ (pz a ha)).2
              obtain ⟨w1, w2, w3⟩ := done out eo em (s.heap.objs.size + 1) (I.hok.fresh (Nat.le_succ _))
              exact ⟨.ref _, upd H (s.heap.objs.size + 1) (.lst ((isortS (dataLe (β := V × D) false fun b => py M b.2) (vs.zip es)).map (·.1))), I.laid (t' := s.toks) (fun _ _ => PyProof.Rows.sortedAll_old) (Nat.le_succ _) ⟨w2, out, ep, w1, by simpa using he'⟩, rfl, w3⟩
          · obtain ⟨c2, c3⟩ := c2
            have c4 : ∀ x ∈ es, alk x x = true ∧ isN x = false := fun x hx => by
              have q := List.all_eq_true.mp c3 x hx
              simp only [Bool.and_eq_true, Bool.not_eq_true'] at q
              exact ⟨q.1.2, q.2⟩
            have one : ∀ x ∈ es, ∀ y ∈ es, x = y := fun x hx y hy => by
              exact one_mem c2 hx hy
            have hal : PySem.W.AllAlike ((vs.zip es).map fun b => py M b.2) := by
              intro d hd d' hd'
              obtain ⟨b, hb, rfl⟩ := List.mem_map.mp hd
              obtain ⟨b', hb', rfl⟩ := List.mem_map.mp hd'
              rw [one _ (pz b hb) _ (pz b' hb')]
              exact alk_py M (c4 _ (pz b' hb')).1
            have hn : ∀ d ∈ (vs.zip es).map fun b => py M b.2, d ≠ .none := fun d hd => by
              obtain ⟨b, hb, rfl⟩ := List.mem_map.mp hd
              have q0 := sp0 _ (pz b hb)
              have q := (c4 _ (pz b hb)).2
              cases z : b.2 with
              | non => rw [z] at q; cases q
              | dic _ _ => rw [z] at q0; simp [pure0] at q0
              | code _ _ _ => rw [z] at q0; simp [pure0] at q0
              | adr _ => rw [z] at q0; simp [pure0] at q0
              | exv _ _ => rw [z] at q0; simp [pure0] at q0
              | _ => simp [py]
            refine sorted_one (enc := fun b : V × D => py M b.2) hl.isList e1 er hal hn (by rw [List.length_zip]; omega) (fun b hb => ?_) fun out ho eo => ?_
            · have q := ((hs.zipm b hb).lay (sp0 _ (pz b hb))).2
              have q2 : dep b.2 ≤ 60 := of_decide_eq_true (Bool.and_eq_true_iff.mp (sh _ (pz b hb))).2
              omega
            · obtain ⟨ep, he'⟩ := PyProof.Rows.sortedAll_at s.heap vals out.toArray
              rw [← isortS_eq T] at eo
              have em : (isortS (dataLe (β := V × D) false fun b => py M b.2) (vs.zip es)).map (·.2) = isortS leD es := by
                rw [sort_small (dataLe false fun b : V × D => py M b.2) (by rw [List.length_zip]; omega), sort_small leD c2, zip_snd hl0]
              obtain ⟨w1, w2, w3⟩ := done out eo em (s.heap.objs.size + 1) (I.hok.fresh (Nat.le_succ _))
              exact ⟨.ref _, upd H (s.heap.objs.size + 1) (.lst ((isortS (dataLe (β := V × D) false fun b => py M b.2) (vs.zip es)).map (·.1))), I.laid (t' := s.toks) (fun _ _ => PyProof.Rows.sortedAll_old) (Nat.le_succ _) ⟨w2, out, ep, w1, by simpa using he'⟩, rfl, w3⟩
        · cases e
end Pl

set_option maxRecDepth 100000
set_option maxHeartbeats 4000000
namespace Pl
open PySem PySem.Spec PyProof.Rows L2 Fx
open PySem.W (Frag EachIs dataLe TotalLe)
/-! ### sorted(xs, key=len) -/
def lenD (d : D) : Nat := match items? d with
  | some xs => xs.length
  | none => 0
def leLen (a b : D) : Bool := decide ((lenD a : Int) ≤ (lenD b : Int))
def fSortLen : List D → Option D
  | [.lst ds] => if fit ds.length = true ∧ (ds.all fun d => (items? d).isSome) = true then some (.lst (isortS leLen ds)) else none
  | _ => none
theorem isList_keep {h h' : Heap} {l : Addr} {xs : Array Value} (k : ∀ b o, h.get? b = some o → h'.get? b = some o) (p : h.IsList l xs) : h'.IsList l xs := by
  obtain ⟨o, h1, h2⟩ := p
  exact ⟨o, k _ _ h1, h2⟩
theorem isTup_keep {h h' : Heap} {l : Addr} {xs : Array Value} (k : ∀ b o, h.get? b = some o → h'.get? b = some o) (p : IsTup h l xs) : IsTup h' l xs := by
  obtain ⟨o, h1, h2⟩ := p
  exact ⟨o, k _ _ h1, h2⟩
section
variable {X : Cx} {M : MC} {E : XK} {pos : Pos}
theorem d_sortLen {p q kpos : Pos} {e : Expr} {gs : En → Oc (List D)} (hK : M.K = X.K) (hu : X.A.units + 64 < cLine) (hm : X.mg "sorted" = none) (hm2 : X.mg "len" = none) (ha : PA X [e] (tPA M E gs)) (hg : Gl X "sorted" := by rfl) (hg2 : Gl X "len" := by rfl)
    (he : backTo pos (starEach [e] X.env) = (false, eval e X.env) :: backTo pos (starEach [] X.env) := by rfl) (hpl : (backTo pos (starEach [e] X.env)).any (·.1) = false := by rfl) :
    PE X (.Call (.Name "sorted" p) [e] [⟨some "key", .Name "len" q, kpos⟩] pos) (tP M E (gC fSortLen gs)) := by
  refine ⟨fun pins s σ H Q I h => ?_⟩
  obtain ⟨F, en, sx, r, pp⟩ := h
  refine wpAny_Call_Name_kw (ld_blt I hg hm (show bootBuiltins "sorted" = some (.builtin "sorted") by decide +kernel) ?_)
  refine PyProof.Rows.callWith_kw (thn (ha.run pos pins s σ H (fun vs H1 => ∃ F1 ds, Sx M.T F1 H1 ∧ RA M F1 vs ds ∧ Post M E (R M) F1 H1 Q (.of (fSortLen ds))) I ⟨F, en, sx, r, Post.bd pp fun xs ds F1 H1 e1 r1 p1 => ⟨F1, ds, e1.s, r1, p1⟩⟩) fun us s1 ⟨vs, H1, I1, r1, F1, ds, sx1, rs, q1⟩ => ?_) he hpl
  show wpAny _ _ (evalAll ((do let v ← eval (.Name "len" q) X.env; standAt pos; pure v) :: [])) _ _ s1
  refine wpAny_evalAll_cons (wpAny_bind (ld_blt I1 hg2 hm2 PySem.boot_len (wpAny_bind (wpAny_standAt (wpAny_pure (wpAny_evalAll_nil ?_))))))
  show wpAny _ _ (call (.builtin "sorted") us [(Str.ofString "key", .builtin "len")]) _ _ s1
  match ds, q1 with
  | [.lst es], q1 =>
    cases rs with
    | cons ra rn =>
      cases rn
      cases ra with
      | @lst a ws _ hla rs =>
        simp only [fSortLen] at q1
        split at q1
        · rename_i c
          obtain ⟨c1, c2⟩ := c
          have hfit : es.length ≤ sizeLine := of_decide_eq_true c1
          have hl0 := rs.len
          obtain ⟨vals, rv, hl, _⟩ := I1.list (SqL.of (K := X.K) (sx1.s _ _ hla))
          rw [Vals.ref1 r1]
          have hs := rs.ext sx1.s
          have e1 := vals_zip hl0 rv
          have pz : ∀ b ∈ ws.zip es, b.2 ∈ es := fun b hb => (List.of_mem_zip hb).2
          have T : TotalLe (dataLe (β := V × D) false fun b => .int (lenD b.2)) := PySem.W.sortLe_total _ _ _
          refine PySem.W.sorted_key_data (R := fun v (b : V × D) => RelV b.1 v ∧ b ∈ ws.zip es) (bs := ws.zip es) (fun b => .int (lenD b.2)) hl.isList ((PySem.W.each_mem e1).mono fun _ _ q => q) (PySem.W.AllAlike.of fun _ _ => by simp [PySem.W.alike]) (PySem.W.Sortable.others fun b => ⟨by simp, by simp⟩) (by rw [List.length_zip]; omega)
            (fun b hb => by simp only [PyData.depth]; omega) (PyProof.Rows.ksk_s1 _ _) (fun x => PyProof.Rows.ksk_l1 _ _) (fun x => PyProof.Rows.ksk_t4 _ _) (fun v b hv hb h tk kp => ?_) (fun out c h' tk kp nn hD ho eo => ?_)
          · have rb := hs.zipm b hb
            obtain ⟨xs, hx⟩ := Option.isSome_iff_exists.mp (List.all_eq_true.mp c2 b.2 (pz b hb))
            have le : lenD b.2 = xs.length := by unfold lenD; rw [hx]
            obtain ⟨pa, vs2, e0, hq, rs2⟩ := rb.items hx
            have hv1 := hv.1
            rw [e0] at hv1
            cases hv1
            rw [hK] at hq
            have l63 := line63
            rcases hq with hq | hq
            · obtain ⟨its, r', pl, hz⟩ := I1.list hq
              have hlen := r'.length
              refine Calls.call_len_list (isList_keep kp pl.isList) (by simp only [List.size_toArray] <;> omega) ⟨h, _, rfl, fun b o q => q, ?_⟩
              rw [le, ← rs2.len, hlen, List.size_toArray]
              exact .int _ _
            · obtain ⟨its, r', pl, hz⟩ := I1.tuple hq
              have hlen := r'.length
              refine len_tuple (isTup_keep kp pl) (by simp only [List.size_toArray] <;> omega) ⟨h, _, rfl, fun b o q => q, ?_⟩
              rw [le, ← rs2.len, hlen, List.size_toArray]
              exact .int _ _
          · rw [← isortS_eq T] at eo
            have em : (isortS (dataLe (β := V × D) false fun b => .int (lenD b.2)) (ws.zip es)).map (·.2) = isortS leLen es := by
              rw [isortS_map (le := dataLe false fun b : V × D => PyData.int (lenD b.2)) (le' := leLen) (fun x : V × D => x.2) fun a ha b hb => ?_, zip_snd hl0]
              rw [PySem.W.dataLe_int]
              rfl
            refine ⟨.ref _, upd H1 (s1.heap.objs.size + 1) (.lst ((isortS (dataLe (β := V × D) false fun b => .int (lenD b.2)) (ws.zip es)).map (·.1))), I1.laid (t' := tk) kp (Nat.le_succ _) ⟨?_, out, c, zip_vals (eo.mono fun _ _ q => q.1), hD⟩, rfl, ?_⟩
            · rw [List.length_map, (isortS_perm _ _).length_eq, List.length_zip]
              omega
            · refine Post.newL (M := M) q1 sx1 ?_ (I1.hok.fresh (Nat.le_succ _))
              rw [← em]
              exact RA.ofm fun b hb => rs.zipm b ((isortS_perm _ _).mem_iff.mp hb)
        · exact q1.elim
end
end Pl

set_option maxRecDepth 100000
set_option maxHeartbeats 4000000
namespace Pl
open PySem PySem.Spec PyProof.Rows L2 Fx
open PySem.W (Frag)
/-! ### set comprehensions of whatever can be added -/
/-- y goes into the set at D: Add says when, and what comes of it -/
def Adds (P : Program) (w : World) (D : Addr) (Add : V → Hp → (Hp → Prop) → Prop) : Prop :=
  ∀ (Y : Cx) (ps : List (Addr × Obj)) (τ : L2.St) (G : Hp) (z : Shared) (y : V) (u : Value) (Nx : Hp → Prop), Y.prog = P → Y.w = w → Inv Y ps τ G z → RelV y u → Add y G Nx → wpAny (model P w) Y.A (call (.builtin "set.add") [.ref D, u]) (fun _ z' => ∃ G', Inv Y ps τ G' z' ∧ Nx G') (fun _ _ => False) z
/-- one turn's wish -/
def tTurn (g : TG) (tt : TT) (te : TE) (vs : List Nat) (σ : L2.St) (Add : V → Hp → (Hp → Prop) → Prop) (Nx : Hp → Prop) (x : V) (G : Hp) : Prop :=
  g x (wipe σ vs) G fun τ G2 => wipe τ vs = wipe σ vs ∧ tt τ G2 fun b G3 => if b = true then te τ G3 fun y G4 => Add y G4 Nx else Nx G3
/-- {elt for tg in iter if ..}: no D says what is there at first -/
def tScG (no : Addr → HO) (Add : Addr → V → Hp → (Hp → Prop) → Prop) (wi : TI) (g : TG) (tt : TT) (te : TE) (vs : List Nat) : TE := fun σ H Q => wi σ H fun J H1 => ∀ D, H1 D = none → ∃ W : Nat → Nat → Hp → Prop, (∃ m, W 0 m (upd H1 D (no D))) ∧
  ∀ i m G, W i m G → (J.stop i G ∧ Q (.ref D) G) ∨ (J.go i G ∧ ∃ Nx : Hp → Prop, (∀ G', Nx G' → ∃ m', m' < m ∧ W (i + 1) m' G') ∧ ∀ x G', J.yld i G x G' → tTurn g tt te vs σ (Add D) Nx x G')
section
variable {X : Cx} {pins : List (Addr × Obj)} {σ : L2.St} {A : Hp} {z z4 : Shared} {elt tg iter : Expr} {ifs : List Expr} {scope : Scope} {own : List (Str × Nat)} {pos : Pos} {g : TG} {tt : TT} {te : TE} {D C it : Addr} {fp : List Addr} {tn : Nat → Heap → Prop} {J : It} {Add : V → Hp → (Hp → Prop) → Prop} {Qd : Hp → Prop} {R : Result → Shared → Prop} {ce : Env}
theorem scG_loop (cal : X.calm = true) (K0 : Inv X pins σ A z) (fo : ∀ b ∈ fp, FpOk X pins A b) (cl : ce.locals = C) (hC : z.heap.objs.size ≤ C) (T : Turn X.prog X.w X.K tg J fp it tn) (ad : Adds X.prog X.w D Add)
    (rg : PG (X.blk z A scope ce fp) tg g) (rt : PTs (X.blk z A scope ce fp) ifs tt) (re : PE (X.blk z A scope ce fp) elt te) (W : Nat → Nat → Hp → Prop)
    (each : ∀ i m G, W i m G → (J.stop i G ∧ Qd G) ∨ (J.go i G ∧ ∃ Nx : Hp → Prop, (∀ G', Nx G' → ∃ m', m' < m ∧ W (i + 1) m' G') ∧ ∀ x G', J.yld i G x G' → tTurn g tt te (own.map (·.2)) σ Add Nx x G'))
    (out : ∀ y m G, Inv X pins σ G y → Qd G → y.heap.Ns C m → FpOk X pins G C → R (.ok .next) y) (B0 : Inv (X.blk z A scope ce fp) [] (wipe σ (own.map (·.2))) A z4) (t0 : tn 0 z4.heap) {m0 : Nat} (w0 : W 0 m0 A) :
    codeAny (model X.prog X.w) X.A (.compLoop (.SetComp elt [⟨tg, iter, ifs, 0⟩] scope pos) 0 (.ref it) (.ref D) ce) R z4 := by
  let Y := X.blk z A scope ce fp
  have free : ∀ {τ : L2.St} {G : Hp} {y : Shared}, Inv Y [] τ G y → (∀ b ∈ fp, G b = none) → ∀ b ∈ fp, FpOk Y [] G b := fun {τ G y} B n b hb => by
    obtain ⟨q1, q2⟩ := B.ok.exf b hb
    exact ⟨n b hb, q1, B.ok.exfs b hb, .inl hb, fun x c e => q2 x c e, fun p hp => by simp [Y, Cx.blk] at hp⟩
  refine PpSet.compLoopS_any (fun n y => ∃ i G, W i n G ∧ (∀ b ∈ fp, G b = none) ∧ tn i y.heap ∧ Inv Y [] (wipe σ (own.map (·.2))) G y) (fun n y ⟨i, G, wi, nf, ti, B⟩ => ?_) m0 ⟨0, A, w0, fun b hb => (fo b hb).1, t0, B0⟩
  have fr := free B nf
  rcases each i n G wi with ⟨js, qd⟩ | ⟨jg, Nx, mk, st⟩
  · refine thnF (T.done Y rfl rfl rfl cal i [] y _ G (fun _ _ => False) B fr ti js) fun r y1 ⟨er, B1⟩ => ?_
    subst er
    have back : Inv X pins σ G y1 := K0.call' (ch := fp) B1.os B1.base B1.hok B1.bare fun b hb => by
      obtain ⟨_, o2, _, o4, o5, o6⟩ := fo b hb
      exact ⟨o4, o2, o5, o6⟩
    have gC : G C = none := by
      rw [← cl]
      exact B1.free
    obtain ⟨m, ns, _⟩ := B1.loc
    refine out y1 m G back qd ?_ (K0.fpOk hC gC)
    rw [← cl]
    exact ns
  · refine thnF (T.item Y rfl rfl rfl cal i [] y _ G (fun _ _ => False) B fr ti jg) fun r y1 ⟨u, er, go⟩ => ?_
    subst er
    refine thnF go fun _ y2 ⟨x, G2, B2, rx, yl, t2, n2⟩ => ?_
    have P2 := B2.pinned (free B2 n2) (T.obj _ _ t2)
    -- whatever came: the next turn
    have close : ∀ {τ : L2.St} {y' : Shared} {G' : Hp}, wipe τ (own.map (·.2)) = wipe σ (own.map (·.2)) → Inv Y ([] ++ pinsAt fp y2.heap) τ G' y' → Nx G' → ∃ m, m < n ∧ ∃ i G, W i m G ∧ (∀ b ∈ fp, G b = none) ∧ tn i y'.heap ∧ Inv Y [] (wipe σ (own.map (·.2))) G y' := fun {τ y' G'} wt B' nx => by
      obtain ⟨m', lt, w'⟩ := mk G' nx
      have pin : ∀ b ∈ fp, ∀ o, y2.heap.get? b = some o → y'.heap.get? b = some o ∧ G' b = none := fun b hb o e => by
        have q := B'.pin (b, o) (List.mem_append_right _ (List.mem_append_right _ (mem_pinsAt hb e)))
        exact ⟨q.1, q.2.1⟩
      refine ⟨m', lt, i + 1, G', w', fun b hb => ?_, T.keep _ _ _ t2 fun b hb o e => (pin b hb o e).1, ?_⟩
      · obtain ⟨o, e, _⟩ := T.obj _ _ t2 b hb
        exact (pin b hb o e).2
      · refine (B'.unpinned (pins := [])).weak (by rw [← wt, wipe_length]) fun j v e => ?_
        rw [← wt] at e
        exact (wipe_some e).1
    refine thnF (rg.run _ y2 _ G2 x u _ P2 rx (st x G2 yl)) fun _ y3 ⟨τ, G3, P3, wt, q3⟩ => ?_
    refine thnF (rt.run _ y3 τ G3 _ P3 q3) fun b y4 ⟨G4, P4, q4⟩ => ?_
    cases b with
    | false => exact close wt P4 q4
    | true =>
      refine thnF (re.run _ y4 τ G4 _ P4 q4) fun v y5 ⟨yv, G5, P5, r5, q5⟩ => ?_
      exact thnF (ad Y _ τ G5 y5 yv v Nx rfl rfl P5 r5 q5) fun _ y6 ⟨G6, P6, q6⟩ => close wt P6 q6
end
end Pl

set_option maxRecDepth 100000
set_option maxHeartbeats 4000000
namespace Pl
open PySem PySem.Spec PyProof.Rows L2 Fx
open PySem.W (Frag)
/-- what a new set is in the model -/
abbrev newSetO (w : World) : Obj := { cls := .type "set", dict := none, data := .set #[] 0 (.fresh 0 0 (!w.params.followText "set-order")) }
theorem pe_scG {X : Cx} {elt tg iter : Expr} {ifs : List Expr} {scope : Scope} {own : List (Str × Nat)} {pos : Pos} {wi : TI} {g : TG} {tt : TT} {te : TE} {no : Addr → HO} {Add : Addr → V → Hp → (Hp → Prop) → Prop} (cal : X.calm = true) (hN : X.N.Nodup) (hi : PI X tg iter wi) (ok : BlkOk X.N X.env.scope scope own)
    (rg : ∀ (s : Shared) (H : Hp) (C : Addr) (cl : List (Str × Addr)) (fp : List Addr), PG (X.blk s H scope (compEnvC scope cl C X.env) fp) tg g) (rt : ∀ (s : Shared) (H : Hp) (C : Addr) (cl : List (Str × Addr)) (fp : List Addr), PTs (X.blk s H scope (compEnvC scope cl C X.env) fp) ifs tt)
    (re : ∀ (s : Shared) (H : Hp) (C : Addr) (cl : List (Str × Addr)) (fp : List Addr), PE (X.blk s H scope (compEnvC scope cl C X.env) fp) elt te)
    (new : ∀ (H : Hp) (h : Heap), ObjOk X.prog X.w H (h.push (newSetO X.w)) h.objs.size (no h.objs.size)) (ad : ∀ D, Adds X.prog X.w D (Add D)) (hs : ∀ x, foldedSetIterable iter X.env x = pure x := by intro _; rfl) :
    PE X (.SetComp elt [⟨tg, iter, ifs, 0⟩] scope pos) (tScG no Add wi g tt te (own.map (·.2))) := by
  refine ⟨fun pins s σ H Q I h => ?_⟩
  rw [PpSet.eval_SetComp]
  have fr : ∀ y ∈ scope.names, y.2 = .free → ∃ c, X.env.cells.lookup y.1 = some c := fun y hy e => I.ok.has _ ((ok.free y hy e).imp id id)
  refine wpAny_comprehension_free (use := none) rfl hs (closure_ok fr) ok.kind (fun y hy e => (ok.uniq y hy).trans (by rw [e])) (thn (hi.run pins s σ H _ I h) fun v1 s1 q1 => thn q1 fun itv s2 q2 => ?_)
  obtain ⟨it, fp, tn, J, H2, rfl, I2, T, t2, o2, q⟩ := q2
  refine PpSet.newSet_ok (newEnv_comp ?_)
  obtain ⟨W, ⟨m0, w0⟩, each⟩ := q s2.heap.objs.size (I2.hok.fresh (Nat.le_refl _))
  -- the set is laid
  obtain ⟨s3, e3⟩ : ∃ s3 : Shared, s3 = { s2 with heap := s2.heap.push (newSetO X.w) } := ⟨_, rfl⟩
  have nD : H2 s2.heap.objs.size = none := I2.hok.fresh (Nat.le_refl _)
  have I3 : Inv X pins σ (upd H2 s2.heap.objs.size (no s2.heap.objs.size)) s3 := by
    rw [e3]
    exact I2.laid (t' := s2.toks) (fun b o e => Heap.get?_push_of_some _ e) (Nat.le_refl _) (new _ _)
  have k3 : ∀ b o, s2.heap.get? b = some o → s3.heap.get? b = some o := fun b o e => by
    rw [e3]
    exact Heap.get?_push_of_some _ e
  have o3 : ∀ b ∈ fp, FpOk X pins (upd H2 s2.heap.objs.size (no s2.heap.objs.size)) b ∧ b < s3.heap.objs.size := fun b hb => by
    obtain ⟨o, e, _⟩ := T.obj _ _ t2 b hb
    have lt := Heap.lt_size e
    obtain ⟨n, r⟩ := o2 b hb
    refine ⟨⟨?_, r⟩, Heap.lt_size (k3 b o e)⟩
    rw [upd_ne (Nat.ne_of_lt lt)]
    exact n
  have B := block_start I3 ok hN o3
  show codeAny _ _ (.compStart _ 0 (.ref it) (.ref s2.heap.objs.size) (compEnvC scope (cellsFrom ((s2.heap.push (newSetO X.w)).objs.size + 1) scope.names (cloFrom X.env.cells scope.names [])) (s2.heap.push (newSetO X.w)).objs.size X.env)) _ { s2 with heap := pushCells ((s2.heap.push (newSetO X.w)).push { cls := .type "dict", data := .dict #[] }) scope.names }
  have h3 : s3.heap = s2.heap.push (newSetO X.w) := by rw [e3]
  rw [show ({ s2 with heap := pushCells ((s2.heap.push (newSetO X.w)).push { cls := .type "dict", data := .dict #[] }) scope.names } : Shared) = { s3 with heap := pushCells (s3.heap.push { cls := .type "dict", data := .dict #[] }) scope.names } by rw [e3], ← h3]
  have t4 : tn 0 (pushCells (s3.heap.push { cls := .type "dict", data := .dict #[] }) scope.names) := T.keep _ _ _ t2 fun b _ o e => pushCells_keeps _ _ _ _ (Heap.get?_push_of_some _ (k3 b o e))
  have L := scG_loop (iter := iter) (C := s3.heap.objs.size) (pos := pos) (Qd := Q (.ref s2.heap.objs.size)) (R := compPost (model X.prog X.w) X.A X.xe none (EP X pins σ Q) (.ref s2.heap.objs.size) s3.heap.objs.size) cal I3 (fun b hb => (o3 b hb).1) rfl (Nat.le_refl _) T (ad _) (rg s3 _ s3.heap.objs.size _ fp) (rt s3 _ s3.heap.objs.size _ fp) (re s3 _ s3.heap.objs.size _ fp) W each (fun y m G Iy qd ns f => ⟨m, ns, fun h' sb => ?_⟩) B t4 w0
  · exact PpSet.codeAny_compStart_set L (T.self X.A 0 _ _ _ t4 L)
  · obtain ⟨f0, f1, _, f3, f4, f5⟩ := f
    exact ⟨.ref s2.heap.objs.size, G, Iy.turned (t' := y.toks) (fun b o hb e => (sb.2 b hb).trans e) f0 f1 f3 f4 f5, rfl, qd⟩
/-! ### sets of texts -/
def TxO (P : Program) (w : World) (a : Addr) (l : List Str) : HO := .ext fun h => TxSet P w h a l
theorem txO_new {P : Program} {w : World} {H : Hp} {h : Heap} {a : Addr} {l : List Str} (r : TxSet P w h a l) : ObjOk P w H h a (TxO P w a l) := by
  have ⟨o, _, _, _, ho, _⟩ := r
  exact ⟨r, ⟨o, ho⟩, fun h1 h2 p k => TxSet.keep p k⟩
theorem txO_fresh (P : Program) (w : World) (H : Hp) (h : Heap) : ObjOk P w H (h.push (newSetO w)) h.objs.size (TxO P w h.objs.size []) := txO_new fresh_tx
/-- D.add(x) -/
def AddT (P : Program) (w : World) (D : Addr) : V → Hp → (Hp → Prop) → Prop := fun y G Nx => ∃ (x : Str) (l : List Str), y = .str x ∧ G D = some (TxO P w D l) ∧ l.length + 1 < scanBound ∧ Nx (upd G D (TxO P w D (l ++ [x])))
theorem addsT (P : Program) (w : World) (D : Addr) : Adds P w D (AddT P w D) := by
  rintro Y ps τ G z y u Nx eP ew I r ⟨x, l, rfl, hD, hl, nx⟩
  obtain ⟨tk, rfl⟩ := r
  subst eP ew
  have S : TxSet Y.prog Y.w z.heap D l := (I.hok D _ hD).1
  have ⟨o, es, ep, t, ho, ex, _⟩ := S
  refine wpAny_call_entry PySem.F.slot_set_add ⟨o, ho, ex.1⟩ PySem.F.entry_set_add ?_ (PySem.F.args_set_add_2 _ _)
  unfold Builtin.«set.add» Builtin.Frozenset.oneOther
  simp only [List.isEmpty_nil, bind_assoc]
  unfold Builtin.Frozenset.addrOf setAdd
  refine wpAny_bind (wpAny_pure ?_)
  try dsimp only
  refine wpAny_bind (wpAny_pure ?_)
  try dsimp only
  refine wpAny_bind (wpAny_holding (wpAny_bind ((PySem.strKind Y.prog Y.w).pyHash (strKind_is Y.prog Y.w x tk) ?_)))
  have room : (nubS l).length + 1 < scanBound := by
    have := len_nubS l
    omega
  refine tx_add (s := { z with toks := z.toks + 1 }) S room fun b h' sb r => ?_
  show wpAny _ _ (ret Value.none) _ _ _
  refine wpAny_pure ⟨_, rfl, upd G D (TxO Y.prog Y.w D (l ++ [x])), I.write (e := D) (t' := z.toks + 1) (by rw [hD]; trivial) (.inl rfl) (fun c v hc hv => (sb.2 c hc).trans hv) ?_ (txO_new r), nx⟩
  have ⟨o', _, _, _, ho', _⟩ := r
  exact ⟨o', ho'⟩
/-- sorted(s), s a set of texts -/
def rSortTx (P : Program) (w : World) : List V → Hp → VK → Prop := fun vs H Q => ∃ (a : Addr) (l : List Str), vs = [.ref a] ∧ H a = some (TxO P w a l) ∧ ∀ (ss : List Str) (p : Addr), sortedS ss = true → ss.Nodup → (∀ y, y ∈ ss ↔ y ∈ l) → H p = none → Q (.ref p) (upd H p (.lst (ss.map V.str)))
theorem cr_sortTx {X : Cx} (hc : X.calm = true) : CallR X (.builtin "sorted") (rSortTx X.prog X.w) := by
  intro pins s σ H vs us Q I r h
  obtain ⟨a, l, rfl, ha, q⟩ := h
  rw [Vals.ref1 r]
  have S : TxSet X.prog X.w s.heap a l := (I.hok a _ ha).1
  refine sorted_tx S (I.ok.hd hc) fun s2 p out c ss k1 g1 o1 z1 hc2 st sr nn mm ln => ?_
  have zl : (ss.map V.str).length ≤ sizeLine := by rw [List.length_map]; exact ln
  have hn : H p = none := I.hok.fresh z1
  have J : Inv X pins σ (upd H p (.lst (ss.map V.str))) s2 := I.call' (ch := []) o1 (Un.laid k1 z1 hn) (I.hok.laid k1 z1 ⟨zl, out.toList, c, vals_strs st, hc2⟩) (by rw [g1]; exact I.bare) fun _ z => nomatch z
  exact ⟨.ref p, _, J, rfl, q ss p sr nn mm hn⟩
end Pl

set_option maxRecDepth 100000
set_option maxHeartbeats 4000000
namespace Pl
open PySem PySem.Spec PyProof.Rows L2 Fx
open PySem.W (Frag)
/-! ### texts in order, each once -/
def strs? : List D → Option (List SS)
  | [] => some []
  | .str x :: r => (strs? r).map (x :: ·)
  | _ :: _ => none
theorem strs_eq : ∀ {ds : List D} {xs : List SS}, strs? ds = some xs → ds = xs.map D.str
  | [], xs, h => by cases h; rfl
  | .str x :: r, xs, h => by
    simp only [strs?, Option.map_eq_some_iff] at h
    obtain ⟨ys, h1, rfl⟩ := h
    rw [strs_eq h1]
    rfl
  | .non :: _, _, h => by cases h
  | .bl _ :: _, _, h => by cases h
  | .int _ :: _, _, h => by cases h
  | .lst _ :: _, _, h => by cases h
  | .tup _ :: _, _, h => by cases h
  | .dic _ _ :: _, _, h => by cases h
  | .code _ _ _ :: _, _, h => by cases h
  | .adr _ :: _, _, h => by cases h
  | .exv _ _ :: _, _, h => by cases h
theorem strs_map (xs : List SS) : strs? (xs.map D.str) = some xs := by
  induction xs with
  | nil => rfl
  | cons x xs ih => simp [strs?, ih]
theorem strs_app {as bs : List D} {xs ys : List SS} (h : strs? as = some xs) (g : strs? bs = some ys) : strs? (as ++ bs) = some (xs ++ ys) := by
  rw [strs_eq h, strs_eq g, ← List.map_append, strs_map]
theorem strs_pre {as bs : List D} {zs : List SS} (h : strs? (as ++ bs) = some zs) : ∃ xs, strs? as = some xs := by
  have e := strs_eq h
  refine ⟨zs.take as.length, ?_⟩
  have q : as = (zs.take as.length).map D.str := by
    rw [List.map_take, ← e]
    simp
  rw [q, strs_map]
  congr 1
  simp
theorem RA.strs {M : MC} {H : Hp} : ∀ {vs : List V} {xs : List SS}, RA M H vs (xs.map D.str) → vs = xs.map (fun x => V.str (x.val M)) ∧ ∀ x ∈ xs, x.inr M ∧ PyData.strOk (x.val M) = true
  | vs, [], h => by
    cases h
    exact ⟨rfl, fun x h => by simp at h⟩
  | vs, x :: xs, h => by
    cases h with
    | cons h t =>
      obtain ⟨rfl, i, o⟩ := R.str_inv h
      obtain ⟨e, k⟩ := RA.strs t
      rw [e]
      refine ⟨rfl, fun y hy => ?_⟩
      rcases List.mem_cons.mp hy with rfl | hy
      · exact ⟨i, o⟩
      · exact k y hy
theorem RA.ofStrs {M : MC} {H : Hp} : ∀ {xs : List SS}, (∀ x ∈ xs, x.inr M ∧ PyData.strOk (x.val M) = true) → RA M H (xs.map fun x => V.str (x.val M)) (xs.map D.str)
  | [], _ => .nil
  | x :: xs, h => .cons (R.ofS (h x (List.mem_cons_self ..)).1 (h x (List.mem_cons_self ..)).2) (RA.ofStrs fun y hy => h y (List.mem_cons_of_mem _ hy))
def leSS (a b : SS) : Bool := match SS.lt? b a with
  | some r => !r
  | none => false
def nubSS : List SS → List SS
  | [] => []
  | x :: xs => if x ∈ xs then nubSS xs else x :: nubSS xs
def ascSS : List SS → Bool
  | [] => true
  | [_] => true
  | a :: b :: r => decide (SS.lt? a b = some true) && ascSS (b :: r)
/-- the texts in order, each once: looked over -/
def sortN (xs : List SS) : Option (List SS) :=
  let rs := isortS leSS (nubSS xs)
  if ascSS rs = true ∧ (rs.all fun r => decide (r ∈ xs)) = true ∧ (xs.all fun x => decide (x ∈ rs)) = true then some rs else none
theorem sortN_spec {xs rs : List SS} (h : sortN xs = some rs) : ascSS rs = true ∧ ∀ x, x ∈ rs ↔ x ∈ xs := by
  unfold sortN at h
  dsimp only at h
  split at h
  · rename_i c
    cases h
    exact ⟨c.1, fun x => ⟨fun hx => of_decide_eq_true (List.all_eq_true.mp c.2.1 x hx), fun hx => of_decide_eq_true (List.all_eq_true.mp c.2.2 x hx)⟩⟩
  · cases h
theorem asc_map {M : MC} (ok : MOk M) : ∀ {rs : List SS}, (∀ x ∈ rs, x.inr M) → ascSS rs = true → ascS (rs.map (·.val M)) = true
  | [], _, _ => rfl
  | [_], _, _ => rfl
  | a :: b :: r, hi, h => by
    obtain ⟨h1, h2⟩ := Bool.and_eq_true_iff.mp (show (decide (SS.lt? a b = some true) && ascSS (b :: r)) = true from h)
    have q := lt?_val ok (hi a (List.mem_cons_self ..)) (hi b (by simp)) (of_decide_eq_true h1)
    show (ltS (a.val M) (b.val M) && ascS ((b :: r).map (·.val M))) = true
    rw [asc_map ok (fun x hx => hi x (List.mem_cons_of_mem _ hx)) h2]
    unfold ltS
    rw [q]
    rfl
theorem asc_head : ∀ {l : List Str} {a : Str}, ascS (a :: l) = true → ∀ x ∈ l, a.cps.toList < x.cps.toList
  | b :: r, a, h, x, hx => by
    obtain ⟨h1, h2⟩ := Bool.and_eq_true_iff.mp (show (ltS a b && ascS (b :: r)) = true from h)
    have l1 : a.cps.toList < b.cps.toList := of_decide_eq_true h1
    rcases List.mem_cons.mp hx with rfl | hx
    · exact l1
    · exact List.lt_trans l1 (asc_head h2 x hx)
theorem asc_tail {l : List Str} {a : Str} (h : ascS (a :: l) = true) : ascS l = true := by
  cases l with
  | nil => rfl
  | cons b r => exact (Bool.and_eq_true_iff.mp (show (ltS a b && ascS (b :: r)) = true from h)).2
theorem asc_uniq : ∀ {l m : List Str}, ascS l = true → ascS m = true → (∀ x, x ∈ l ↔ x ∈ m) → l = m
  | [], [], _, _, _ => rfl
  | [], b :: m, _, _, h => absurd ((h b).mpr (List.mem_cons_self ..)) (by simp)
  | a :: l, [], _, _, h => absurd ((h a).mp (List.mem_cons_self ..)) (by simp)
  | a :: l, b :: m, hl, hm, h => by
    have e : a = b := by
      rcases List.mem_cons.mp ((h a).mp (List.mem_cons_self ..)) with e | h1
      · exact e
      · rcases List.mem_cons.mp ((h b).mpr (List.mem_cons_self ..)) with e | h2
        · exact e.symm
        · exact absurd (List.lt_trans (asc_head hm a h1) (asc_head hl b h2)) (List.lt_irrefl _)
    subst e
    congr 1
    refine asc_uniq (asc_tail hl) (asc_tail hm) fun x => ?_
    have q := h x
    have no1 : ∀ {k : List Str}, ascS (a :: k) = true → a ∉ k := fun hk z => absurd (asc_head hk a z) (List.lt_irrefl _)
    constructor
    · intro hx
      refine (List.mem_cons.mp (q.mp (List.mem_cons_of_mem _ hx))).resolve_left fun z => ?_
      exact no1 hl (z ▸ hx)
    · intro hx
      refine (List.mem_cons.mp (q.mpr (List.mem_cons_of_mem _ hx))).resolve_left fun z => ?_
      exact no1 hm (z ▸ hx)
/-- what a sorted set comes to -/
theorem sortN_val {M : MC} (ok : MOk M) {xs rs : List SS} {ss : List Str} (hi : ∀ x ∈ xs, x.inr M) (h : sortN xs = some rs) (sr : sortedS ss = true) (nd : ss.Nodup) (mm : ∀ y, y ∈ ss ↔ y ∈ xs.map (·.val M)) : ss = rs.map (·.val M) := by
  obtain ⟨h1, h2⟩ := sortN_spec h
  refine asc_uniq (asc_of_sorted sr nd) (asc_map ok (fun x hx => hi x ((h2 x).mp hx)) h1) fun y => ?_
  rw [mm y]
  simp only [List.mem_map]
  exact ⟨fun ⟨x, hx, e⟩ => ⟨x, (h2 x).mpr hx, e⟩, fun ⟨x, hx, e⟩ => ⟨x, (h2 x).mp hx, e⟩⟩
def sortND (ds : List D) : Option D := (strs? ds).bind fun xs => (sortN xs).map fun rs => .lst (rs.map D.str)
end Pl

set_option maxRecDepth 100000
set_option maxHeartbeats 4000000
namespace Pl
open PySem PySem.Spec PyProof.Rows L2 Fx
open PySem.W (Frag)
/-! ### sorted({..}) of texts -/
/-- a heap full of one object -/
theorem full_heap (o : Obj) (hf : o.isFreed = false) : ∀ n : Nat, ∃ h : Heap, h.objs.size = n ∧ ∀ b, b < n → h.get? b = some o
  | 0 => ⟨⟨#[], {}⟩, rfl, fun b hb => absurd hb (Nat.not_lt_zero _)⟩
  | n + 1 => by
    obtain ⟨h, hs, hg⟩ := full_heap o hf n
    refine ⟨h.push o, by rw [Heap.size_push, hs], fun b hb => ?_⟩
    by_cases c : b < n
    · exact Heap.get?_push_of_some _ (hg b c)
    · have e : b = h.objs.size := by omega
      rw [e]
      exact Heap.get?_push_size _ hf
theorem txO_code {P : Program} {w : World} {D : Addr} {l : List Str} (c : Addr) (q : Str) : TxO P w D l ≠ LamX.CodeO c q := fun z => by
  unfold TxO LamX.CodeO at z
  injection z with z
  obtain ⟨h, hs, hg⟩ := full_heap { cls := .none, data := .fields #[.none, .str q 0] } rfl (D + c + 1)
  have hc : ∃ (oc : Obj) (vs : Array Value) (t : Tok), h.get? c = some oc ∧ oc.data = .fields vs ∧ vs[1]? = some (.str q t) := ⟨_, _, 0, hg c (by omega), rfl, rfl⟩
  have hx : TxSet P w h D l := by
    rw [congrFun z h]
    exact hc
  obtain ⟨o, es, ep, t, e1, _, e3, _⟩ := hx
  rw [hg D (by omega)] at e1
  cases e1
  cases e3
theorem txO_tbl {P : Program} {w : World} {D : Addr} {l : List Str} : ∀ ps, TxO P w D l ≠ .tbl ps := fun ps z => by
  unfold TxO at z
  cases z
/-- the same for any object that is neither a table nor a code object -/
theorem backG {T : List (Addr × Str)} {F1 H1 Fi Hi F4 H4 : Hp} {D : Addr} {o : HO} (hD : H1 D = none) (xe : Ex T F1 H1 Fi Hi) (n : Hi D = none) (e : Ex T Fi (upd Hi D o) F4 H4) (n1 : ∀ ps, o ≠ .tbl ps) (n2 : ∀ c q, o ≠ LamX.CodeO c q) : ∃ H5, H4 = upd H5 D o ∧ Ex T F1 H1 F4 H5 ∧ H5 D = none := by
  have hasD : Has (upd Hi D o) D := ⟨o, upd_same, n1⟩
  have h4 : H4 D = some o := e.h _ _ upd_same n1
  have f4 : F4 D = none := e.n D (xe.s.free n) hasD
  refine ⟨fun a => if a = D then none else H4 a, ?_, ⟨xe.f.trans e.f, fun a u q nt => ?_, ⟨fun a u q => ?_, e.s.nt, tabs_keepG e.s.tb h4 n1 n2 fun b hb => if_neg hb⟩, fun a q1 q2 => ?_⟩, if_pos rfl⟩
  · funext a
    by_cases c : a = D
    · subst c
      rw [upd_same]
      exact h4
    · rw [upd_ne c]
      exact (if_neg c).symm
  · have c : a ≠ D := ne_of_none q hD
    refine (if_neg c).trans (e.h _ _ ?_ nt)
    rw [upd_ne c]
    exact xe.h _ _ q nt
  · have c : a ≠ D := ne_of_none q f4
    exact (if_neg c).trans (e.s.s _ _ q)
  · have c : a ≠ D := fun z => by
      obtain ⟨u, q, _⟩ := q2
      rw [z, hD] at q
      cases q
    have q3 : Has (upd Hi D o) a := by
      obtain ⟨u, q, t⟩ := q2.ext xe.h
      exact ⟨u, by rw [upd_ne c]; exact q, t⟩
    exact e.n a (xe.n a q1 q2) q3
def gSortSc (b : En → D → Option En) (gt : En → Oc Bool) (ge : En → Oc D) (vs : List Nat) (gi : En → Oc (List D)) : En → Oc D := fun en => (gi en).bind fun ds => if ds.length ≤ 1000 then .of ((lcD b gt ge (wipeE en vs) ds).bind sortND) else .bad
def oneD (gt : En → Oc Bool) (ge : En → Oc D) (en' : En) : Option (List D) := match gt en' with
  | .ok true => (match ge en' with
    | .ok y => some [y]
    | _ => none)
  | .ok false => some []
  | _ => none
theorem lcD_one {b : En → D → Option En} {gt : En → Oc Bool} {ge : En → Oc D} {en en' : En} {d : D} (h : b en d = some en') : lcD b gt ge en [d] = oneD gt ge en' := by
  unfold oneD
  simp only [lcD, h, Option.bind_some]
  cases gt en' with
  | ok t =>
    cases t with
    | false => rfl
    | true => cases ge en' <;> rfl
  | _ => rfl
section
variable {X : Cx} {M : MC} {E : XK}
theorem sc_up {b : En → D → Option En} {sl vs : List Nat} {gt : En → Oc Bool} {ge : En → Oc D} {gi : En → Oc (List D)} (ok : MOk M) (hsl : ∀ j ∈ sl, j ∈ vs) (σ : L2.St) (H : Hp) (Q : VK) (h : tP M E (gSortSc b gt ge vs gi) σ H Q) :
    tScG (fun D => TxO X.prog X.w D []) (AddT X.prog X.w) (tPI M E gi) (tPG M b sl) (tPT M NoX gt) (tP M NoX ge) vs σ H fun x H1 => rSortTx X.prog X.w [x] H1 Q := by
  obtain ⟨F, en, s, r, p⟩ := h
  refine ⟨F, en, s, r, Post.bd p fun J ds F1 H1 e1 w p1 D hD => ?_⟩
  have r1 := r.ext e1.f
  split at p1
  · rename_i c
    cases z : lcD b gt ge (wipeE en vs) ds with
    | none =>
      rw [z] at p1
      exact p1.elim
    | some out =>
      rw [z] at p1
      have p1 : Post M E (R M) F1 H1 Q (.of (sortND out)) := p1
      unfold sortND at p1
      cases zs : strs? out with
      | none => rw [zs] at p1; exact p1.elim
      | some xs =>
        rw [zs] at p1
        simp only [Option.bind_some] at p1
        cases zr : sortN xs with
        | none => rw [zr] at p1; exact p1.elim
        | some rs =>
          rw [zr] at p1
          have p1 : Post M E (R M) F1 H1 Q (.ok (.lst (rs.map Pl.D.str))) := p1
          obtain ⟨G, hG, w⟩ := w
          have fD : F1 D = none := e1.s.free hD
          have sb : 1002 < scanBound := by decide
          refine ⟨fun i m H2 => m = ds.length - i ∧ i ≤ ds.length ∧ ∃ Fi Hi acc xi, H2 = upd Hi D (TxO X.prog X.w D (xi.map (·.val M))) ∧ Ex M.T F1 H1 Fi Hi ∧ Hi D = none ∧ lcD b gt ge (wipeE en vs) (ds.take i) = some acc ∧ strs? acc = some xi ∧ (∀ x ∈ xi, x.inr M ∧ PyData.strOk (x.val M) = true), ⟨ds.length, rfl, Nat.zero_le _, F1, H1, [], [], rfl, Ex.refl e1.s, hD, by rw [List.take_zero]; rfl, rfl, fun x hx => by simp at hx⟩, ?_⟩
          rintro i m H2 ⟨rfl, hi, Fi, Hi, acc, xi, rfl, xe, n, ea, es, okx⟩
          have hGi : G (upd Hi D (TxO X.prog X.w D (xi.map (·.val M)))) := hG _ (sNew (xe.f.trans xe.s.s) n)
          by_cases hlt : i < ds.length
          · refine .inr ⟨w.goes i _ hlt hGi, fun H3 => ∃ Fi Hi acc xi, H3 = upd Hi D (TxO X.prog X.w D (xi.map (·.val M))) ∧ Ex M.T F1 H1 Fi Hi ∧ Hi D = none ∧ lcD b gt ge (wipeE en vs) (ds.take (i + 1)) = some acc ∧ strs? acc = some xi ∧ (∀ x ∈ xi, x.inr M ∧ PyData.strOk (x.val M) = true), fun H' k => ⟨ds.length - (i + 1), by omega, rfl, hlt, k⟩, fun x H3 y => ?_⟩
            obtain ⟨F3, d, e3, ed, rd⟩ := w.yields i _ x H3 hlt hGi y Fi xe.f (xe.s.up n)
            have nt : ∀ ps, TxO X.prog X.w D (xi.map (·.val M)) ≠ .tbl ps := txO_tbl
            have H3D : H3 D = some (TxO X.prog X.w D (xi.map (·.val M))) := e3.h _ _ upd_same nt
            have zz := z
            rw [split_at ed, lcD_snoc, ea] at zz
            simp only [Option.bind_some, lcD] at zz
            have rw' : REn M F3 (L2.wipe σ vs) (wipeE en vs) := ((r1.wipe vs).ext xe.f).ext e3.f
            cases zb : b (wipeE en vs) d with
            | none => rw [zb] at zz; cases zz
            | some en' =>
              rw [zb] at zz
              simp only [Option.bind_some] at zz
              have step : lcD b gt ge (wipeE en vs) (ds.take (i + 1)) = (lcD b gt ge (wipeE en vs) [d]).map (acc ++ ·) := by
                rw [take_at ed, lcD_snoc, ea]
                rfl
              have one := lcD_one (gt := gt) (ge := ge) zb
              refine ⟨F3, wipeE en vs, d, en', e3.s, rw', rd, zb, fun σ' l' q' o' => ⟨(wipe_congr l' fun j hj => o' j fun z => hj (hsl j z)).trans wipe_wipe, F3, en', e3.s, q', ?_⟩⟩
              have back : ∀ {F4 H4 : Hp}, Ex M.T F3 H3 F4 H4 → ∃ H5, H4 = upd H5 D (TxO X.prog X.w D (xi.map (·.val M))) ∧ Ex M.T F1 H1 F4 H5 ∧ H5 D = none := fun {F4 H4} e4 => backG hD xe n (e3.trans e4) nt txO_code
              cases zt : gt en' with
              | bad => rw [zt] at zz; cases zz
              | exc c d' => rw [zt] at zz; cases zz
              | ok t =>
                refine fun t' F4 H4 e4 et => ?_
                subst et
                cases t' with
                | false =>
                  rw [if_neg (by decide)]
                  obtain ⟨H5, g1, g2, g3⟩ := back e4
                  unfold oneD at one
                  rw [zt] at one
                  refine ⟨F4, H5, acc, xi, g1, g2, g3, ?_, es, okx⟩
                  rw [step, one]
                  simp
                | true =>
                  rw [if_pos rfl]
                  refine ⟨F4, en', e4.s, q'.ext e4.f, ?_⟩
                  cases ze : ge en' with
                  | bad => rw [zt, ze] at zz; cases zz
                  | exc c d' => rw [zt, ze] at zz; cases zz
                  | ok y =>
                    refine fun u F6 H6 e6 ru => ?_
                    obtain ⟨H5, g1, g2, g3⟩ := back (e4.trans e6)
                    unfold oneD at one
                    rw [zt, ze] at one zz
                    have h6 : H6 D = some (TxO X.prog X.w D (xi.map (·.val M))) := by rw [g1, upd_same]
                    -- y is a text
                    have zs2 := zs
                    cases zl : lcD b gt ge (wipeE en vs) (ds.drop (i + 1)) with
                    | none => rw [zl] at zz; cases zz
                    | some l2 =>
                      rw [zl] at zz
                      have eo : out = (acc ++ [y]) ++ l2 := by
                        have q := Option.some.inj zz
                        rw [← q]
                        simp
                      rw [eo] at zs2
                      obtain ⟨ws, hw⟩ := strs_pre zs2
                      have ew := strs_eq hw
                      have el := strs_eq es
                      rw [el] at ew
                      have ly : ∃ t, y = Pl.D.str t ∧ ws = xi ++ [t] := by
                        have hlen : ws.length = xi.length + 1 := by
                          have q := congrArg List.length ew
                          simpa using q.symm
                        obtain ⟨a, t, rfl⟩ : ∃ a t, ws = a ++ [t] := by
                          rcases List.eq_nil_or_concat ws with e | ⟨a, t, e⟩
                          · rw [e] at hlen
                            simp at hlen
                          · exact ⟨a, t, by rw [e]; simp⟩
                        have q : xi.map Pl.D.str ++ [y] = a.map Pl.D.str ++ [Pl.D.str t] := by
                          rw [ew]
                          simp
                        obtain ⟨q1, q2⟩ := List.append_inj' q rfl
                        refine ⟨t, by simpa using q2, ?_⟩
                        have q3 : strs? (xi.map Pl.D.str) = strs? (a.map Pl.D.str) := by rw [q1]
                        rw [strs_map, strs_map] at q3
                        rw [Option.some.inj q3]
                      obtain ⟨t, rfl, rfl⟩ := ly
                      obtain ⟨rfl, it, ot⟩ := ru.str_inv
                      have la : xi.length ≤ i := by
                        have q := lcD_len ea
                        rw [List.length_take] at q
                        have q2 := congrArg List.length el
                        rw [List.length_map] at q2
                        omega
                      refine ⟨t.val M, xi.map (·.val M), rfl, h6, by rw [List.length_map]; omega, F6, H5, acc ++ [.str t], xi ++ [t], ?_, g2, g3, ?_, hw, fun x hx => ?_⟩
                      · rw [g1, upd_upd]
                        simp
                      · rw [step, one]
                        rfl
                      · rcases List.mem_append.mp hx with hx | hx
                        · exact okx x hx
                        · rw [List.mem_singleton.mp hx]
                          exact ⟨it, ot⟩
          · have e : i = ds.length := by omega
            subst e
            rw [List.take_length, z] at ea
            cases ea
            rw [zs] at es
            cases es
            refine .inl ⟨w.stops _ hGi, D, xs.map (·.val M), rfl, upd_same, fun ss pp sr nd mm hpp => ?_⟩
            rw [sortN_val ok (fun x hx => (okx x hx).1) zr sr nd mm]
            -- behind it the set is no longer told
            have ex2 : Ex M.T Fi Hi Fi (upd Hi D (TxO X.prog X.w D (xs.map (·.val M)))) := Ex.junk xe.s (sNew (Same.refl Hi) n)
            have x3 := xe.trans ex2
            have rr : RA M Fi ((rs.map (·.val M)).map V.str) (rs.map Pl.D.str) := by
              have q := RA.ofStrs (M := M) (H := Fi) (xs := rs) fun x hx => okx x ((sortN_spec zr).2 x |>.mp hx)
              rw [List.map_map]
              exact q
            exact Post.newL (Post.later p1 x3) x3.s rr hpp
  · exact p1.elim
theorem d_sortSc {elt tg iter : Expr} {ifs : List Expr} {scope : Scope} {own : List (Str × Nat)} {spos p pos : Pos} {b : En → D → Option En} {sl : List Nat} {gt : En → Oc Bool} {ge : En → Oc D} {gi : En → Oc (List D)} (ok : MOk M) (hm : X.mg "sorted" = none) (hc : X.calm = true) (hN : X.N.Nodup) (hi : PI X tg iter (tPI M E gi)) (bok : BlkOk X.N X.env.scope scope own)
    (hg : ∀ (s : Shared) (H : Hp) (C : Addr) (cl : List (Str × Addr)) (fp : List Addr), PG (X.blk s H scope (compEnvC scope cl C X.env) fp) tg (tPG M b sl)) (ht : ∀ (s : Shared) (H : Hp) (C : Addr) (cl : List (Str × Addr)) (fp : List Addr), PTs (X.blk s H scope (compEnvC scope cl C X.env) fp) ifs (tPT M NoX gt))
    (he : ∀ (s : Shared) (H : Hp) (C : Addr) (cl : List (Str × Addr)) (fp : List Addr), PE (X.blk s H scope (compEnvC scope cl C X.env) fp) elt (tP M NoX ge)) (hsl : ∀ j ∈ sl, j ∈ own.map (·.2)) (hgl : Gl X "sorted" := by rfl) (hs : ∀ x, foldedSetIterable iter X.env x = pure x := by intro _; rfl) :
    PE X (.Call (.Name "sorted" p) [.SetComp elt [⟨tg, iter, ifs, 0⟩] scope spos] [] pos) (tP M E (gSortSc b gt ge (own.map (·.2)) gi)) :=
  PEup (pe_callB (cr_sortTx hc) hgl hm (show bootBuiltins "sorted" = some (.builtin "sorted") by decide +kernel) (pa_cons (pe_scG (no := fun D => TxO X.prog X.w D []) (Add := AddT X.prog X.w) hc hN hi bok hg ht he (fun H h => txO_fresh _ _ H h) (fun D => addsT _ _ D) hs) pa_nil)) (sc_up ok hsl)
end
end Pl

set_option maxRecDepth 100000
set_option maxHeartbeats 4000000
namespace Pl
open PySem PySem.Spec PyProof.Rows L2 Fx
open PySem.W (Frag)
section
variable {X : Cx} {M : MC} {E : XK} {pos : Pos} {F0 H0 G B H H1 F1 : Hp} {se : SE} {σ : L2.St}
/-! ### tg = xs.pop() -/
def qPopT (j : Nat) (b : En → Pl.D → Option En) (sl : List Nat) : SE → SR := fun se => match ow? se j with
  | some ds => if j ∉ sl then (match ds[ds.length - 1]? with
    | some d => bindE b sl d (se.set j (some (.ow ds.dropLast)))
    | none => .bad) else .bad
  | none => .bad
theorem RA.dropLast {F : Hp} {vs : List V} {ds : List Pl.D} (r : RA M F vs ds) : RA M F vs.dropLast ds.dropLast := by
  rw [List.dropLast_eq_take, List.dropLast_eq_take, r.len]
  exact r.take _
theorem enA_ow {i : Nat} {ds ds' : List Pl.D} (h : se[i]? = some (some (.ow ds))) : enA (se.set i (some (.ow ds'))) = enA se := by
  unfold Pl.enA
  refine List.ext_getElem? fun j => ?_
  rw [List.getElem?_map, List.getElem?_map]
  by_cases c : i = j
  · subst c
    rw [List.getElem?_set_self (lt_of_get h), h]
    rfl
  · rw [List.getElem?_set_ne c]
theorem s_popT {j : Nat} {x : Str} {tg : Expr} {b : En → Pl.D → Option En} {sl : List Nat} {p1 p2 p3 : Pos} (hN : X.N[j]? = some x) (hv : Vis X.env.scope x) (hg : PG X tg (tPG M b sl))
    (hbase : attributeBase (.Name x p1) "pop" X.env (eval (.Name x p1) X.env) = eval (.Name x p1) X.env := by rfl) (hline : (p2.endLine == p3.line) = true := by rfl)
    (hs : swapsWithSole [tg] (.Call (.Attribute (.Name x p1) "pop" p2) [] [] p3) pos.line X.env = pure false := by rfl) (hw : swappedStores [tg] (.Call (.Attribute (.Name x p1) "pop" p2) [] [] p3) X.env = pure none := by rfl)
    (h1 : (assignEach [tg] X.env).map (·.2) = [assign tg X.env] := by rfl) (hd : (x == ("__debug__" : Str)) = false := by decide) (hcd : (x == ("__classdict__" : Str)) = false := by decide) :
    PS X (.Assign [tg] (.Call (.Attribute (.Name x p1) "pop" p2) [] [] p3) pos) (tS M E (qPopT j b sl)) :=
  PSup (ps_asg (pe_bm0 PySem.F.plainAttrs_list PySem.F.slot_list_pop PySem.F.type_list_pop mt_pop (pe_var hN hv hd hcd) hbase hline) hg hs hw h1) fun D σ H ⟨F0, H0, G, B, se, r, p⟩ => by
    unfold qPopT at p
    split at p
    · rename_i ds z
      have z := ow?_eq z
      split at p
      · rename_i hj
        split at p
        · rename_i d hd
          obtain ⟨q, xs, a, b1, c, rx⟩ := r.own z
          obtain ⟨v, hv, rv⟩ := rx.at hd
          have r' := r.put (lt_of_get z) a (.inl ⟨_, z⟩) b1 (.inl ⟨_, rfl⟩) (s := .ow ds.dropLast) ⟨xs.dropLast, rfl, rx.dropLast⟩
          refine ⟨_, a, .inl ⟨rfl, xs, SqL.of c⟩, q, xs, v, rfl, rfl, c, by rw [rx.len]; exact hv, ?_⟩
          unfold bindE at p
          split at p
          · rename_i en ze
            exact ⟨_, enA (se.set j (some (.ow ds.dropLast))), d, en, r'.g.s, r'.enA, rv, ze, fun σ' l re ho => p _ _ _ _ (r'.merge l re ho)⟩
          · exact p.elim
        · exact p.elim
      · exact p.elim
    · exact p.elim
/-! ### xs[k] = v -/
def qLPut (i : Nat) (gk gv : En → Oc Pl.D) : SE → SR := fun se => match ow? se i with
  | some ds => ocS (useE gv se) fun v => ocS (useE gk se) fun k => (match k with
    | .int n => (match ixN ds.length n with
      | some j => .nx (se.set i (some (.ow (ds.set j v))))
      | none => .bad)
    | _ => .bad)
  | none => .bad
theorem RA.set {F : Hp} {v : V} {d : Pl.D} (rv : R M F v d) : ∀ {vs : List V} {ds : List Pl.D} (j : Nat), RA M F vs ds → RA M F (vs.set j v) (ds.set j d)
  | _, _, _, .nil => .nil
  | _, _, 0, .cons _ t => .cons rv t
  | _, _, j + 1, .cons r t => .cons r (RA.set rv j t)
theorem s_lput {i : Nat} {x : Str} {k v : Expr} {gk gv : En → Oc Pl.D} {p1 pos' : Pos} (hN : X.N[i]? = some x) (hv : Vis X.env.scope x) (hk : PE X k (tP M E gk)) (he : PE X v (tP M E gv)) (hs : swapsWithSole [.Subscript (.Name x p1) k pos'] v pos.line X.env = pure false := by rfl) (hw : swappedStores [.Subscript (.Name x p1) k pos'] v X.env = pure none := by rfl)
    (h1 : (assignEach [.Subscript (.Name x p1) k pos'] X.env).map (·.2) = [assign (.Subscript (.Name x p1) k pos') X.env] := by rfl)
    (hsub : ∀ v, assign (.Subscript (.Name x p1) k pos') X.env v = (do
      let ov ← holding [v] (eval (.Name x p1) X.env)
      let iv ← holding [v, ov] (eval k X.env)
      standAt pos'
      holding [v, ov, iv] (setItem ov iv v)
      release [v, ov, iv] []) := by intro _; rfl) (hd : (x == ("__debug__" : Str)) = false := by decide) (hcd : (x == ("__classdict__" : Str)) = false := by decide) : PS X (.Assign [.Subscript (.Name x p1) k pos'] v pos) (tS M E (qLPut i gk gv)) :=
  PSup (ps_asg he (pg_sub (pe_var hN hv hd hcd) hk set_list hsub) hs hw h1) fun D σ H ⟨F0, H0, G, B, se, r, p⟩ => by
    unfold qLPut at p
    split at p
    · rename_i ds z
      have z := ow?_eq z
      refine use_okS r (upE p fun d p x G1 H1 r1 s1 rx => ?_)
      obtain ⟨q, xs, a, _, _, _⟩ := r1.own z
      refine ⟨_, a, use_okS r1 (upE p fun kd p y G2 H2 r2 s2 ry => ?_)⟩
      obtain ⟨q', xs', a', b', c', rx'⟩ := r2.own z
      rw [a] at a'
      cases a'
      split at p
      · rename_i n
        cases ry
        split at p
        · rename_i j hj
          refine ⟨q, xs', n, j, rfl, rfl, c', by rw [rx'.len]; exact hj, ?_⟩
          exact p _ _ _ _ (r2.put (lt_of_get z) a (.inl ⟨_, z⟩) b' (.inl ⟨_, rfl⟩) ⟨xs'.set j x, rfl, rx'.set (rx.ext s2) j⟩)
        · exact p.elim
      · exact p.elim
    · exact p.elim
end
end Pl

set_option maxRecDepth 100000
set_option maxHeartbeats 4000000
namespace Pl
open PySem PySem.Spec PyProof.Rows L2 Fx
open PySem.W (Frag)
section
variable {X : Cx} {M : MC} {E : XK} {pos : Pos} {F0 H0 G B H H1 F1 : Hp} {se : SE} {σ : L2.St}
/-! ### {k: v} -/
def gDisp1 (gk gv : En → Oc Pl.D) : En → Oc (List Pl.D × List Pl.D) := fun en => (gk en).bind fun k => (gv en).bind fun v => if isKey k = true then .ok ([k], [v]) else .bad
theorem dd_disp1 {k v : Expr} {gk gv : En → Oc Pl.D} (hk : PE X k (tP M E gk)) (hv : PE X v (tP M E gv)) : PE X (.Dict [some k] [v] pos) (tPd M E (gDisp1 gk gv)) :=
  PEup (pe_disp (pps_cons hk hv pps_nil) rfl rfl (by simp) (by simp)) fun σ H Q ⟨F, en, s, r, p⟩ q hq => by
    have x0 : Ex M.T F H F (upd H q (.dK [])) := Ex.junk s (sNew (Same.refl H) hq)
    refine ⟨F, en, x0.s, r, ?_⟩
    unfold gDisp1 at p
    cases zk : gk en with
    | bad => rw [zk] at p; exact p.elim
    | exc c d =>
      rw [zk] at p
      exact fun y F' H' dx e ry n => p y F' H' dx (x0.trans e) ry n
    | ok a =>
      rw [zk] at p
      intro y F1 H1 e1 ry
      refine ⟨F1, en, e1.s, r.ext e1.f, ?_⟩
      simp only [Oc.bind] at p
      cases zv : gv en with
      | bad => rw [zv] at p; exact p.elim
      | exc c d =>
        rw [zv] at p
        exact fun w F' H' dx e rw' n => p w F' H' dx ((x0.trans e1).trans e) rw' n
      | ok b =>
        rw [zv] at p
        intro w F2 H2 e2 rw'
        simp only at p
        split at p
        · rename_i c
          obtain ⟨kk, rfl, rk⟩ := (ry.ext e2.f).key c
          obtain ⟨H5, g1, g2, g3⟩ := back_ hq (Ex.refl s) hq (e1.trans e2) (.inr ⟨_, rfl⟩)
          have h2 : H2 q = some (.dK []) := by rw [g1, upd_same]
          refine ⟨h2, [(kk, w)], rfl, by simp, ?_⟩
          have z := p q [(kk, w)] F2 H5 g2 g3 (.one rk) (.one rw')
          rw [g1, upd_upd]
          exact z
        · exact p.elim
/-! ### dict(d) -/
def gDCopy (g : En → Oc Pl.D) : En → Oc (List Pl.D × List Pl.D) := fun en => (g en).bind fun a => match a with
  | .dic ks vs => .ok (ks, vs)
  | _ => .bad
theorem dd_copy {x : Str} {e : Expr} {p : Pos} {g : En → Oc Pl.D} (hm : X.mg "dict" = none) (he : PE X e (tP M E g)) (hg : Gl X "dict" := by rfl)
    (hs : starEach [e] X.env = (false, eval e X.env) :: starEach [] X.env := by rfl) (hpl : (backTo pos (starEach [] X.env)).any (·.1) = false := by rfl) : PE X (.Call (.Name "dict" p) [e] [] pos) (tPd M E (gDCopy g)) :=
  PEup (pe_callTy call_dictD hg hm (show bootBuiltins "dict" = some (.type "dict") by decide +kernel) (pa_cons he pa_nil hs) (he := hs) (hpl := hpl)) fun σ H Q ⟨F, en, s, r, p⟩ => ⟨F, en, s, r, PostD.bd p fun y a F1 H1 e1 ry p1 => by
    cases ry with
    | @dic q kvs ks vs h1 h2 h3 => exact ⟨q, kvs, rfl, rd_same e1.s.s h1, fun w hw => p1 w kvs F1 H1 (Ex.refl e1.s) hw h2 h3⟩
    | _ => exact p1.elim⟩
/-! ### d[k] op= v -/
def getS (i : Nat) (k : Pl.D) (se : SE) : Option Pl.D := (od? se i).bind fun w => fDGet (.dic w.1 w.2) k
def qDAug (i : Nat) (f : Pl.D → Pl.D → Option Pl.D) (gk gv : En → Oc Pl.D) : SE → SR := fun se => if (od? se i).isSome = true then ocS (useE gk se) fun k => match getS i k se with
    | some a => ocS (useE gv se) fun b => (match f a b with
      | some d => putS i k d se
      | none => .bad)
    | none => .bad
  else .bad
theorem s_daug {i : Nat} {x : Str} {k v : Expr} {gk gv : En → Oc Pl.D} {p1 tpos : Pos} {op : Operator} {f : Pl.D → Pl.D → Option Pl.D} (ok : MOk M) (hu : X.A.units + 1 < cLine) (hN : X.N[i]? = some x) (hv : Vis X.env.scope x) (hk : PE X k (tP M E gk)) (he : PE X v (tP M E gv)) (ho : OpD X M (inplaceOp op) f)
    (ha : ∀ ov iv new, augStore k ov iv new = (do holding [new, ov, iv] (setItem ov iv new); release [new, ov, iv] []; pure .next) := by intro _ _ _; rfl) (hd : (x == ("__debug__" : Str)) = false := by decide) (hcd : (x == ("__classdict__" : Str)) = false := by decide) :
    PS X (.AugAssign (.Subscript (.Name x p1) k tpos) op v pos) (tS M E (qDAug i f gk gv)) :=
  PSup (ps_daug hu (pe_var hN hv hd hcd) hk he (rd := fun x y H Q => rD M (fun l => .of (l2 f l)) [x, y] H Q) ho ha) fun D σ H ⟨F0, H0, G, B, se, r, p⟩ => by
    unfold qDAug at p
    split at p
    · rename_i c
      obtain ⟨w, z⟩ := Option.isSome_iff_exists.mp c
      obtain ⟨q, kvs0, a1, b1, _⟩ := r.od i _ _ (od?_eq z)
      refine ⟨_, a1, use_okS r (upE p fun kd p y G1 H1 r1 s1 ry => ?_)⟩
      obtain ⟨q', kvs, a2, b2, c1, c2⟩ := r1.od i _ _ (od?_eq z)
      rw [a1] at a2
      cases a2
      split at p
      · rename_i a hga
        unfold getS at hga
        rw [z] at hga
        simp only [Option.bind_some, fDGet] at hga
        split at hga
        · rename_i ck
          obtain ⟨kk, rfl, rk⟩ := ry.key ck
          cases zl : lookD kd w.1 w.2 with
          | none => rw [zl] at hga; cases hga
          | some o =>
            rw [zl] at hga
            have hga : o = some a := hga
            subst hga
            obtain ⟨va, g1, g2⟩ := (lookD_val ok rk c1 c2 zl).2 a rfl
            refine ⟨q, va, rfl, ?_, use_okS r1 (upE p fun b p yv G2 H2 r2 s2 rb => ?_)⟩
            · rw [← g1]
              exact DGet.k (r1.b q _ b2).1
            · split at p
              · rename_i d hf
                refine ⟨G2, [a, b], d, r2.g.s, .two (g2.ext s2) rb, by show Oc.of (f a b) = _; rw [hf]; rfl, fun u F3 H3 x3 ru => ?_⟩
                have r3 := r2.more x3
                obtain ⟨q'', kvs3, a3, _, H4, h5, h6⟩ := putS_ok ok r3 ((rk.ext s2).ext x3.f) ru p
                rw [a1] at a3
                cases a3
                exact ⟨H4, h5, h6⟩
              · exact p.elim
        · cases hga
      · exact p.elim
    · exact p.elim
end
/-! ### len(set(xs)) of texts -/
def lenNubD (d : D) : Option D := match d with
  | .lst ds => (strs? ds).bind fun xs => if xs.length ≤ 1000 ∧ (xs.all fun a => xs.all fun b => (SS.eq? a b).isSome) = true then some (.int (nubSS xs).length) else none
  | _ => none
theorem nubSS_mem {x : SS} : ∀ {xs : List SS}, x ∈ nubSS xs ↔ x ∈ xs
  | [] => Iff.rfl
  | y :: ys => by
    unfold nubSS
    split
    · rename_i h
      rw [nubSS_mem, List.mem_cons]
      exact ⟨.inr, fun z => z.elim (fun z => z ▸ h) id⟩
    · rw [List.mem_cons, List.mem_cons, nubSS_mem]
theorem nubSS_nd : ∀ xs : List SS, (nubSS xs).Nodup
  | [] => List.nodup_nil
  | y :: ys => by
    unfold nubSS
    split
    · exact nubSS_nd ys
    · rename_i h
      exact List.nodup_cons.mpr ⟨fun z => h (nubSS_mem.mp z), nubSS_nd ys⟩
theorem eq?_eq {a b : SS} {r : Bool} (h : SS.eq? a b = some r) : r = decide (a = b) := by
  cases a with
  | lit x =>
    cases b with
    | lit y =>
      cases h
      by_cases c : x = y
      · subst c
        simp
      · have c1 : (x == y) = false := beq_eq_false_iff_ne.mpr c
        rw [c1, decide_eq_false]
        exact fun z => c (SS.lit.inj z)
    | atm j =>
      simp only [SS.eq?] at h
      split at h
      · cases h
      · cases h
        rw [decide_eq_false]
        exact fun z => nomatch z
  | atm i =>
    cases b with
    | lit y =>
      simp only [SS.eq?] at h
      split at h
      · cases h
      · cases h
        rw [decide_eq_false]
        exact fun z => nomatch z
    | atm j =>
      cases h
      by_cases c : i = j
      · subst c
        simp
      · have c1 : (i == j) = false := beq_eq_false_iff_ne.mpr c
        rw [c1, decide_eq_false]
        exact fun z => c (SS.atm.inj z)
theorem nub_len {M : MC} (ok : MOk M) {xs : List SS} (hi : ∀ x ∈ xs, x.inr M) (hc : (xs.all fun a => xs.all fun b => (SS.eq? a b).isSome) = true) : (nubS (xs.map (·.val M))).length = (nubSS xs).length := by
  have inj : ∀ a ∈ xs, ∀ b ∈ xs, a.val M = b.val M → a = b := fun a ha b hb e => by
    obtain ⟨r, hr⟩ := Option.isSome_iff_exists.mp (List.all_eq_true.mp (List.all_eq_true.mp hc a ha) b hb)
    have q := eq?_val ok (hi a ha) (hi b hb) hr
    rw [e, beq_self_eq_true, eq?_eq hr] at q
    exact of_decide_eq_true q.symm
  have n1 : (nubS (xs.map (·.val M))).Nodup := by
    unfold nubS
    have : ∀ (r acc : List Str), acc.Nodup → (r.foldl addS acc).Nodup := fun r => by
      induction r with
      | nil => exact fun acc h => h
      | cons b r ih =>
        intro acc hc
        refine ih _ ?_
        unfold addS
        split
        · exact hc
        · rename_i nb
          refine List.nodup_append.mpr ⟨hc, by simp, fun x hx y hy => ?_⟩
          rw [List.mem_singleton.mp hy]
          exact fun z => nb (z ▸ hx)
    exact this _ [] List.nodup_nil
  have n2 : ((nubSS xs).map (·.val M)).Nodup := by
    have key : ∀ l : List SS, (∀ x ∈ l, x ∈ xs) → l.Nodup → (l.map (·.val M)).Nodup := fun l => by
      induction l with
      | nil => exact fun _ _ => List.nodup_nil
      | cons a l ih =>
        intro hm hn
        obtain ⟨h1, h2⟩ := List.nodup_cons.mp hn
        rw [List.map_cons]
        refine List.nodup_cons.mpr ⟨fun z => ?_, ih (fun x hx => hm x (List.mem_cons_of_mem _ hx)) h2⟩
        obtain ⟨b, hb, e⟩ := List.mem_map.mp z
        exact h1 (inj b (hm b (List.mem_cons_of_mem _ hb)) a (hm a (List.mem_cons_self ..)) e ▸ hb)
    exact key _ (fun x hx => nubSS_mem.mp hx) (nubSS_nd xs)
  have pm : (nubS (xs.map (·.val M))).Perm ((nubSS xs).map (·.val M)) := (List.perm_ext_iff_of_nodup n1 n2).mpr fun y => by
    rw [mem_nubS, List.mem_map, List.mem_map]
    exact ⟨fun ⟨x, hx, e⟩ => ⟨x, nubSS_mem.mpr hx, e⟩, fun ⟨x, hx, e⟩ => ⟨x, nubSS_mem.mp hx, e⟩⟩
  rw [pm.length_eq, List.length_map]
theorem d_lenNub {X : Cx} {M : MC} {E : XK} {a : Expr} {p p2 q pos : Pos} {g : En → Oc D} (hK : M.K = X.K) (ok : MOk M) (hm : X.mg "len" = none) (hm2 : X.mg "set" = none) (ha : PE X a (tP M E g)) (hc : X.calm = true := by rfl) (hg : Gl X "len" := by rfl) (hg2 : Gl X "set" := by rfl)
    (na : starEach [a] X.env = (false, eval a X.env) :: starEach [] X.env := by rfl) : PE X (.Call (.Name "len" p) [.Call (.Name "set" p2) [a] [] q] [] pos) (tP M E (g1 lenNubD g)) :=
  PEup (pe_lenNub hg hm hg2 hm2 ha hc na) fun σ H Q ⟨F, en, s, r, p⟩ => ⟨F, en, s, r, Post.bd p fun x d F1 H1 e1 r1 p1 => by
    cases r1 with
    | @lst l vs ds h rs =>
      simp only [lenNubD] at p1
      cases z : strs? ds with
      | none => rw [z] at p1; exact p1.elim
      | some xs =>
        rw [z] at p1
        simp only [Option.bind_some] at p1
        split at p1
        · rename_i c
          rw [strs_eq z] at rs
          obtain ⟨rfl, k⟩ := rs.strs
          have sb : 1002 < scanBound := by decide
          refine ⟨l, xs.map (·.val M), rfl, ?_, by rw [List.length_map]; omega, ?_⟩
          · rw [List.map_map]
            exact SqL.of (e1.s.s _ _ h)
          · rw [nub_len ok (fun x hx => (k x hx).1) c.2]
            exact p1.pure e1.s (.int _)
        · exact p1.elim
    | _ => exact p1.elim⟩
end Pl

set_option maxRecDepth 100000
set_option maxHeartbeats 4000000
namespace Pl
open PySem PySem.Spec PyProof.Rows L2 Fx
open PySem.W (Frag)
/-! ### min(xs, default=d), xs a list of ints -/
def rMinDef (K : Frag) : List V → List V → Hp → VK → Prop := fun vs zs H Q => ∃ (a : Addr) (ns : List Int) (d : V), vs = [.ref a] ∧ zs = [d] ∧ SqL K H a (ns.map V.int) ∧ (ns = [] → Q d H) ∧ ∀ n r, ns = n :: r → Q (.int (r.foldl min n)) H
theorem cr_minDef {X : Cx} (hc : X.calm = true) (hu : X.A.units + 64 < cLine) : CallRK X (.builtin "min") [Str.ofString "default"] (rMinDef X.K) := by
  intro pins s σ H vs zs us ws Q I r rz h
  obtain ⟨a, ns, d, rfl, rfl, hq, q0, q1⟩ := h
  obtain ⟨its, rv, hl, _⟩ := I.list hq
  rw [Vals.ref1 r]
  obtain ⟨dv, rfl, rd⟩ := vals1 rz
  have ri : ReadsAll s.heap its.toArray.toList (ns.map .int) [] := rv.ints.reads s.heap
  refine PySem.W.min_list_default (I.ok.hd hc) hl.isList ri ⟨fun x hx y hy => ?_, fun x hx => ?_⟩ (by rw [PySem.W.depth_ints]; omega) (fun e h' tk k => ?_) fun y ys i v h' tk bs e hv rd' k => ?_
  · obtain ⟨n, _, rfl⟩ := List.mem_map.mp hx
    obtain ⟨m, _, rfl⟩ := List.mem_map.mp hy
    simp [PySem.W.alike]
  · obtain ⟨n, _, rfl⟩ := List.mem_map.mp hx
    simp
  · have e0 : ns = [] := List.map_eq_nil_iff.mp e
    exact ⟨d, H, I.kept k, rd, q0 e0⟩
  · cases ns with
    | nil => cases e
    | cons n ns =>
      cases e
      rw [PySem.W.minD_ints] at rd'
      cases rd'
      exact ⟨.int _, H, I.kept k, ⟨_, rfl⟩, q1 n ns rfl⟩
def minDefD (l : List D) (d : D) : Oc D := match l with
  | [.lst ds] => (match ints? ds with
    | some [] => .ok d
    | some (n :: r) => .ok (.int (r.foldl min n))
    | none => .bad)
  | _ => .bad
def gMinDef (gs : En → Oc (List D)) (gd : En → Oc D) : En → Oc D := fun en => (gs en).bind fun l => (gd en).bind (minDefD l)
theorem d_minDef {X : Cx} {M : MC} {E : XK} {p kpos pos : Pos} {e d : Expr} {gs : En → Oc (List D)} {gd : En → Oc D} (hK : M.K = X.K) (hu : X.A.units + 64 < cLine) (hm : X.mg "min" = none) (ha : PA X [e] (tPA M E gs)) (hd : PE X d (tP M E gd)) (hc : X.calm = true := by rfl) (hg : Gl X "min" := by rfl)
    (he : backTo pos (starEach [e] X.env) = (false, eval e X.env) :: backTo pos (starEach [] X.env) := by rfl) (hpl : (backTo pos (starEach [e] X.env)).any (·.1) = false := by rfl)
    (hall : (backToKw pos (keywordEach [⟨some "default", d, kpos⟩] X.env)).all (·.1.isSome) = true := by rfl) (hnone : (backToKw pos (keywordEach [⟨some "default", d, kpos⟩] X.env)).any (·.1.isNone) = false := by rfl) (hks : (backToKw pos (keywordEach [⟨some "default", d, kpos⟩] X.env)).filterMap (·.1) = [Str.ofString "default"] := by rfl) :
    PE X (.Call (.Name "min" p) [e] [⟨some "default", d, kpos⟩] pos) (tP M E (gMinDef gs gd)) :=
  PEup (pe_callBK (cr_minDef hc hu) hg hm (show bootBuiltins "min" = some (.builtin "min") by decide +kernel) ha (pk_cons hd pk_nil) (he := he) (hpl := hpl) (hall := hall) (hnone := hnone) (hks := hks)) fun σ H Q ⟨F, en, s, r, p⟩ => ⟨F, en, s, r, Post.bd p fun xs l F1 H1 e1 r1 p1 => ⟨F1, en, e1.s, r.ext e1.f, Post.bd p1 fun y dd F2 H2 e2 r2 p2 => by
    match l, r1, p2 with
    | [.lst ds], r1, p2 =>
      cases r1 with
      | cons ra rn =>
        cases rn
        cases ra with
        | lst h rs =>
          simp only [minDefD] at p2
          cases z : ints? ds with
          | none => rw [z] at p2; exact p2.elim
          | some ns =>
            rw [z] at p2
            have e := ints_eq z
            subst e
            have e2' := rs.ints
            subst e2'
            refine ⟨_, ns, y, rfl, rfl, SqL.of (e2.s.s _ _ (e2.f _ _ h)), fun e => ?_, fun n r e => ?_⟩
            · subst e
              exact p2.pure e2.s r2
            · subst e
              exact p2.pure e2.s (.int _)
    | [], _, p2 => exact p2.elim
    | [.non], _, p2 => exact p2.elim
    | [.bl _], _, p2 => exact p2.elim
    | [.int _], _, p2 => exact p2.elim
    | [.str _], _, p2 => exact p2.elim
    | [.tup _], _, p2 => exact p2.elim
    | [.dic _ _], _, p2 => exact p2.elim
    | [.code _ _ _], _, p2 => exact p2.elim
    | [.adr _], _, p2 => exact p2.elim
    | [.exv _ _], _, p2 => exact p2.elim
    | a :: _ :: _, _, p2 => cases a <;> first | exact p2.elim | (rename_i ls; cases ls <;> exact p2.elim)⟩⟩
end Pl

set_option maxRecDepth 100000
set_option maxHeartbeats 4000000
namespace Pl
open PySem PySem.Spec PyProof.Rows L2 Fx
open PySem.W (Frag)
/-! ### a dict of dicts that a def makes -/
abbrev NW := List D × List (List D × List D)
def NV (M : MC) (G B : Hp) : List V → List (List D × List D) → Prop
  | [], [] => True
  | v :: vs, w :: ws => (∃ (q : Addr) (kvs : List (Key × V)), v = .ref q ∧ B q = some (.dK kvs) ∧ RA M G (kvs.map fun x => kV x.1) w.1 ∧ RA M G (kvs.map (·.2)) w.2) ∧ NV M G B vs ws
  | _, _ => False
section
variable {M : MC} {F0 H0 G G' B B' H H1 F1 : Hp} {p : Addr} {kvs : List (Key × V)} {w : NW}
theorem NV.mono (s : Same G G') : ∀ {vs : List V} {ws : List (List D × List D)}, (∀ q o, V.ref q ∈ vs → B q = some o → B' q = some o) → NV M G B vs ws → NV M G' B' vs ws
  | [], [], _, _ => trivial
  | v :: vs, w :: ws, k, ⟨⟨q, kvs, e, h, r1, r2⟩, t⟩ => ⟨⟨q, kvs, e, k _ _ (by rw [e]; exact List.mem_cons_self ..) h, r1.ext s, r2.ext s⟩, NV.mono s (fun q o hq => k q o (List.mem_cons_of_mem _ hq)) t⟩
  | [], _ :: _, _, h => h.elim
  | _ :: _, [], _, h => h.elim
theorem NV.len : ∀ {vs : List V} {ws : List (List D × List D)}, NV M G B vs ws → vs.length = ws.length
  | [], [], _ => rfl
  | _ :: _, _ :: _, h => congrArg (· + 1) (NV.len h.2)
  | [], _ :: _, h => h.elim
  | _ :: _, [], h => h.elim
theorem NV.at : ∀ {vs : List V} {ws : List (List D × List D)} {j : Nat} {u : List D × List D}, NV M G B vs ws → ws[j]? = some u → ∃ (q : Addr) (kvs : List (Key × V)), vs[j]? = some (.ref q) ∧ B q = some (.dK kvs) ∧ RA M G (kvs.map fun x => kV x.1) u.1 ∧ RA M G (kvs.map (·.2)) u.2
  | [], [], j, u, _, e => by simp at e
  | v :: vs, w :: ws, 0, u, ⟨⟨q, kvs, e1, h, r1, r2⟩, _⟩, e => by
    have e : w = u := Option.some.inj (by simpa using e)
    subst e
    exact ⟨q, kvs, by rw [e1]; rfl, h, r1, r2⟩
  | v :: vs, w :: ws, j + 1, u, ⟨_, t⟩, e => by
    obtain ⟨q, kvs, h1, h2⟩ := NV.at t (j := j) (by simpa using e)
    exact ⟨q, kvs, by simpa using h1, h2⟩
  | [], _ :: _, _, _, h, _ => h.elim
  | _ :: _, [], _, _, h, _ => h.elim
theorem NV.set {q : Addr} {kv : List (Key × V)} {u : List D × List D} (r1 : RA M G (kv.map fun x => kV x.1) u.1) (r2 : RA M G (kv.map (·.2)) u.2) : ∀ {vs : List V} {ws : List (List D × List D)} {j : Nat}, vs.Nodup → NV M G B vs ws → vs[j]? = some (.ref q) → NV M G (upd B q (.dK kv)) vs (ws.set j u)
  | [], [], j, _, _, e => by simp at e
  | v :: vs, w :: ws, 0, nd, ⟨_, t⟩, e => by
    have e : v = .ref q := Option.some.inj (by simpa using e)
    subst e
    obtain ⟨n1, _⟩ := List.nodup_cons.mp nd
    refine ⟨⟨q, kv, rfl, upd_same, r1, r2⟩, NV.mono (Same.refl G) (fun a o ha h => ?_) t⟩
    have ne : a ≠ q := fun z => n1 (by rw [← z]; exact ha)
    rw [upd_ne ne]
    exact h
  | v :: vs, w :: ws, j + 1, nd, ⟨⟨a, kvs, e1, h, s1, s2⟩, t⟩, e => by
    have e : vs[j]? = some (.ref q) := by simpa using e
    obtain ⟨n1, n2⟩ := List.nodup_cons.mp nd
    refine ⟨⟨a, kvs, e1, ?_, s1, s2⟩, NV.set r1 r2 n2 t e⟩
    rw [upd_ne (fun z => n1 (by rw [e1, z]; exact List.mem_of_getElem? e))]
    exact h
  | [], _ :: _, _, _, h, _ => h.elim
  | _ :: _, [], _, _, h, _ => h.elim
theorem NV.snoc {q : Addr} {kv : List (Key × V)} {u : List D × List D} (h : B q = some (.dK kv)) (r1 : RA M G (kv.map fun x => kV x.1) u.1) (r2 : RA M G (kv.map (·.2)) u.2) : ∀ {vs : List V} {ws : List (List D × List D)}, NV M G B vs ws → NV M G B (vs ++ [.ref q]) (ws ++ [u])
  | [], [], _ => ⟨⟨q, kv, rfl, h, r1, r2⟩, trivial⟩
  | v :: vs, w :: ws, ⟨a, t⟩ => ⟨a, NV.snoc h r1 r2 t⟩
  | [], _ :: _, h => h.elim
  | _ :: _, [], h => h.elim
/-- G is told, B is the def's own: the dict at p and the dicts in it -/
structure NI (M : MC) (F0 H0 G B H : Hp) (p : Addr) (kvs : List (Key × V)) (w : NW) : Prop where
  g : Ex M.T F0 H0 G H
  b : ∀ a o, B a = some o → H a = some o ∧ G a = none ∧ ¬ Has H0 a ∧ Ld o
  top : B p = some (.dK kvs)
  ks : RA M G (kvs.map fun q => kV q.1) w.1
  vs : NV M G B (kvs.map (·.2)) w.2
  nd : (V.ref p :: kvs.map (·.2)).Nodup
theorem NI.grow (n : NI M F0 H0 G B H p kvs w) (x : Ex M.T G H F1 H1) : NI M F0 H0 F1 B H1 p kvs w := by
  refine ⟨n.g.trans x, fun a o e => ?_, n.top, n.ks.ext x.f, NV.mono x.f (fun _ _ _ h => h) n.vs, n.nd⟩
  obtain ⟨h1, h2, h3, h4⟩ := n.b a o e
  exact ⟨x.h _ _ h1 h4.nt, x.n a h2 ⟨o, h1, h4.nt⟩, h3, h4⟩
theorem NI.start (s : Ex M.T F0 H0 G H) (hp : H p = none) : NI M F0 H0 G (upd (fun _ => none) p (.dK [])) (upd H p (.dK [])) p [] ([], []) := by
  refine ⟨s.trans (Ex.junk s.s (sNew (Same.refl H) hp)), fun a o e => ?_, upd_same, .nil, trivial, List.nodup_cons.mpr ⟨by simp, List.nodup_nil⟩⟩
  by_cases c : a = p
  · subst c
    rw [upd_same] at e
    cases e
    refine ⟨upd_same, s.s.free hp, fun h => ?_, .inr ⟨_, rfl⟩⟩
    obtain ⟨u, e, _⟩ := h.ext s.h
    rw [hp] at e
    cases e
  · rw [upd_ne c] at e
    cases e
/-- an own dict is written -/
theorem ex_put {q : Addr} {u o : HO} (g : Ex M.T F0 H0 G H) (gq : G q = none) (nq : ¬ Has H0 q) (hq : H q = some u) (ld : Ld u) : Ex M.T F0 H0 G (upd H q o) :=
  ⟨g.f, fun b v e nt => by rw [upd_ne fun z => nq (by rw [← z]; exact ⟨v, e, nt⟩)]; exact g.h _ _ e nt, g.s.put gq hq ld, g.n⟩
theorem NI.put (n : NI M F0 H0 G B H p kvs w) {j : Nat} {q : Addr} {kv kv' : List (Key × V)} {u : List D × List D} (hj : (kvs.map (·.2))[j]? = some (.ref q)) (hq : B q = some (.dK kv)) (r1 : RA M G (kv'.map fun x => kV x.1) u.1) (r2 : RA M G (kv'.map (·.2)) u.2) :
    NI M F0 H0 G (upd B q (.dK kv')) (upd H q (.dK kv')) p kvs (w.1, w.2.set j u) := by
  obtain ⟨h1, h2, h3, h4⟩ := n.b q _ hq
  obtain ⟨d1, d2⟩ := List.nodup_cons.mp n.nd
  have pq : p ≠ q := fun z => d1 (by rw [z]; exact List.mem_of_getElem? hj)
  refine ⟨ex_put n.g h2 h3 h1 h4, fun a o e => ?_, by rw [upd_ne pq]; exact n.top, n.ks, NV.set r1 r2 d2 n.vs hj, n.nd⟩
  by_cases c : a = q
  · subst c
    rw [upd_same] at e
    cases e
    exact ⟨upd_same, h2, h3, .inr ⟨_, rfl⟩⟩
  · rw [upd_ne c] at e
    obtain ⟨g1, g2⟩ := n.b a o e
    exact ⟨by rw [upd_ne c]; exact g1, g2⟩
/-- a new dict in it, under a new key -/
theorem NI.more (n : NI M F0 H0 G B H p kvs w) {q : Addr} {k : Key} {a : D} (hq : H q = none) (rk : R M G (kV k) a) : NI M F0 H0 G (upd (upd B q (.dK [])) p (.dK (kvs ++ [(k, .ref q)]))) (upd (upd H q (.dK [])) p (.dK (kvs ++ [(k, .ref q)]))) p (kvs ++ [(k, .ref q)]) (w.1 ++ [a], w.2 ++ [([], [])]) := by
  obtain ⟨p1, p2, p3, p4⟩ := n.b p _ n.top
  have pq : p ≠ q := ne_of_none p1 hq
  have x1 : Ex M.T F0 H0 G (upd H q (.dK [])) := n.g.trans (Ex.junk n.g.s (sNew (Same.refl H) hq))
  have hp2 : (upd H q (.dK [])) p = some (.dK kvs) := by
    rw [upd_ne pq]
    exact p1
  have gq : G q = none := n.g.s.free hq
  have nq : ¬ Has H0 q := fun h => by
    obtain ⟨u, e, _⟩ := h.ext n.g.h
    rw [hq] at e
    cases e
  have notin : V.ref q ∉ kvs.map (·.2) := fun z => by
    obtain ⟨j, hj⟩ := List.getElem?_of_mem z
    have lt : j < w.2.length := by
      rw [← n.vs.len]
      exact (List.getElem?_eq_some_iff.mp hj).1
    obtain ⟨q', kv, e1, e2, _⟩ := n.vs.at (List.getElem?_eq_getElem lt)
    rw [hj] at e1
    cases e1
    have := (n.b q _ e2).1
    rw [hq] at this
    cases this
  obtain ⟨d1, d2⟩ := List.nodup_cons.mp n.nd
  refine ⟨ex_put x1 p2 p3 hp2 p4, fun b o e => ?_, upd_same, ?_, ?_, ?_⟩
  · by_cases c : b = p
    · subst c
      rw [upd_same] at e
      cases e
      exact ⟨upd_same, p2, p3, .inr ⟨_, rfl⟩⟩
    · rw [upd_ne c] at e
      by_cases c2 : b = q
      · subst c2
        rw [upd_same] at e
        cases e
        exact ⟨by rw [upd_ne c, upd_same], gq, nq, .inr ⟨_, rfl⟩⟩
      · rw [upd_ne c2] at e
        obtain ⟨g1, g2⟩ := n.b b o e
        exact ⟨by rw [upd_ne c, upd_ne c2]; exact g1, g2⟩
  · rw [List.map_append]
    exact n.ks.app (.one rk)
  · rw [List.map_append]
    refine NV.snoc (kv := []) (by rw [upd_ne pq.symm, upd_same]) .nil .nil (NV.mono (Same.refl G) (fun b o hb e => ?_) n.vs)
    have n1 : b ≠ p := fun z => d1 (by rw [← z]; exact hb)
    have n2 : b ≠ q := fun z => notin (by rw [← z]; exact hb)
    rw [upd_ne n1, upd_ne n2]
    exact e
  · rw [List.map_append]
    refine List.nodup_cons.mpr ⟨fun z => ?_, List.nodup_append.mpr ⟨d2, by simp, fun x hx y hy => ?_⟩⟩
    · rcases List.mem_append.mp z with z | z
      · exact d1 z
      · exact pq (V.ref.inj (List.mem_singleton.mp z))
    · have hy : y = .ref q := List.mem_singleton.mp hy
      subst hy
      exact fun z => notin (z ▸ hx)
/-- at the end all is told -/
theorem NI.told (n : NI M F0 H0 G B H p kvs w) : Ex M.T F0 H0 (gb G B) H ∧ R M (gb G B) (.ref p) (.dic w.1 (w.2.map fun u => .dic u.1 u.2)) := by
  have r : RSx M F0 H0 G B [] [] H := ⟨Nat.le_refl _, n.g, n.b, fun i d e => by simp at e, fun i d e => by simp at e, fun i d _ e => by simp at e, fun i j p h _ _ _ => by simp at h⟩
  refine ⟨r.exB, .dic (.inl (gb_b n.top)) (n.ks.ext r.sG) ?_⟩
  have key : ∀ {vs : List V} {ws : List (List D × List D)}, NV M G B vs ws → RA M (gb G B) vs (ws.map fun u => D.dic u.1 u.2) := fun {vs} => by
    induction vs with
    | nil =>
      intro ws h
      cases ws with
      | nil => exact .nil
      | cons _ _ => exact h.elim
    | cons v vs ih =>
      intro ws h
      cases ws with
      | nil => exact h.elim
      | cons u ws =>
        obtain ⟨⟨q, kv, rfl, h1, h2, h3⟩, t⟩ := h
        exact .cons (.dic (.inl (gb_b h1)) (h2.ext r.sG) (h3.ext r.sG)) (ih t)
  exact key n.vs
end
/-! ### lookups by place -/
def idxD (k : D) (ks : List D) : Option Nat := (kEqs k ks).bind fun fs => if fs.any id = true then some (fs.findIdx id) else none
theorem idx_val {M : MC} (ok : MOk M) {F : Hp} {k : Key} {a : D} (rk : R M F (kV k) a) {kvs : List (Key × V)} {ks : List D} {j : Nat} (h : RA M F (kvs.map fun p => kV p.1) ks) (e : idxD a ks = some j) : ∃ v, (kvs.map (·.2))[j]? = some v ∧ valV kvs k = some v := by
  unfold idxD at e
  obtain ⟨fs, e1, e2⟩ := Option.bind_eq_some_iff.mp e
  have q := kEqs_val ok rk h e1
  subst q
  split at e2
  · rename_i c
    cases e2
    clear e e1 h
    induction kvs with
    | nil => simp at c
    | cons p kvs ih =>
      by_cases c1 : p.1 = k
      · exact ⟨p.2, by simp [List.findIdx_cons, c1], by simp [valV, List.find?_cons, c1]⟩
      · have c2 : (kvs.map fun p => decide (p.1 = k)).any id = true := by simpa [c1] using c
        obtain ⟨v, h1, h2⟩ := ih c2
        refine ⟨v, ?_, ?_⟩
        · simp only [List.map_cons, List.findIdx_cons, c1, decide_false, id, cond_false]
          simpa using h1
        · unfold valV at h2 ⊢
          rw [List.find?_cons]
          simp only [c1, decide_false]
          exact h2
  · cases e2
end Pl

set_option maxRecDepth 100000
set_option maxHeartbeats 4000000
namespace Pl
open PySem PySem.Spec PyProof.Rows L2 Fx
open PySem.W (Frag)
/-! ### a dict is frozen for a while -/
structure Swp (a : Addr) (kvs : List (Key × V)) (G G2 : Hp) : Prop where
  x : Rd G a (.dK kvs)
  y : Rd G2 a (.dK kvs)
  n : ∀ b o, b ≠ a → G b = some o → G2 b = some o
section
variable {M : MC} {G G2 : Hp} {a : Addr} {kvs : List (Key × V)}
theorem Swp.get (s : Swp a kvs G G2) {b : Addr} {o : HO} (h : G b = some o) (h1 : o ≠ .dK kvs) (h2 : ∀ z, o ≠ .frz z (.dK kvs)) : G2 b = some o := by
  refine s.n b o (fun z => ?_) h
  subst z
  rcases s.x with e | ⟨z, e⟩
  · rw [e] at h
    exact h1 (Option.some.inj h).symm
  · rw [e] at h
    exact h2 z (Option.some.inj h).symm
theorem Swp.rdD (s : Swp a kvs G G2) {b : Addr} {kw : List (Key × V)} (h : Rd G b (.dK kw)) : Rd G2 b (.dK kw) := by
  by_cases c : b = a
  · subst c
    have e : kw = kvs := by
      rcases s.x with e | ⟨z, e⟩ <;> rcases h with f | ⟨y, f⟩ <;> rw [e] at f <;> cases f <;> rfl
    rw [e]
    exact s.y
  · exact h.imp (s.n b _ c) fun ⟨o, f⟩ => ⟨o, s.n b _ c f⟩
theorem Swp.sqT (s : Swp a kvs G G2) {K : Frag} {b : Addr} {xs : List V} (h : SqT K G b xs) : SqT K G2 b xs :=
  h.imp (fun r => r.imp (fun f => s.get f (by intro z; cases z) (by intro _ z; cases z)) fun ⟨o, f⟩ => ⟨o, s.get f (by intro z; cases z) (by intro _ z; cases z)⟩) id
mutual
theorem R.swp (s : Swp a kvs G G2) : ∀ {v : V} {d : D}, R M G v d → R M G2 v d
  | _, _, .non => .non
  | _, _, .bl b => .bl b
  | _, _, .int i => .int i
  | _, _, .str h => .str h
  | _, _, .atm h g => .atm h g
  | _, _, .lst h t => .lst (s.get h (by intro z; cases z) (by intro _ z; cases z)) (RA.swp s t)
  | _, _, .tup h t => .tup (s.sqT h) (RA.swp s t)
  | _, _, .dic h t u => .dic (s.rdD h) (RA.swp s t) (RA.swp s u)
  | _, _, .code h a b c => .code (s.get h (by intro z; cases z) (by intro _ z; cases z)) (R.swp s a) (R.swp s b) (R.swp s c)
  | _, _, .adr a => .adr a
  | _, _, .exv h g r => .exv (s.get h (by intro z; cases z) (by intro _ z; cases z)) (s.get g (by intro z; cases z) (by intro _ z; cases z)) (R.swp s r)
theorem RA.swp (s : Swp a kvs G G2) : ∀ {vs : List V} {ds : List D}, RA M G vs ds → RA M G2 vs ds
  | _, _, .nil => .nil
  | _, _, .cons h t => .cons (R.swp s h) (RA.swp s t)
end
theorem RSx.swp {F0 H0 F1 H1 B H H' : Hp} {se : SE} {σ : L2.St} (s : Swp a kvs G G2) (r : RSx M F0 H0 G B se σ H) (g : Ex M.T F1 H1 G2 H') (b : ∀ p o, B p = some o → H' p = some o ∧ G2 p = none ∧ ¬ Has H1 p ∧ Ld o) : RSx M F1 H1 G2 B se σ H' :=
  ⟨r.le, g, b, fun i d e => let ⟨v, h1, h2⟩ := r.im i d e; ⟨v, h1, h2.swp s⟩, fun i ds e => let ⟨p, xs, h1, h2, h3⟩ := r.ow i ds e; ⟨p, xs, h1, h2, h3.swp s⟩,
    fun i ks vs e => let ⟨p, kw, h1, h2, h3, h4⟩ := r.od i ks vs e; ⟨p, kw, h1, h2, h3.swp s, h4.swp s⟩, r.ap⟩
end
section
variable {M : MC} {F0 H0 G G' B B' H H' F' : Hp} {a : Addr} {kvs : List (Key × V)} {se e : SE} {σ σ' : L2.St} {od : Obj}
theorem RSx.lock (r : RSx M F0 H0 G B se σ H) (h : G a = some (.dK kvs)) (od : Obj) : RSx M (upd G a (.frz od (.dK kvs))) (upd (Pl.less H B) a (.frz od (.dK kvs))) (upd G a (.frz od (.dK kvs))) B se σ (upd H a (.frz od (.dK kvs))) := by
  have hH : H a = some (.dK kvs) := r.g.s.s _ _ h
  have ne : ∀ p o, B p = some o → p ≠ a := fun p o e z => by
    have q := (r.b p o e).2.1
    rw [z, h] at q
    cases q
  refine r.swp (a := a) (kvs := kvs) ⟨.inl h, .inr ⟨od, upd_same⟩, fun b o c f => by rw [upd_ne c]; exact f⟩ ⟨Same.refl _, fun b o f nt => ?_, ⟨fun b o f => ?_, fun b ps f => ?_, ?_⟩, fun b f _ => f⟩ fun p o e => ?_
  · by_cases c : b = a
    · subst c
      rw [upd_same] at f ⊢
      exact f
    · rw [upd_ne c] at f ⊢
      cases z : B b with
      | none => rw [less_g z] at f; exact f
      | some u => rw [less_b z] at f; cases f
  · by_cases c : b = a
    · subst c
      rw [upd_same] at f ⊢
      exact f
    · rw [upd_ne c] at f ⊢
      exact r.g.s.s _ _ f
  · by_cases c : b = a
    · subst c
      rw [upd_same] at f
      cases f
    · rw [upd_ne c] at f
      exact r.g.s.nt _ _ f
  · exact tabs_keep r.g.s.tb hH (.inr ⟨_, rfl⟩) fun b c => upd_ne c
  · obtain ⟨b1, b2, b3, b4⟩ := r.b p o e
    have c := ne p o e
    refine ⟨by rw [upd_ne c]; exact b1, by rw [upd_ne c]; exact b2, fun ⟨u, z, _⟩ => ?_, b4⟩
    rw [upd_ne c, less_b e] at z
    cases z
theorem ex_unlock (r : RSx M F0 H0 G B se σ H) (h : G a = some (.dK kvs)) (x : Ex M.T (upd G a (.frz od (.dK kvs))) (upd (Pl.less H B) a (.frz od (.dK kvs))) F' H') :
    H' a = some (.frz od (.dK kvs)) ∧ Swp a kvs F' (upd F' a (.dK kvs)) ∧ Ex M.T F0 H0 (upd F' a (.dK kvs)) (upd H' a (.dK kvs)) := by
  have f1 : F' a = some (.frz od (.dK kvs)) := x.f _ _ upd_same
  have h1 : H' a = some (.frz od (.dK kvs)) := x.s.s _ _ f1
  have hH : H a = some (.dK kvs) := r.g.s.s _ _ h
  have keep : ∀ b o, b ≠ a → H b = some o → B b = none → (∀ ps, o ≠ .tbl ps) → H' b = some o := fun b o c f z nt => x.h b o (by rw [upd_ne c, less_g z]; exact f) nt
  have nB : ∀ b, Has H0 b → B b = none := fun b hb => by
    cases z : B b with
    | none => rfl
    | some u => exact absurd hb (r.b b u z).2.2.1
  refine ⟨h1, ⟨.inr ⟨od, f1⟩, .inl upd_same, fun b o c f => by rw [upd_ne c]; exact f⟩, ⟨fun b o f => ?_, fun b o f nt => ?_, ⟨fun b o f => ?_, fun b ps f => ?_, ?_⟩, fun b f g => ?_⟩⟩
  · have q := r.g.f b o f
    by_cases c : b = a
    · subst c
      rw [h] at q
      rw [upd_same]
      exact q
    · rw [upd_ne c]
      exact x.f b o (by rw [upd_ne c]; exact q)
  · have q := r.g.h b o f nt
    by_cases c : b = a
    · subst c
      rw [hH] at q
      rw [upd_same]
      exact q
    · rw [upd_ne c]
      exact keep b o c q (nB b ⟨o, f, nt⟩) nt
  · by_cases c : b = a
    · subst c
      rw [upd_same] at f ⊢
      exact f
    · rw [upd_ne c] at f ⊢
      exact x.s.s _ _ f
  · by_cases c : b = a
    · subst c
      rw [upd_same] at f
      cases f
    · rw [upd_ne c] at f
      exact x.s.nt _ _ f
  · intro z hz
    obtain ⟨ps, e1, e2, e3⟩ := x.s.tb z hz
    have nb : ∀ b o, H' b = some o → (∀ z u, o ≠ .frz z u) → b ≠ a := fun b o f nf z => by
      rw [z, h1] at f
      exact nf _ _ (Option.some.inj f).symm
    refine ⟨ps, ?_, e2, fun pos cv hc => ?_⟩
    · rw [upd_ne (nb _ _ e1 (by intro _ _ z; cases z))]
      exact e1
    · obtain ⟨c, g1, g2⟩ := e3 pos cv hc
      refine ⟨c, g1, ?_⟩
      rw [upd_ne (nb _ _ g2 (by intro _ _ z; cases z))]
      exact g2
  · have q := r.g.n b f g
    have c : b ≠ a := fun z => by
      rw [z, h] at q
      cases q
    rw [upd_ne c]
    obtain ⟨o, e1, nt⟩ := g
    exact x.n b (by rw [upd_ne c]; exact q) ⟨o, by rw [upd_ne c, less_g (nB b ⟨o, e1, nt⟩)]; exact r.g.h b o e1 nt, nt⟩
theorem RSx.unlock (r : RSx M F0 H0 G B se σ H) (h : G a = some (.dK kvs)) (r' : RSx M (upd G a (.frz od (.dK kvs))) (upd (Pl.less H B) a (.frz od (.dK kvs))) G' B' e σ' H') :
    H' a = some (.frz od (.dK kvs)) ∧ RSx M F0 H0 (upd G' a (.dK kvs)) B' e σ' (upd H' a (.dK kvs)) := by
  obtain ⟨q1, q2, q3⟩ := ex_unlock r h r'.g
  refine ⟨q1, r'.swp q2 q3 fun p o z => ?_⟩
  obtain ⟨b1, b2, b3, b4⟩ := r'.b p o z
  have c : p ≠ a := fun y => by
    rw [y, r'.g.f a _ upd_same] at b2
    cases b2
  refine ⟨by rw [upd_ne c]; exact b1, by rw [upd_ne c]; exact b2, fun hz => ?_, b4⟩
  cases zb : B p with
  | some u => exact (r.b p u zb).2.2.1 hz
  | none =>
    obtain ⟨u, e1, nt⟩ := hz
    exact b3 ⟨u, by rw [upd_ne c, less_g zb]; exact r.g.h p u e1 nt, nt⟩
/-- no exception leaves -/
def noX : SR → SR
  | .exc _ _ => .bad
  | r => r
theorem SPost.lock {E : XK} {D : Ends} {q : SR} (r : RSx M F0 H0 G B se σ H) (h : G a = some (.dK kvs)) (p : SPost M E F0 H0 D (noX q)) : SPost M E (upd G a (.frz od (.dK kvs))) (upd (Pl.less H B) a (.frz od (.dK kvs)))
    ⟨fun σ' H' => H' a = some (.frz od (.dK kvs)) ∧ D.nx σ' (upd H' a (.dK kvs)), fun v H' => H' a = some (.frz od (.dK kvs)) ∧ D.rt v (upd H' a (.dK kvs)), fun σ' H' => H' a = some (.frz od (.dK kvs)) ∧ D.bk σ' (upd H' a (.dK kvs)), fun σ' H' => H' a = some (.frz od (.dK kvs)) ∧ D.ct σ' (upd H' a (.dK kvs))⟩ q := by
  cases q with
  | nx e => exact fun σ' H' G' B' r' => let ⟨q1, q2⟩ := r.unlock h r'; ⟨q1, p _ _ _ _ q2⟩
  | bk e => exact fun σ' H' G' B' r' => let ⟨q1, q2⟩ := r.unlock h r'; ⟨q1, p _ _ _ _ q2⟩
  | ct e => exact fun σ' H' G' B' r' => let ⟨q1, q2⟩ := r.unlock h r'; ⟨q1, p _ _ _ _ q2⟩
  | ret d => exact fun v F' H' x rv => let ⟨q1, q2, q3⟩ := ex_unlock r h x; ⟨q1, p v _ _ q3 (rv.swp q2)⟩
  | exc c d => exact p.elim
  | bad => exact p.elim
end
/-! ### an expression that names a dict that stands -/
structure DRef (X : Cx) (M : MC) (e : Expr) (g : En → Oc D) (L : L2.St → Hp → Addr → Prop) : Prop where
  pe : PE X e (fun σ H Q => ∃ a, L σ H a ∧ Q (.ref a) H)
  up : ∀ {σ : L2.St} {H H' : Hp} {a : Addr}, L σ H a → (∀ b kvs, Rd H b (.dK kvs) → Rd H' b (.dK kvs)) → L σ H' a
  un : ∀ {σ : L2.St} {H : Hp} {a b : Addr}, L σ H a → L σ H b → a = b
  ok : ∀ {F H : Hp} {σ : L2.St} {en : En} {ks vs : List D}, Sx M.T F H → REn M F σ en → g en = .ok (.dic ks vs) → ∃ a kvs, L σ H a ∧ Rd F a (.dK kvs) ∧ RA M F (kvs.map fun q => kV q.1) ks ∧ RA M F (kvs.map (·.2)) vs
section
variable {X : Cx} {M : MC} {E : XK} {pos : Pos}
def LV (i : Nat) : L2.St → Hp → Addr → Prop := fun σ _ a => σ[i]? = some (some (.ref a))
theorem dr_var {i : Nat} {x : Str} (hN : X.N[i]? = some x) (hv : Vis X.env.scope x) (hd : (x == ("__debug__" : Str)) = false := by decide) (hcd : (x == ("__classdict__" : Str)) = false := by decide) : DRef X M (.Name x pos) (gV i) (LV i) where
  pe := PEup (pe_var hN hv hd hcd) fun σ H Q ⟨a, l, q⟩ => ⟨.ref a, l, q⟩
  up := fun l _ => l
  un := fun l k => by
    rw [LV] at l k
    rw [l] at k
    cases k
    rfl
  ok := fun {F H σ en ks vs} s r e => by
    unfold gV at e
    split at e
    · rename_i d z
      cases e
      obtain ⟨v, h1, h2⟩ := r.at_ i _ z
      cases h2 with
      | dic g1 g2 g3 => exact ⟨_, _, h1, g1, g2, g3⟩
    · cases e
def LS (i j : Nat) : L2.St → Hp → Addr → Prop := fun σ H a => ∃ b kvs k, σ[i]? = some (some (.ref b)) ∧ σ[j]? = some (some (kV k)) ∧ Rd H b (.dK kvs) ∧ valV kvs k = some (.ref a)
theorem rd_un {H : Hp} {b : Addr} {kvs kw : List (Key × V)} (h : Rd H b (.dK kvs)) (g : Rd H b (.dK kw)) : kvs = kw := by
  rcases h with e | ⟨z, e⟩ <;> rcases g with f | ⟨y, f⟩ <;> rw [e] at f <;> cases f <;> rfl
theorem dr_sub {i j : Nat} {x y : Str} {p q : Pos} (ok : MOk M) (hu : X.A.units + 1 < cLine) (hN : X.N[i]? = some x) (hv : Vis X.env.scope x) (hN' : X.N[j]? = some y) (hv' : Vis X.env.scope y)
    (hd : (x == ("__debug__" : Str)) = false := by decide) (hcd : (x == ("__classdict__" : Str)) = false := by decide) (hd' : (y == ("__debug__" : Str)) = false := by decide) (hcd' : (y == ("__classdict__" : Str)) = false := by decide) :
    DRef X M (.Subscript (.Name x p) (.Name y q) pos) (b2 fDGet (gV i) (gV j)) (LS i j) where
  pe := PEup (pe_dget hu (pe_var hN hv hd hcd) (pe_var hN' hv' hd' hcd') (fun _ _ => rfl)) fun σ H Q ⟨a, ⟨b, kvs, k, h1, h2, h3, h4⟩, q⟩ => ⟨.ref b, h1, kV k, h2, b, .ref a, rfl, by rw [← h4]; exact rdget h3, q⟩
  up := fun ⟨b, kvs, k, h1, h2, h3, h4⟩ k' => ⟨b, kvs, k, h1, h2, k' _ _ h3, h4⟩
  un := fun ⟨b, kvs, k, h1, h2, h3, h4⟩ ⟨b', kvs', k', g1, g2, g3, g4⟩ => by
    rw [h1] at g1
    cases g1
    rw [h2] at g2
    have e := kV_inj (Option.some.inj (Option.some.inj g2))
    subst e
    have e := rd_un h3 g3
    subst e
    rw [h4] at g4
    cases g4
    rfl
  ok := fun {F H σ en ks vs} s r e => by
    unfold b2 gV at e
    cases z1 : en[i]? with
    | none => rw [z1] at e; cases e
    | some o1 =>
      cases o1 with
      | none => rw [z1] at e; cases e
      | some d1 =>
        cases z2 : en[j]? with
        | none => rw [z1, z2] at e; cases e
        | some o2 =>
          cases o2 with
          | none => rw [z1, z2] at e; cases e
          | some d2 =>
            rw [z1, z2] at e
            obtain ⟨v1, h1, r1⟩ := r.at_ i _ z1
            obtain ⟨v2, h2, r2⟩ := r.at_ j _ z2
            replace e : (Oc.of (fDGet d1 d2) : Oc Pl.D) = .ok (.dic ks vs) := e
            cases r1 with
            | dic g1 g2 g3 =>
              unfold fDGet at e
              dsimp only at e
              split at e
              · rename_i c
                obtain ⟨k, rfl, rk⟩ := r2.key c
                cases z : lookD d2 _ _ with
                | none => rw [z] at e; cases e
                | some o =>
                  rw [z] at e
                  cases o with
                  | none => cases e
                  | some d =>
                    have e : d = .dic ks vs := by
                      have e : (Oc.ok d : Oc Pl.D) = .ok (.dic ks vs) := e
                      cases e
                      rfl
                    subst e
                    obtain ⟨v, q1, q2⟩ := (lookD_val ok rk g2 g3 z).2 _ rfl
                    cases q2 with
                    | dic y1 y2 y3 => exact ⟨_, _, ⟨_, _, k, h1, h2, rd_same s.s g1, q1⟩, y1, y2, y3⟩
              · cases e
            | _ => cases e
/-! for k, v in d.items() -/
def zipT : List Pl.D → List Pl.D → List Pl.D
  | k :: ks, v :: vs => .tup [k, v] :: zipT ks vs
  | _, _ => []
theorem zipT_at : ∀ {ks vs : List Pl.D} {i : Nat} {a b : Pl.D}, ks[i]? = some a → vs[i]? = some b → (zipT ks vs)[i]? = some (.tup [a, b])
  | k :: ks, v :: vs, 0, a, b, h, g => by
    cases h
    cases g
    rfl
  | k :: ks, v :: vs, i + 1, a, b, h, g => by
    unfold zipT
    simpa using zipT_at (i := i) (by simpa using h) (by simpa using g)
  | [], _, _, _, _, h, _ => by simp at h
  | _ :: _, [], _, _, _, _, g => by simp at g
theorem zipT_len : ∀ {ks vs : List Pl.D}, ks.length = vs.length → (zipT ks vs).length = ks.length
  | [], _, _ => by simp [zipT]
  | k :: ks, v :: vs, h => congrArg (· + 1) (zipT_len (by simpa using h))
  | _ :: _, [], h => by simp at h
def gItems (g : En → Oc Pl.D) : En → Oc (List Pl.D) := fun en => match g en with
  | .ok (.dic ks vs) => .ok (zipT ks vs)
  | _ => .bad
theorem items_up {e : Expr} {g : En → Oc Pl.D} {L : L2.St → Hp → Addr → Prop} (d : DRef X M e g L) {σ : L2.St} {H : Hp} {Q : It → Hp → Prop} {a : Addr} {kvs : List (Key × V)} {o : Obj} (l : L σ H a) (ha : H a = some (.frz o (.dK kvs))) (h : tPI M E (gItems g) σ H Q) :
    iItems (fun σ H Q => ∃ a, L σ H a ∧ Q (.ref a) H) σ H Q := by
  obtain ⟨F, en, s, r, p⟩ := h
  unfold gItems at p
  split at p
  · rename_i ks vs z
    obtain ⟨b, kw, l1, h1, h2, h3⟩ := d.ok s r z
    have e := d.un l1 l
    subst e
    have hf : F b = some (.frz o (.dK kvs)) := by
      rcases h1 with q | ⟨u, q⟩
      · have q2 := s.s _ _ q
        rw [ha] at q2
        cases q2
      · have q2 := s.s _ _ q
        rw [ha] at q2
        rw [← q2] at q
        exact q
    have e : kw = kvs := by
      rcases h1 with q | ⟨u, q⟩ <;> rw [hf] at q <;> cases q
      rfl
    subst e
    have len : ks.length = vs.length := by
      have q1 := h2.len
      have q2 := h3.len
      rw [List.length_map] at q1 q2
      omega
    refine ⟨b, l, b, o, kw, rfl, ha, p _ F H (Ex.refl s) (wd_pair (G := fun H2 => H2 b = some (.frz o (.dK kw))) (fun H2 s2 => s2 _ _ hf) (by rw [zipT_len len]; have q := h2.len; rw [List.length_map] at q; exact q) walk_items fun i x y hi e1 e2 => ?_)⟩
    obtain ⟨c1, g1, g2⟩ := h2.atV (i := i) (v := x) (by rw [List.getElem?_map]; exact e1)
    obtain ⟨c2, k1, k2⟩ := h3.atV (i := i) (v := y) (by rw [List.getElem?_map]; exact e2)
    exact ⟨c1, c2, zipT_at g1 k1, g2, k2⟩
  · exact p.elim
def qForI (b : En → Pl.D → Option En) (sl : List Nat) (g : En → Oc Pl.D) (body : SE → SR) : SE → SR := fun se => noX (qFor b sl (gItems g) body se)
theorem SPost.noX {F0 H0 : Hp} {D : Ends} {q : SR} (p : SPost M E F0 H0 D (Pl.noX q)) : SPost M E F0 H0 D q := by
  cases q with
  | exc c d => exact p.elim
  | _ => exact p
theorem s_forItems {e : Expr} {elts : List Expr} {kk : Nat} {tpos apos cpos : Pos} {body : List Stmt} {b : En → Pl.D → Option En} {sl : List Nat} {g : En → Oc Pl.D} {L : L2.St → Hp → Addr → Prop} {s : SE → SR} (hp : PassesOwn (model X.prog X.w) X.A X.env X.xe) (hc : X.calm = true) (d : DRef X M e g L) (hg : PG X (.Tuple elts kk tpos) (tPG M b sl)) (hb : PSs X body (tS M E s))
    (hbase : attributeBase e "items" X.env (eval e X.env) = eval e X.env := by rfl) (hline : (apos.endLine == cpos.line) = true := by rfl)
    (hs : ∀ x, foldedSetIterable (.Call (.Attribute e "items" apos) [] [] cpos) X.env x = pure x := by intro _; rfl) : PS X (.For (.Tuple elts kk tpos) (.Call (.Attribute e "items" apos) [] [] cpos) body [] pos) (tS M E (qForI b sl g s)) := by
  have A := ps_for (pos := pos) hp hc (pi_items (apos := apos) (cpos := cpos) d.pe hbase hline) hg hb hs
  have Bq : ∀ {F0 H0 G B H : Hp} {se : SE} {σ : L2.St} {D : Ends} {a : Addr} {kvs : List (Key × V)} {o : Obj}, RSx M F0 H0 G B se σ H → SPost M E F0 H0 D (qFor b sl (gItems g) s se) → L σ H a → H a = some (.frz o (.dK kvs)) → tFor (iItems (fun σ H Q => ∃ a, L σ H a ∧ Q (.ref a) H)) (tPG M b sl) (tS M E s) D σ H := by
    intro F0 H0 G B H se σ D a kvs o r p l ha
    have h : tFor (tPI M E (gItems g)) (tPG M b sl) (tS M E s) D σ H := for_up D σ H ⟨F0, H0, G, B, se, r, p⟩
    exact items_up d l ha h
  refine ⟨fun pins s0 σ H D I ⟨F0, H0, G, B, se, r, p⟩ => ?_⟩
  have p0 := p
  unfold qForI at p
  cases z : g (enA se) with
  | ok dd =>
    by_cases c : ∃ ks vs, dd = .dic ks vs
    · obtain ⟨ks, vs, rfl⟩ := c
      obtain ⟨a, kvs, l, h1, h2, h3⟩ := d.ok r.g.s r.enA z
      rcases h1 with q | ⟨o, q⟩
      · refine (ps_lock A).run pins s0 σ H D I ⟨a, .dK kvs, r.g.s.s _ _ q, trivial, fun od => ?_⟩
        refine Bq (r.lock q od) (SPost.lock r q p) (d.up l fun b kw h => ?_) upd_same
        by_cases c : b = a
        · subst c
          have hq := r.g.s.s _ _ q
          rcases h with h | ⟨u, h⟩
          · rw [hq] at h
            cases h
            exact .inr ⟨od, upd_same⟩
          · rw [hq] at h
            cases h
        · exact h.imp (fun h => by rw [upd_ne c]; exact h) fun ⟨u, h⟩ => ⟨u, by rw [upd_ne c]; exact h⟩
      · exact A.run pins s0 σ H D I (Bq r p.noX l (r.g.s.s _ _ q))
    · exfalso
      unfold qFor gItems at p
      rw [z] at p
      cases dd with
      | dic ks vs => exact c ⟨_, _, rfl⟩
      | _ => exact p
  | exc cc dd => unfold qFor gItems at p; rw [z] at p; exact p.elim
  | bad => unfold qFor gItems at p; rw [z] at p; exact p.elim
end
end Pl

set_option maxRecDepth 100000
set_option maxHeartbeats 4000000
namespace Pl
open PySem PySem.Spec PyProof.Rows L2 Fx
open PySem.W (Frag)
/-! ### tuple(range(n)) -/
def fTupRg (d : D) : Option D := match d with
  | .int j => if 0 ≤ j ∧ j ≤ 100000 then some (.tup (((List.range j.toNat).map fun i => (0 : Int) + (i : Nat)).map .int)) else none
  | _ => none
def fInt1 : List D → Option D
  | [.int i] => some (.int i)
  | [.bl k] => some (.int (if k then 1 else 0))
  | _ => none
section
variable {X : Cx} {M : MC} {E : XK} {pos : Pos}
theorem cd_int1 : CallD X M (.type "int") fInt1 := CallRup call_int1 fun xs H Q z => by
  obtain ⟨F, ds, d, s, r, e, q⟩ := rD_inv z
  unfold fInt1 at e
  split at e
  · cases e
    cases r with
    | cons ra r =>
      cases r
      cases ra
      exact .inl ⟨_, rfl, q _ F H (Ex.refl s) (.int _)⟩
  · cases e
    cases r with
    | cons ra r =>
      cases r
      cases ra
      exact .inr ⟨_, rfl, q _ F H (Ex.refl s) (.int _)⟩
  · cases e
theorem d_tupRg {a : Expr} {g : En → Oc Pl.D} {p p2 pos2 : Pos} (hg : Gl X "tuple") (hm : X.mg "tuple" = none) (hg2 : Gl X "range") (hm2 : X.mg "range" = none) (ha : PE X a (tP M E g)) (hc : X.calm = true := by rfl)
    (n2 : starEach [a] X.env = (false, eval a X.env) :: starEach [] X.env := by rfl) (n1 : starEach [Expr.Call (.Name "range" p2) [a] [] pos2] X.env = (false, eval (.Call (.Name "range" p2) [a] [] pos2) X.env) :: starEach [] X.env := by rfl) :
    PE X (.Call (.Name "tuple" p) [.Call (.Name "range" p2) [a] [] pos2] [] pos) (tP M E (g1 fTupRg g)) :=
  PEup (pe_tupRg hc hg hm (prg_1 hg2 hm2 ha n2) n1) fun σ H Q ⟨F, en, s, r, p⟩ => ⟨F, en, s, r, Post.bd p fun x d F1 H1 e1 r1 p1 => by
    cases z : fTupRg d with
    | none => rw [z] at p1; exact p1.elim
    | some u =>
      rw [z] at p1
      unfold fTupRg at z
      split at z
      · split at z
        · rename_i j c
          cases z
          cases r1
          refine ⟨j, rfl, RgOk.of_le (by decide) (by omega) (by decide) (by omega), fun q hq => ?_⟩
          have e : rgV 0 j = ((List.range j.toNat).map fun i => (0 : Int) + (i : Nat)).map V.int := by
            unfold rgV
            rw [List.map_map, Int.sub_zero]
            rfl
          rw [e]
          exact p1 _ (upd F1 q (.tup _)) _ (Ex.new e1.s hq) (.tup (SqT.of upd_same) (RA.ofInts _))
        · cases z
      · cases z⟩
end
end Pl

set_option maxRecDepth 100000
set_option maxHeartbeats 4000000
namespace Pl
open PySem PySem.Spec PyProof.Rows L2 Fx
open PySem.W (Frag)
/-- the world of the program -/
structure Wd (P : Program) (w : World) (K : Frag) (mg : Str → Option Value) (base : Heap) (M : MC) : Prop extends BB mg where
  hK : M.K = K
  ok : MOk M
  cl : Cls K M.C
  n_places : NoAttr K M.C "places"
  n_door : NoAttr K M.C "door"
  n_jumps : NoAttr K M.C "jumps"
  g_LONGEST_WORD : ∃ t, mg "LONGEST_WORD" = some (.int 8 t)
  g_MOST_PLACES : ∃ t, mg "MOST_PLACES" = some (.int 7 t)
  g_MOST_JUMPS : ∃ t, mg "MOST_JUMPS" = some (.int 12 t)
  g_GREATEST_PRICE : ∃ t, mg "GREATEST_PRICE" = some (.int 20 t)
  g_NEVER : ∃ t, mg "NEVER" = some (.int 1000 t)
  x_BadCode : BXp P K mg (M.xa "BadCode") "BadCode" (M.fl "BadCode")
  x_BadLot : BXp P K mg (M.xa "BadLot") "BadLot" (M.fl "BadLot")
  x_BadRun : BXp P K mg (M.xa "BadRun") "BadRun" (M.fl "BadRun")
  x_BadNumber : BXp P K mg (M.xa "BadNumber") "BadNumber" (M.fl "BadNumber")
  x_SeveralDoors : BXp P K mg (M.xa "SeveralDoors") "SeveralDoors" (M.fl "SeveralDoors")
  x_NoCut : BXp P K mg (M.xa "NoCut") "NoCut" (M.fl "NoCut")
theorem Wd.at {P : Program} {w : World} {K : Frag} {mg : Str → Option Value} {base : Heap} {M : MC} (Z : Wd P w K mg base M) (a : Addr) : Wd P w K mg base (M.at a) := ⟨Z.toBB, Z.hK, ⟨Z.ok.wd, Z.ok.asc⟩, Z.cl, Z.n_places, Z.n_door, Z.n_jumps, Z.g_LONGEST_WORD, Z.g_MOST_PLACES, Z.g_MOST_JUMPS, Z.g_GREATEST_PRICE, Z.g_NEVER, Z.x_BadCode, Z.x_BadLot, Z.x_BadRun, Z.x_BadNumber, Z.x_SeveralDoors, Z.x_NoCut⟩
end Pl

set_option maxRecDepth 100000
set_option maxHeartbeats 4000000
namespace Pl
open PySem PySem.Spec PyProof.Rows L2 Fx
open PySem.W (Frag)
abbrev s_numbers_in : Stmt := top 28
abbrev n_numbers_in : List Str := ["mask", "number"]
theorem sc_numbers_in : FnScope n_numbers_in ["mask"] (defScope s_numbers_in) := ⟨rfl, rfl, rfl, by decide +kernel, rfl, by decide +kernel, by decide +kernel⟩
noncomputable def rd_numbers_in : { s : SE → SR // ∀ {P : Program} {w : World} {K : Frag} {mg : Str → Option Value} {base : Heap} {M : MC} {f : Addr} {fd : FuncData} (Z : Wd P w K mg base M) (F : Fun K "numbers_in" "numbers_in" s_numbers_in f fd), FnOk P w K mg base (L2.CX P w) 2 f fd ["mask"] (spD M 1 (run 2 s)) } := ⟨_, fun {P w K mg base M f fd} Z F => have nd := sc_numbers_in.nd
  defO F sc_numbers_in rfl fun cdv A outer s0 H E hr =>
    (s_cons (s_ret (d_callT (cd_tuple Z.hK) (by rfl) Z.tuple (by decide +kernel) (da_cons (d_ofO (do_lc (sl := [1]) rfl nd (di_range1 (by rfl) Z.range (da_cons (d_bits (d_var (i := 0) rfl (by first | exact Or.inl rfl | exact Or.inr (Or.inl rfl) | exact Or.inr (Or.inr rfl)))) da_nil)) (blkOk_by (own := [("number", 1)]) (N := n_numbers_in) (sc := defScope s_numbers_in) (by decide +kernel)) (fun _ _ _ _ _ => (dg_name (i := 1) nd rfl (by first | exact Or.inl rfl | exact Or.inr rfl))) (fun _ _ _ _ _ => (dts_one (dt_tru Z.hK (d_op od_and (d_op od_shr (d_var (i := 0) rfl (by first | exact Or.inl rfl | exact Or.inr (Or.inl rfl) | exact Or.inr (Or.inr rfl))) (d_var (i := 1) rfl (by first | exact Or.inl rfl | exact Or.inr (Or.inl rfl) | exact Or.inr (Or.inr rfl)))) d_int)))) (fun _ _ _ _ _ => (d_var (i := 1) rfl (by first | exact Or.inl rfl | exact Or.inr (Or.inl rfl) | exact Or.inr (Or.inr rfl)))) (by decide))) da_nil))) s_nil)⟩
noncomputable def φ_numbers_in : List D → Oc D := run 2 rd_numbers_in.1
abbrev s_is_one_within : Stmt := top 30
abbrev n_is_one_within : List Str := ["tallies", "whole", "mask", "_"]
theorem sc_is_one_within : FnScope n_is_one_within ["tallies", "whole"] (defScope s_is_one_within) := ⟨rfl, rfl, rfl, by decide +kernel, rfl, by decide +kernel, by decide +kernel⟩
noncomputable def rd_is_one_within : { s : SE → SR // ∀ {P : Program} {w : World} {K : Frag} {mg : Str → Option Value} {base : Heap} {M : MC} {f : Addr} {fd : FuncData} (Z : Wd P w K mg base M) (F : Fun K "_is_one_within" "_is_one_within" s_is_one_within f fd), FnOk P w K mg base (L2.CX P w) 2 f fd ["tallies", "whole"] (spD M 2 (run 4 s)) } := ⟨_, fun {P w K mg base M f fd} Z F => have nd := sc_is_one_within.nd
  defO F sc_is_one_within rfl fun cdv A outer s0 H E hr =>
    (s_cons (s_for (passes_of rfl) rfl (di_seq Z.hK (d_var (i := 0) rfl (by first | exact Or.inl rfl | exact Or.inr (Or.inl rfl) | exact Or.inr (Or.inr rfl)))) (dg_tup (n := 2) Z.hK rfl (dgs_cons (dg_name (i := 2) nd rfl (by first | exact Or.inl rfl | exact Or.inr rfl)) (dgs_cons (dg_name (i := 3) nd rfl (by first | exact Or.inl rfl | exact Or.inr rfl)) dgs_nil))) (s_cons (s_if (dt_cmp (od_eq Z.hK Z.ok hr.units) (d_op od_and (d_var (i := 2) rfl (by first | exact Or.inl rfl | exact Or.inr (Or.inl rfl) | exact Or.inr (Or.inr rfl))) (d_var (i := 1) rfl (by first | exact Or.inl rfl | exact Or.inr (Or.inl rfl) | exact Or.inr (Or.inr rfl)))) (d_var (i := 2) rfl (by first | exact Or.inl rfl | exact Or.inr (Or.inl rfl) | exact Or.inr (Or.inr rfl)))) (s_cons (s_ret d_bl) s_nil) s_nil) s_nil)) (s_cons (s_ret d_bl) s_nil))⟩
noncomputable def φ_is_one_within : List D → Oc D := run 4 rd_is_one_within.1
abbrev s_is_integer : Stmt := top 11
abbrev n_is_integer : List Str := ["value"]
theorem sc_is_integer : FnScope n_is_integer ["value"] (defScope s_is_integer) := ⟨rfl, rfl, rfl, by decide +kernel, rfl, by decide +kernel, by decide +kernel⟩
noncomputable def rd_is_integer : { s : SE → SR // ∀ {P : Program} {w : World} {K : Frag} {mg : Str → Option Value} {base : Heap} {M : MC} {f : Addr} {fd : FuncData} (Z : Wd P w K mg base M) (F : Fun K "is_integer" "is_integer" s_is_integer f fd), FnOk P w K mg base (L2.CX P w) 2 f fd ["value"] (spD M 1 (run 1 s)) } := ⟨_, fun {P w K mg base M f fd} Z F => have nd := sc_is_integer.nd
  defO F sc_is_integer rfl fun cdv A outer s0 H E hr =>
    (s_cons (s_ret (d_and (d_isi (x := "x") (Ty := "int") Z.hK (by rfl) Z.isi (by rfl) Z.int (by decide +kernel) (d_var (i := 0) rfl (by first | exact Or.inl rfl | exact Or.inr (Or.inl rfl) | exact Or.inr (Or.inr rfl)))) (d_one (d_not (d_isi (x := "x") (Ty := "bool") Z.hK (by rfl) Z.isi (by rfl) Z.bool (by decide +kernel) (d_var (i := 0) rfl (by first | exact Or.inl rfl | exact Or.inr (Or.inl rfl) | exact Or.inr (Or.inr rfl)))))))) s_nil)⟩
noncomputable def φ_is_integer : List D → Oc D := run 1 rd_is_integer.1
end Pl

set_option maxRecDepth 100000
set_option maxHeartbeats 4000000
namespace Pl
open PySem PySem.Spec PyProof.Rows L2 Fx
open PySem.W (Frag)
abbrev s_Code_len : Stmt := inClass (top 23) 1
abbrev n_Code_len : List Str := ["self"]
theorem sc_Code_len : FnScope n_Code_len ["self"] (defScope s_Code_len) := ⟨rfl, rfl, rfl, by decide +kernel, rfl, by decide +kernel, by decide +kernel⟩
noncomputable def rd_Code_len : { s : SE → SR // ∀ {P : Program} {w : World} {K : Frag} {mg : Str → Option Value} {base : Heap} {M : MC} {f : Addr} {fd : FuncData} (Z : Wd P w K mg base M) (F : Fun K "__len__" "Code.__len__" s_Code_len f fd), FnOk P w K mg base (L2.CX P w) 2 f fd ["self"] (spD M 1 (run 1 s)) } := ⟨_, fun {P w K mg base M f fd} Z F => have nd := sc_Code_len.nd
  defO F sc_Code_len rfl fun cdv A outer s0 H E hr =>
    (s_cons (s_ret (d_call (cd_len Z.hK) (by rfl) Z.len (by decide +kernel) (da_cons (d_jumps Z.cl Z.n_jumps (d_var (i := 0) rfl (by first | exact Or.inl rfl | exact Or.inr (Or.inl rfl) | exact Or.inr (Or.inr rfl)))) da_nil))) s_nil)⟩
noncomputable def φ_Code_len : List D → Oc D := run 1 rd_Code_len.1
abbrev s_is_ascending : Stmt := top 14
abbrev n_is_ascending : List Str := ["items", "one", "other"]
theorem sc_is_ascending : FnScope n_is_ascending ["items"] (defScope s_is_ascending) := ⟨rfl, rfl, rfl, by decide +kernel, rfl, by decide +kernel, by decide +kernel⟩
noncomputable def rd_is_ascending : { s : SE → SR // ∀ {P : Program} {w : World} {K : Frag} {mg : Str → Option Value} {base : Heap} {M : MC} {f : Addr} {fd : FuncData} (Z : Wd P w K mg base M) (F : Fun K "is_ascending" "is_ascending" s_is_ascending f fd), FnOk P w K mg base (L2.CX P w) 2 f fd ["items"] (spD M 1 (run 3 s)) } := ⟨_, fun {P w K mg base M f fd} Z F => have nd := sc_is_ascending.nd
  defO F sc_is_ascending rfl fun cdv A outer s0 H E hr =>
    (s_cons (s_ret (d_call (cd_all Z.hK rfl) (by rfl) Z.all (by decide +kernel) (da_cons (d_ofO (do_lc (sl := [1, 2]) rfl nd (di_zip Z.hK (by rfl) Z.zip (da_cons (d_var (i := 0) rfl (by first | exact Or.inl rfl | exact Or.inr (Or.inl rfl) | exact Or.inr (Or.inr rfl))) (da_cons (d_slice Z.hK (d_var (i := 0) rfl (by first | exact Or.inl rfl | exact Or.inr (Or.inl rfl) | exact Or.inr (Or.inr rfl))) (dp_some d_int) dp_none) da_nil))) (blkOk_by (own := [("one", 1), ("other", 2)]) (N := n_is_ascending) (sc := defScope s_is_ascending) (by decide +kernel)) (fun _ _ _ _ _ => (dg_tup (n := 2) Z.hK rfl (dgs_cons (dg_name (i := 1) nd rfl (by first | exact Or.inl rfl | exact Or.inr rfl)) (dgs_cons (dg_name (i := 2) nd rfl (by first | exact Or.inl rfl | exact Or.inr rfl)) dgs_nil)))) (fun _ _ _ _ _ => dts_nil) (fun _ _ _ _ _ => (d_cmp (od_lt Z.hK Z.ok hr.units0) (d_var (i := 1) rfl (by first | exact Or.inl rfl | exact Or.inr (Or.inl rfl) | exact Or.inr (Or.inr rfl))) (d_var (i := 2) rfl (by first | exact Or.inl rfl | exact Or.inr (Or.inl rfl) | exact Or.inr (Or.inr rfl))))) (by decide))) da_nil))) s_nil)⟩
noncomputable def φ_is_ascending : List D → Oc D := run 3 rd_is_ascending.1
abbrev s_is_place : Stmt := top 21
abbrev n_is_place : List Str := ["places", "value"]
theorem sc_is_place : FnScope n_is_place ["places", "value"] (defScope s_is_place) := ⟨rfl, rfl, rfl, by decide +kernel, rfl, by decide +kernel, by decide +kernel⟩
noncomputable def rd_is_place : { s : SE → SR // ∀ {P : Program} {w : World} {K : Frag} {mg : Str → Option Value} {base : Heap} {M : MC} {f : Addr} {fd : FuncData} (Z : Wd P w K mg base M) (F : Fun K "is_place" "is_place" s_is_place f fd), FnOk P w K mg base (L2.CX P w) 2 f fd ["places", "value"] (spD M 2 (run 2 s)) } := ⟨_, fun {P w K mg base M f fd} Z F => have nd := sc_is_place.nd
  defO F sc_is_place rfl fun cdv A outer s0 H E hr =>
    (s_cons (s_ret (d_and (d_isi (x := "x") (Ty := "str") Z.hK (by rfl) Z.isi (by rfl) Z.str (by decide +kernel) (d_var (i := 1) rfl (by first | exact Or.inl rfl | exact Or.inr (Or.inl rfl) | exact Or.inr (Or.inr rfl)))) (d_one (d_cmp (od_in Z.hK Z.ok) (d_var (i := 1) rfl (by first | exact Or.inl rfl | exact Or.inr (Or.inl rfl) | exact Or.inr (Or.inr rfl))) (d_var (i := 0) rfl (by first | exact Or.inl rfl | exact Or.inr (Or.inl rfl) | exact Or.inr (Or.inr rfl))) (by rfl))))) s_nil)⟩
noncomputable def φ_is_place : List D → Oc D := run 2 rd_is_place.1
end Pl

set_option maxRecDepth 100000
set_option maxHeartbeats 4000000
namespace Pl
open PySem PySem.Spec PyProof.Rows L2 Fx
open PySem.W (Frag)
abbrev s_places_reached : Stmt := top 25
abbrev n_places_reached : List Str := ["door", "jumps", "reached", "at", "begin", "end", "_"]
theorem sc_places_reached : FnScope n_places_reached ["door", "jumps"] (defScope s_places_reached) := ⟨rfl, rfl, rfl, by decide +kernel, rfl, by decide +kernel, by decide +kernel⟩
noncomputable def rd_places_reached : { s : SE → SR // ∀ {P : Program} {w : World} {K : Frag} {mg : Str → Option Value} {base : Heap} {M : MC} {f : Addr} {fd : FuncData} (Z : Wd P w K mg base M) (F : Fun K "places_reached" "places_reached" s_places_reached f fd), FnOk P w K mg base (L2.CX P w) 2 f fd ["door", "jumps"] (spD M 2 (run 7 s)) } := ⟨_, fun {P w K mg base M f fd} Z F => have nd := sc_places_reached.nd
  defO F sc_places_reached rfl fun cdv A outer s0 H E hr =>
    (s_cons (s_setO (i := 2) nd rfl (by first | exact Or.inl rfl | exact Or.inr rfl) (do_lst (da_cons (d_var (i := 0) rfl (by first | exact Or.inl rfl | exact Or.inr (Or.inl rfl) | exact Or.inr (Or.inr rfl))) da_nil))) (s_cons (s_set (i := 3) nd rfl (by first | exact Or.inl rfl | exact Or.inr rfl) d_int) (s_cons (s_while (passes_of rfl) (dt_cmp (od_lt Z.hK Z.ok hr.units0) (d_var (i := 3) rfl (by first | exact Or.inl rfl | exact Or.inr (Or.inl rfl) | exact Or.inr (Or.inr rfl))) (d_call (cd_len Z.hK) (by rfl) Z.len (by decide +kernel) (da_cons (d_var (i := 2) rfl (by first | exact Or.inl rfl | exact Or.inr (Or.inl rfl) | exact Or.inr (Or.inr rfl))) da_nil))) (s_cons (s_for (passes_of rfl) rfl (di_seq Z.hK (d_var (i := 1) rfl (by first | exact Or.inl rfl | exact Or.inr (Or.inl rfl) | exact Or.inr (Or.inr rfl)))) (dg_tup (n := 3) Z.hK rfl (dgs_cons (dg_name (i := 4) nd rfl (by first | exact Or.inl rfl | exact Or.inr rfl)) (dgs_cons (dg_name (i := 5) nd rfl (by first | exact Or.inl rfl | exact Or.inr rfl)) (dgs_cons (dg_name (i := 6) nd rfl (by first | exact Or.inl rfl | exact Or.inr rfl)) dgs_nil)))) (s_cons (s_if (PW.pt (dw_and (dt_cmp (od_eq Z.hK Z.ok hr.units) (d_var (i := 4) rfl (by first | exact Or.inl rfl | exact Or.inr (Or.inl rfl) | exact Or.inr (Or.inr rfl))) (d_ix Z.hK (d_var (i := 2) rfl (by first | exact Or.inl rfl | exact Or.inr (Or.inl rfl) | exact Or.inr (Or.inr rfl))) (d_var (i := 3) rfl (by first | exact Or.inl rfl | exact Or.inr (Or.inl rfl) | exact Or.inr (Or.inr rfl))))) (dw_one (dt_cmp (od_notIn Z.hK Z.ok) (d_var (i := 5) rfl (by first | exact Or.inl rfl | exact Or.inr (Or.inl rfl) | exact Or.inr (Or.inr rfl))) (d_var (i := 2) rfl (by first | exact Or.inl rfl | exact Or.inr (Or.inl rfl) | exact Or.inr (Or.inr rfl))) (by rfl))))) (s_cons (s_app (i := 2) rfl (by first | exact Or.inl rfl | exact Or.inr (Or.inl rfl) | exact Or.inr (Or.inr rfl)) (d_var (i := 5) rfl (by first | exact Or.inl rfl | exact Or.inr (Or.inl rfl) | exact Or.inr (Or.inr rfl)))) s_nil) s_nil) s_nil)) (s_cons (s_aug (i := 3) nd rfl (by first | exact Or.inl rfl | exact Or.inr rfl) d_int od_iadd) s_nil)) 60) (s_cons (s_ret (d_var (i := 2) rfl (by first | exact Or.inl rfl | exact Or.inr (Or.inl rfl) | exact Or.inr (Or.inr rfl)))) s_nil))))⟩
noncomputable def φ_places_reached : List D → Oc D := run 7 rd_places_reached.1
end Pl

set_option maxRecDepth 100000
set_option maxHeartbeats 4000000
namespace Pl
open PySem PySem.Spec PyProof.Rows L2 Fx
open PySem.W (Frag)
/-! ### _parts_by_place -/
def partsInit : List D → NW → Option NW
  | [], w => some w
  | k :: r, w => if isKey k = true then (kEqs k w.1).bind fun fs => if fs.any id = true then none else partsInit r (w.1 ++ [k], w.2 ++ [([], [])]) else none
def partsStep (n : Nat) (d : D) (w : NW) : Option NW := match d with
  | .tup [b, e, .int p] => if isKey b = true ∧ isKey e = true ∧ n ≤ 1000 then (idxD b w.1).bind fun j => (w.2[j]?).bind fun u => (lookD e u.1 u.2).bind fun o => match o.getD (.tup [.int 0, .int 0]) with
    | .tup [.int m, .int h] => if u.1.length ≤ 1000 then (putD e (.tup [.int (Builtin.bitOr m (1 * 2 ^ n)), .int (h + p)]) u).map fun u' => (w.1, w.2.set j u') else none
    | _ => none else none
  | _ => none
def partsGo : Nat → List D → NW → Option NW
  | _, [], w => some w
  | n, d :: ds, w => (partsStep n d w).bind (partsGo (n + 1) ds)
def φ_parts_by_place : List D → Oc D
  | [.code (.tup ps) _ (.tup js)] => if ps.length ≤ 1000 then (match (partsInit ps ([], [])).bind (partsGo 0 js) with
    | some w => .ok (.dic w.1 (w.2.map fun u => .dic u.1 u.2))
    | none => .bad) else .bad
  | _ => .bad
theorem partsInit_app : ∀ {as bs : List D} {w : NW}, partsInit (as ++ bs) w = (partsInit as w).bind (partsInit bs)
  | [], bs, w => rfl
  | a :: as, bs, w => by
    simp only [List.cons_append, partsInit]
    split
    · cases kEqs a w.1 with
      | none => rfl
      | some fs =>
        simp only [Option.bind_some]
        split
        · rfl
        · exact partsInit_app
    · rfl
theorem partsGo_app : ∀ {as bs : List D} {n : Nat} {w : NW}, partsGo n (as ++ bs) w = (partsGo n as w).bind (partsGo (n + as.length) bs)
  | [], bs, n, w => rfl
  | a :: as, bs, n, w => by
    simp only [List.cons_append, partsGo]
    cases partsStep n a w with
    | none => rfl
    | some w' =>
      simp only [Option.bind_some, List.length_cons]
      rw [partsGo_app, show n + 1 + as.length = n + (as.length + 1) by omega]
abbrev s_parts_by_place : Stmt := top 33
abbrev n_parts_by_place : List Str := ["code", "parts", "place", "number", "begin", "end", "price", "mask", "whole"]
theorem sc_parts_by_place : FnScope n_parts_by_place ["code"] (defScope s_parts_by_place) := ⟨rfl, rfl, rfl, by decide +kernel, rfl, by decide +kernel, by decide +kernel⟩
theorem partsInit_len : ∀ {as : List D} {w r : NW}, partsInit as w = some r → r.1.length = w.1.length + as.length
  | [], w, r, e => by cases e; rfl
  | k :: as, w, r, e => by
    unfold partsInit at e
    split at e
    · obtain ⟨fs, e1, e2⟩ := Option.bind_eq_some_iff.mp e
      split at e2
      · cases e2
      · have q := partsInit_len e2
        simp only [List.length_append, List.length_cons, List.length_nil] at q ⊢
        omega
    · cases e
theorem putK_new {kvs : List (Key × V)} {k : Key} {v : V} (h : ¬ (kvs.map fun p => decide (p.1 = k)).any id = true) : putK kvs k v = kvs ++ [(k, v)] := by
  unfold putK
  rw [if_neg]
  rw [List.any_map] at h
  exact h
theorem post_eq {M : MC} {E : XK} {v d : Type} {RR : Hp → v → d → Prop} {F H : Hp} {Q : v → Hp → Prop} {o o' : Oc d} (e : o = o') (h : Post M E RR F H Q o') : Post M E RR F H Q o := by
  rw [e]
  exact h
theorem ren_none {M : MC} {F : Hp} {σ : L2.St} {n : Nat} (h : n ≤ σ.length) : REn M F σ (List.replicate n none) := ⟨by rw [List.length_replicate]; exact h, fun i d e => by
  rw [List.getElem?_replicate] at e
  split at e <;> cases e⟩
theorem some_at {α : Type} {l : List α} {i : Nat} {a : α} (h : l[i]? = some a) : i < l.length := (List.getElem?_eq_some_iff.mp h).1
theorem ok_parts_by_place {P : Program} {w : World} {K : Frag} {mg : Str → Option Value} {base : Heap} {M : MC} {f : Addr} {fd : FuncData} (Z : Wd P w K mg base M) (F : Fun K "_parts_by_place" "_parts_by_place" s_parts_by_place f fd) : FnOk P w K mg base (L2.CX P w) 2 f fd ["code"] (spD M 1 φ_parts_by_place) := by
  refine F.okX sc_parts_by_place (fun vs H Q E h => by rw [spD_len h]; rfl) (fun cdv A outer s H vs Q E hr h => ?_)
  have nd := sc_parts_by_place.nd
  obtain ⟨F0, ds, sx, r, p⟩ := h
  unfold many at p
  split at p
  · rename_i c
    have hu := hr.units1
    refine ⟨_, pss_cons (ps_asgDc (i := 1) (g := tPG M (bN 2) [2]) (tt := tPT M NoX noIf) (tk := tP M NoX (gV 2)) rfl nd rfl rfl (sw_dict rfl rfl rfl (by decide +kernel)) (di_seq Z.hK (d_places (E := NoX) Z.cl Z.n_places (d_var (i := 0) rfl (Or.inl rfl)))) (blkOk_by (own := [("place", 2)]) (N := n_parts_by_place) (sc := defScope s_parts_by_place) (by decide +kernel))
        (fun _ _ _ _ _ => dg_name (i := 2) nd rfl (Or.inl rfl)) (fun _ _ _ _ _ => dts_nil) (fun _ _ _ _ _ => d_var (i := 2) rfl (by first | exact Or.inl rfl | exact Or.inr (Or.inl rfl) | exact Or.inr (Or.inr rfl))) (fun _ _ _ _ _ => pe_dnewK) (by intro _; rfl))
      (pss_cons (ps_for (passes_of rfl) rfl (di_enum (E := NoX) Z.hK (by rfl) Z.enum (da_cons (d_jumps Z.cl Z.n_jumps (d_var (i := 0) rfl (Or.inl rfl))) da_nil)) (dg_tup (n := 2) Z.hK rfl (dgs_cons (dg_name (i := 3) nd rfl (Or.inl rfl)) (dgs_cons (dg_tup (n := 3) Z.hK rfl (dgs_cons (dg_name (i := 4) nd rfl (Or.inl rfl)) (dgs_cons (dg_name (i := 5) nd rfl (Or.inl rfl)) (dgs_cons (dg_name (i := 6) nd rfl (Or.inl rfl)) dgs_nil)))) dgs_nil)))
        (pss_cons (ps_asg (pe_dget2 hu (pe_dget hu (pv 1) (pv 4) (fun _ _ => rfl)) (pv 5) (d_tup (M := M) (E := NoX) (da_cons d_int (da_cons d_int da_nil))) ⟨rfl, rfl, rfl, rfl⟩) (dg_tup (n := 2) Z.hK rfl (dgs_cons (dg_name (i := 7) nd rfl (Or.inl rfl)) (dgs_cons (dg_name (i := 8) nd rfl (Or.inl rfl)) dgs_nil))) rfl rfl rfl)
          (pss_one (ps_dput hu (pe_dget hu (pv 1) (pv 4) (fun _ _ => rfl)) (pv 5) (d_tup (M := M) (E := NoX) (da_cons (d_op od_or (d_var (i := 7) rfl (Or.inl rfl)) (d_op od_shl d_int (d_var (i := 3) rfl (Or.inl rfl)))) (da_cons (d_op (od_plus Z.hK) (d_var (i := 8) rfl (Or.inl rfl)) (d_var (i := 6) rfl (Or.inl rfl))) da_nil))) rfl))))
      (pss_one (ps_ret (pv 1)))), ?_⟩
    unfold φ_parts_by_place at p
    split at p
    · rename_i ps b0 js
      split at p
      · rename_i lp
        cases z0 : (partsInit ps ([], [])).bind (partsGo 0 js) with
        | none => rw [z0] at p; exact p.elim
        | some w9 =>
          rw [z0] at p
          obtain ⟨w0, zi, zg⟩ := Option.bind_eq_some_iff.mp z0
          have r0 := (rs_start (N := n_parts_by_place) sx r).enA
          have l0 : 9 ≤ (L2.start n_parts_by_place vs).length := r0.le
          have c0 := r0.at_ 0 (.code (.tup ps) b0 (.tup js)) rfl
          generalize hσ : L2.start n_parts_by_place vs = σ0 at *
          refine ⟨F0, _, sx, r0, ?_⟩
          show Post M NoX _ F0 H _ (.ok ps)
          intro J F1 H1 e1 wd D hD
          obtain ⟨G1, hG1, wd⟩ := wd
          refine Fx.dc_it wd (fun i H2 => ∃ Fi Bi kvs ww, NI M F1 H1 Fi Bi H2 D kvs ww ∧ partsInit (ps.take i) ([], []) = some ww) ⟨F1, _, [], ([], []), NI.start (Ex.refl e1.s) hD, by rw [List.take_zero]; rfl⟩ (fun i H2 _ ⟨Fi, Bi, kvs, ww, n, _⟩ => hG1 H2 (n.g.f.trans n.g.s.s)) ?_ ?_
          · rintro i x H2 H3 hi ⟨Fi, Bi, kvs, ww, n, ei⟩ y
            obtain ⟨F3, d, e3, ed, rd⟩ := y Fi n.g.f n.g.s
            have n := n.grow e3
            have li : i < ps.length := hi
            have zz := zi
            rw [split_at ed, partsInit_app, ei] at zz
            simp only [Option.bind_some, partsInit] at zz
            split at zz
            · rename_i ck
              obtain ⟨fs, ef, zz⟩ := Option.bind_eq_some_iff.mp zz
              split at zz
              · cases zz
              · rename_i nf
                have rw' : REn M F3 (L2.wipe σ0 [2]) (List.replicate 9 none) := ren_none (by rw [L2.wipe_length]; exact l0)
                refine ⟨F3, _, d, (List.replicate 9 none).set 2 (some d), e3.s, rw', rd, rfl, fun σ' l' q' o' => ⟨(wipe_congr l' fun j hj => o' j fun z => hj z).trans wipe_wipe, F3, _, e3.s, q', ?_⟩⟩
                show Post M NoX _ F3 H3 _ (.ok true)
                intro t' F4 H4 e4 et
                subst et
                rw [if_pos rfl]
                have n := n.grow e4
                refine ⟨F4, _, e4.s, q'.ext e4.f, ?_⟩
                show Post M NoX _ F4 H4 _ (.ok d)
                intro v F5 H5 e5 rv
                have n := n.grow e5
                intro a ha
                obtain ⟨k, rfl, rk⟩ := rv.key ck
                have hd : H5 D = some (.dK kvs) := (n.b D _ n.top).1
                have hda : D ≠ a := ne_of_none hd ha
                have qk := kEqs_val Z.ok rk n.ks ef
                subst qk
                have lk : kvs.length = ww.1.length := by
                  have q := n.ks.len
                  rw [List.length_map] at q
                  exact q
                refine ⟨kvs, k, rfl, by rw [upd_ne hda]; exact hd, ?_, F5, upd (upd Bi a (.dK [])) D (.dK (kvs ++ [(k, .ref a)])), kvs ++ [(k, .ref a)], (ww.1 ++ [d], ww.2 ++ [([], [])]), ?_, ?_⟩
                · have q := partsInit_len ei
                  rw [List.length_take] at q
                  simp only [List.length_nil] at q
                  have : kvs.length ≤ 1000 := by omega
                  exact Nat.lt_of_le_of_lt this (by decide)
                · rw [putK_new nf]
                  exact n.more ha rk
                · rw [take_at ed, partsInit_app, ei]
                  simp only [Option.bind_some, partsInit]
                  rw [if_pos ck, ef, Option.bind_some, if_neg nf]
            · cases zz
          · rintro H2 ⟨Fi, Bi, kvs, ww, n, ei⟩
            rw [List.take_length, zi] at ei
            cases ei
            have n := n
            have ls : 9 ≤ (σ0.set 1 (some (.ref D))).length := by rw [List.length_set]; exact l0
            have s1 : (σ0.set 1 (some (.ref D)))[1]? = some (some (.ref D)) := List.getElem?_set_self (by omega)
            have s0 : (σ0.set 1 (some (.ref D)))[0]? = σ0[0]? := List.getElem?_set_ne (by decide)
            obtain ⟨vc, hc0, rc0⟩ := c0
            rw [hc0] at s0
            dsimp only [gName]
            generalize σ0.set 1 (some (.ref D)) = σ1 at *
            refine ⟨Fi, (List.replicate 9 none).set 0 (some (.code (.tup ps) b0 (.tup js))), n.g.s, ⟨by rw [List.length_set, List.length_replicate]; exact ls, fun i d e => ?_⟩, ?_⟩
            · match i, e with
              | 0, e =>
                cases e
                exact ⟨vc, s0, (rc0.ext e1.f).ext n.g.f⟩
              | i + 1, e =>
                rw [List.getElem?_set_ne (by omega), List.getElem?_replicate] at e
                split at e <;> cases e
            show Post M NoX _ Fi H2 _ (.ok (enumD 0 js))
            intro J2 F2 H3 e2 wd
            obtain ⟨G2, hG2, wd⟩ := wd
            have n := n.grow e2
            refine for_it wd (fun i σ H => ∃ Fi Bi wi, NI M F1 H1 Fi Bi H D kvs wi ∧ Same F2 Fi ∧ partsGo 0 (js.take i) w0 = some wi ∧ σ[1]? = some (some (.ref D)) ∧ 9 ≤ σ.length) ⟨F2, Bi, w0, n, Same.refl _, by rw [List.take_zero]; rfl, s1, ls⟩ (fun i σ H _ ⟨Fi, Bi, wi, n, sm, _⟩ => hG2 H (sm.trans n.g.s.s)) ?_ ?_
            · rintro i x σ H H' hi ⟨Fi, Bi, wi, n, sm, ei, sd, lσ⟩ y
              obtain ⟨F3, d, e3, ed, rd⟩ := y Fi sm n.g.s
              have n := n.grow e3
              rw [enumD_at] at ed
              obtain ⟨d0, ed0, rfl⟩ := Option.map_eq_some_iff.mp ed
              simp only [Nat.zero_add] at rd
              have li : i < js.length := some_at ed0
              have ti : (js.take i).length = i := by rw [List.length_take]; omega
              have zz := zg
              rw [split_at ed0, partsGo_app, ei] at zz
              simp only [Option.bind_some, ti, Nat.zero_add, partsGo] at zz
              obtain ⟨w', es, _⟩ := Option.bind_eq_some_iff.mp zz
              have step : partsGo 0 (js.take (i + 1)) w0 = some w' := by
                rw [take_at ed0, partsGo_app, ei]
                simp only [Option.bind_some, ti, Nat.zero_add, partsGo]
                rw [es]
                rfl
              unfold partsStep at es
              split at es
              · rename_i b e p0
                split at es
                · rename_i cc
                  obtain ⟨kb, ke, hn⟩ := cc
                  obtain ⟨j, ej, es⟩ := Option.bind_eq_some_iff.mp es
                  obtain ⟨u, eu, es⟩ := Option.bind_eq_some_iff.mp es
                  obtain ⟨o, eo, es⟩ := Option.bind_eq_some_iff.mp es
                  split at es
                  · rename_i m h eg
                    split at es
                    · rename_i lu
                      obtain ⟨u', eu', rfl⟩ := Option.map_eq_some_iff.mp es
                      refine ⟨F3, List.replicate 9 none, _, (((((List.replicate 9 none).set 3 (some (.int (i : Nat)))).set 4 (some b)).set 5 (some e)).set 6 (some (.int p0))), n.g.s, ren_none lσ, rd, rfl, fun σ' l re ho => ?_⟩
                      have sd1 : σ'[1]? = some (some (.ref D)) := (ho 1 (by decide)).trans sd
                      obtain ⟨v4, h4, r4⟩ := re.at_ 4 b rfl
                      obtain ⟨v5, h5, r5⟩ := re.at_ 5 e rfl
                      obtain ⟨k4, rfl, r4⟩ := r4.key kb
                      obtain ⟨k5, rfl, r5⟩ := r5.key ke
                      have hd : H' D = some (.dK kvs) := (n.b D _ n.top).1
                      obtain ⟨q, kv, hq, bq, q1, q2⟩ := n.vs.at eu
                      obtain ⟨v, g1, g2⟩ := idx_val Z.ok r4 n.ks ej
                      rw [hq] at g1
                      cases g1
                      have hqH : H' q = some (.dK kv) := (n.b q _ bq).1
                      refine ⟨.ref D, sd1, kV k4, h4, D, .ref q, rfl, .inl ⟨kvs, k4, .inl hd, rfl, g2.symm⟩, q, rfl, .inl ⟨kv, .inl hqH⟩, kV k5, h5, F3, _, n.g.s, re, ?_⟩
                      show Post M NoX (R M) F3 H' _ (Oc.ok (Pl.D.tup [.int 0, .int 0]))
                      intro z F4 H4 e4 rz
                      have n := n.grow e4
                      have hq4 : H4 q = some (.dK kv) := (n.b q _ bq).1
                      obtain ⟨y1, y2⟩ := lookD_val Z.ok (r5.ext e4.f) (q1.ext e4.f) (q2.ext e4.f) eo
                      have rx : R M F4 ((valV kv k5).getD z) (.tup [.int m, .int h]) := by
                        rw [← eg]
                        cases o with
                        | none => rw [y1 rfl]; exact rz
                        | some d => obtain ⟨v, g, r⟩ := y2 d rfl; rw [g]; exact r
                      refine ⟨valV kv k5, .inl ⟨kv, k5, .inl hq4, rfl, rfl⟩, F4, _, _, ((((((List.replicate 9 none).set 3 (some (.int (i : Nat)))).set 4 (some b)).set 5 (some e)).set 6 (some (.int p0))).set 7 (some (.int m))).set 8 (some (.int h)), n.g.s, re.ext e4.f, rx, rfl, fun σ2 l2 re2 ho2 => ?_⟩
                      refine ⟨F4, _, n.g.s, re2, post_eq (o' := Oc.ok (Pl.D.tup [.int (Builtin.bitOr m (1 * 2 ^ i)), .int (h + p0)])) ?_ fun v F5 H5 e5 rv => ?_⟩
                      · have c1 : (decide ((0 : Int) ≤ (i : Nat)) && decide (((i : Nat) : Int) ≤ 1000000) && decide ((1 : Int).natAbs < 2 ^ 64)) = true := by simp; omega
                        have es : fShl (.int 1) (.int (i : Nat)) = some (.int (1 * 2 ^ i)) := by
                          show (if _ = true then _ else _) = _
                          rw [if_pos c1]
                          rfl
                        show Oc.bind (Oc.bind (Oc.bind (Oc.ok (Pl.D.int m)) fun a => Oc.bind (Oc.of (fShl (.int 1) (.int (i : Nat)))) fun b => Oc.of (fOr a b)) _) _ = _
                        rw [es]
                        rfl
                      · have n := n.grow e5
                        have sd2 : σ2[1]? = some (some (.ref D)) := (ho2 1 (by decide)).trans sd1
                        obtain ⟨v4, h4, r4⟩ := re2.at_ 4 b rfl
                        obtain ⟨v5, h5, r5⟩ := re2.at_ 5 e rfl
                        obtain ⟨k4, rfl, r4⟩ := r4.key kb
                        obtain ⟨k5, rfl, r5⟩ := r5.key ke
                        have hd : H5 D = some (.dK kvs) := (n.b D _ n.top).1
                        have hq5 : H5 q = some (.dK kv) := (n.b q _ bq).1
                        obtain ⟨v', g1, g2⟩ := idx_val Z.ok (r4.ext e5.f) n.ks ej
                        rw [hq] at g1
                        cases g1
                        have q1 := (q1.ext e4.f).ext e5.f
                        have q2 := (q2.ext e4.f).ext e5.f
                        obtain ⟨t1, t2⟩ := putD_val Z.ok (r5.ext e5.f) rv q1 q2 eu'
                        have lk : kv.length = u.1.length := by
                          have q := q1.len
                          rw [List.length_map] at q
                          exact q
                        exact ⟨.ref D, sd2, kV k4, h4, D, .ref q, rfl, .inl ⟨kvs, k4, .inl hd, rfl, g2.symm⟩, kV k5, h5, q, _, rfl, .inl ⟨kv, k5, hq5, rfl, Nat.lt_of_le_of_lt (by omega : kv.length ≤ 1000) (by decide), rfl⟩, F5, _, _, n.put hq bq t1 t2, ((sm.trans e3.f).trans e4.f).trans e5.f, step, sd2, by omega⟩
                    · cases es
                  · cases es
                · cases es
              · cases es
            · rintro σ H ⟨Fi, Bi, wi, n, sm, ez, sd, _⟩
              rw [enumD_len, List.take_length, zg] at ez
              cases ez
              obtain ⟨x, rx⟩ := n.told
              exact ⟨_, sd, p _ _ _ (e1.trans x) rx⟩
      · exact p.elim
    · exact p.elim
  · exact p.elim
end Pl

set_option maxRecDepth 100000
set_option maxHeartbeats 4000000
namespace Pl
open PySem PySem.Spec PyProof.Rows L2 Fx
open PySem.W (Frag)
/-! ### words -/
theorem let26 : ∀ c : Fin 26, (decide (97 + c.val < 128) && (Unicode.isAlpha (97 + c.val) && (Unicode.isLower (97 + c.val) && !(Unicode.isUpper (97 + c.val) || Unicode.isTitle (97 + c.val))))) = true := by decide +kernel
theorem let_one {c : Nat} (h1 : 97 ≤ c) (h2 : c ≤ 122) : c < 128 ∧ Unicode.isAlpha c = true ∧ Unicode.isLower c = true ∧ (Unicode.isUpper c || Unicode.isTitle c) = false := by
  have q := let26 ⟨c - 97, by omega⟩
  have e : 97 + (c - 97) = c := by omega
  simp only [e, Bool.and_eq_true, Bool.not_eq_true', decide_eq_true_eq] at q
  exact ⟨q.1, q.2.1, q.2.2.1, q.2.2.2⟩
theorem word_is {x : Str} (h : wordQ x = true) : Txt.isascii x = true ∧ Txt.isalpha x = true ∧ Txt.islower x = true ∧ x.length ≤ 8 := by
  unfold wordQ at h
  simp only [Bool.and_eq_true, decide_eq_true_eq, Array.all_eq_true] at h
  obtain ⟨⟨h1, h2⟩, h3⟩ := h
  have l : ∀ (i : Nat) (hi : i < x.cps.size), x.cps[i] < 128 ∧ Unicode.isAlpha x.cps[i] = true ∧ Unicode.isLower x.cps[i] = true ∧ (Unicode.isUpper x.cps[i] || Unicode.isTitle x.cps[i]) = false := fun i hi => let_one (h3 i hi).1 (h3 i hi).2
  refine ⟨?_, ?_, ?_, h2⟩
  · unfold Txt.isascii
    rw [Array.all_eq_true]
    exact fun i hi => decide_eq_true (l i hi).1
  · unfold Txt.isalpha
    have e : x.cps.all Unicode.isAlpha = true := by
      rw [Array.all_eq_true]
      exact fun i hi => (l i hi).2.1
    rw [e, Bool.and_true]
    exact decide_eq_true (show 0 < x.cps.size by omega)
  · unfold Txt.islower
    have e1 : x.cps.any Unicode.isLower = true := by
      rw [Array.any_eq_true]
      exact ⟨0, by omega, (l 0 (by omega)).2.2.1⟩
    have e2 : (x.cps.any fun c => Unicode.isUpper c || Unicode.isTitle c) = false := by
      rw [Array.any_eq_false]
      intro i hi
      rw [(l i hi).2.2.2]
      simp
    rw [e1, e2]
    rfl
def wordD : SS → Option Bool
  | .lit x => if x.length ≤ 1000 then some (!decide ((8 : Int) < (x.length : Int)) && (Txt.isascii x && (Txt.isalpha x && Txt.islower x))) else none
  | .atm _ => some true
def φ_is_word : List D → Oc D
  | [.str s] => match wordD s with
    | some b => .ok (.bl b)
    | none => .bad
  | [d] => if notCode d = true then .ok (.bl false) else .bad
  | _ => .bad
abbrev s_is_word : Stmt := top 13
theorem sc_is_word : FnScope ["value"] ["value"] (defScope s_is_word) := ⟨rfl, rfl, rfl, by decide +kernel, rfl, by decide +kernel, by decide +kernel⟩
theorem ok_is_word {P : Program} {w : World} {K : Frag} {mg : Str → Option Value} {base : Heap} {M : MC} {f : Addr} {fd : FuncData} (Z : Wd P w K mg base M) (F : Fun K "is_word" "is_word" s_is_word f fd) : FnOk P w K mg base (L2.CX P w) 2 f fd ["value"] (spD M 1 φ_is_word) := by
  refine F.okX sc_is_word (fun vs H Q E h => by rw [spD_len h]; rfl) (fun cdv A outer s H vs Q E hr h => ?_)
  obtain ⟨t8, g8⟩ := Z.g_LONGEST_WORD
  obtain ⟨F0, ds, sx, r, p⟩ := h
  unfold many at p
  split at p
  · rename_i c
    obtain ⟨d, rfl⟩ : ∃ d, ds = [d] := by
      match ds, c with
      | [d], _ => exact ⟨d, rfl⟩
    cases r with
    | cons rv r =>
      cases r
      rename_i v
      refine ⟨_, pss_cons (ps_if (PW.pt (pw_or (pt_not (pt_val (pe_callB call_isi (by rfl) Z.isi (by decide +kernel) (pa_cons (pv 0) (pa_cons (pe_bltn (v := .ty "str") (u := .type "str") (by rfl) Z.str (by decide +kernel) rfl) pa_nil)))))
          (pw_or1 (pt_cmpR op_gt (pe_callB call_len_str (by rfl) Z.len PySem.boot_len (pa_cons (pv 0) pa_nil)) (pe_glob (v := .int 8) (by rfl) g8 ⟨_, rfl⟩) (nomark _))))) (pss_one (ps_ret pe_bl)) pss_nil)
        (pss_one (ps_ret (pe_and (pe_bm0 PySem.F.plainAttrs_str PySem.F.slot_str_isascii PySem.F.type_str_isascii mt_isascii (pv 0)) (pe_and (pe_bm0 PySem.F.plainAttrs_str PySem.F.slot_str_isalpha PySem.F.type_str_isalpha mt_isalpha (pv 0))
          (pe_one (pe_bm0 PySem.F.plainAttrs_str PySem.F.slot_str_islower PySem.F.type_str_islower mt_islower (pv 0))))))), ?_⟩
      by_cases hs : ∃ u, d = .str u
      · obtain ⟨u, rfl⟩ := hs
        obtain ⟨rfl, hin, hok⟩ := rv.str_inv
        have p : Post M E (R M) F0 H Q (match wordD u with
          | some b => .ok (.bl b)
          | none => .bad) := p
        cases zb : wordD u with
        | none => rw [zb] at p; exact p.elim
        | some b =>
          rw [zb] at p
          have k : Q (.bl b) H := p.pure sx (.bl b)
          obtain ⟨hl, eb⟩ : (u.val M).length ≤ 1000 ∧ (!decide ((8 : Int) < ((u.val M).length : Int)) && (Txt.isascii (u.val M) && (Txt.isalpha (u.val M) && Txt.islower (u.val M)))) = b := by
            cases u with
            | lit x =>
              have zb : (if x.length ≤ 1000 then some (!decide ((8 : Int) < (x.length : Int)) && (Txt.isascii x && (Txt.isalpha x && Txt.islower x))) else none) = some b := zb
              split at zb
              · rename_i c1
                exact ⟨c1, Option.some.inj zb⟩
              · cases zb
            | atm n =>
              obtain ⟨g1, g2, g3, g4⟩ := word_is (Z.ok.wd n hin)
              cases zb
              refine ⟨Nat.le_trans g4 (by decide), ?_⟩
              show (!decide ((8 : Int) < ((M.al n).length : Int)) && (Txt.isascii (M.al n) && (Txt.isalpha (M.al n) && Txt.islower (M.al n)))) = true
              rw [g1, g2, g3, decide_eq_false (by omega)]
              rfl
          generalize u.val M = x at hl eb hok
          subst eb
          refine ⟨_, rfl, _, _, _, _, true, rfl, .ty _, .base (.str x), kit_ty (show kitB "str" "str" = some true by decide +kernel), true, rfl, iteF ⟨_, rfl, _, rfl, Nat.le_of_lt (small1000 hl), _, _, rfl, rfl, _, rfl, ?_⟩⟩
          by_cases h8 : (8 : Int) < (x.length : Int)
          · rw [decide_eq_true h8] at k ⊢
            exact iteT k
          · rw [decide_eq_false h8] at k ⊢
            refine iteF ⟨_, rfl, rfl, _, rfl, rfl, trivial, Txt.isascii x, rfl, ?_⟩
            cases e1 : Txt.isascii x with
            | false =>
              rw [e1] at k
              exact iteF k
            | true =>
              rw [e1] at k
              refine iteT ⟨_, rfl, rfl, _, rfl, rfl, trivial, Txt.isalpha x, rfl, ?_⟩
              cases e2 : Txt.isalpha x with
              | false =>
                rw [e2] at k
                exact iteF k
              | true =>
                rw [e2] at k
                exact iteT ⟨_, rfl, rfl, _, rfl, rfl, trivial, k⟩
      · have p : Post M E (R M) F0 H Q (if notCode d = true then .ok (.bl false) else .bad) := by
          cases d with
          | str u => exact absurd ⟨u, rfl⟩ hs
          | _ => exact p
        split at p
        · rename_i c
          have kb : kitB (tyD d) "str" = some false := by
            cases d with
            | str u => exact absurd ⟨u, rfl⟩ hs
            | _ => simp only [tyD]; decide +kernel
          have ty := (rv.ext sx.s).ty c
          rw [Z.hK] at ty
          exact ⟨_, rfl, _, _, _, _, false, rfl, .ty _, ty, kit_ty kb, false, rfl, iteT (p.pure sx (.bl false))⟩
        · exact p.elim
  · exact p.elim
end Pl

set_option maxRecDepth 100000
set_option maxHeartbeats 4000000
namespace Pl
open PySem PySem.Spec PyProof.Rows L2 Fx
open PySem.W (Frag)
abbrev s_needed : Stmt := top 29
abbrev n_needed : List Str := ["tallies", "others", "tally"]
theorem sc_needed : FnScope n_needed ["tallies", "others"] (defScope s_needed) := ⟨rfl, rfl, rfl, by decide +kernel, rfl, by decide +kernel, by decide +kernel⟩
noncomputable def rd_needed : { s : SE → SR // ∀ {P : Program} {w : World} {K : Frag} {mg : Str → Option Value} {base : Heap} {M : MC} {f : Addr} {fd : FuncData} (Z : Wd P w K mg base M) (w_is_one_within : DO P w K mg base M 2 "_is_one_within" 2 φ_is_one_within) (F : Fun K "_needed" "_needed" s_needed f fd), FnOk P w K mg base (L2.CX P w) 3 f fd ["tallies", "others"] (spD M 2 (run 3 s)) } := ⟨_, fun {P w K mg base M f fd} Z w_is_one_within F => have nd := sc_needed.nd
  defO F sc_needed rfl fun cdv A outer s0 H E hr =>
    (s_cons (s_if (dt_cmp (od_eq Z.hK Z.ok hr.units) (d_call (cd_len Z.hK) (by rfl) Z.len (by decide +kernel) (da_cons (d_var (i := 1) rfl (by first | exact Or.inl rfl | exact Or.inr (Or.inl rfl) | exact Or.inr (Or.inr rfl))) da_nil)) d_int) (s_cons (s_ret (d_var (i := 0) rfl (by first | exact Or.inl rfl | exact Or.inr (Or.inl rfl) | exact Or.inr (Or.inr rfl)))) s_nil) s_nil) (s_cons (s_ret (d_ofO (do_lc (sl := [2]) rfl nd (di_seq Z.hK (d_var (i := 0) rfl (by first | exact Or.inl rfl | exact Or.inr (Or.inl rfl) | exact Or.inr (Or.inr rfl)))) (blkOk_by (own := [("tally", 2)]) (N := n_needed) (sc := defScope s_needed) (by decide +kernel)) (fun _ _ _ _ _ => (dg_name (i := 2) nd rfl (by first | exact Or.inl rfl | exact Or.inr rfl))) (fun _ _ _ _ _ => (dts_one (dt_not (dt_val (d_fo w_is_one_within (hr.mono (by decide)) passN (da_cons (d_var (i := 1) rfl (by first | exact Or.inl rfl | exact Or.inr (Or.inl rfl) | exact Or.inr (Or.inr rfl))) (da_cons (d_ix Z.hK (d_var (i := 2) rfl (by first | exact Or.inl rfl | exact Or.inr (Or.inl rfl) | exact Or.inr (Or.inr rfl))) d_int) da_nil))))))) (fun _ _ _ _ _ => (d_var (i := 2) rfl (by first | exact Or.inl rfl | exact Or.inr (Or.inl rfl) | exact Or.inr (Or.inr rfl)))) (by decide)))) s_nil))⟩
noncomputable def φ_needed : List D → Oc D := run 3 rd_needed.1
abbrev s_loops_by_parts : Stmt := top 32
abbrev n_loops_by_parts : List Str := ["code", "parts", "found", "first", "begin", "end", "_", "trails", "place", "stops", "trail", "part"]
theorem sc_loops_by_parts : FnScope n_loops_by_parts ["code"] (defScope s_loops_by_parts) := ⟨rfl, rfl, rfl, by decide +kernel, rfl, by decide +kernel, by decide +kernel⟩
noncomputable def rd_loops_by_parts : { s : SE → SR // ∀ {P : Program} {w : World} {K : Frag} {mg : Str → Option Value} {base : Heap} {M : MC} {f : Addr} {fd : FuncData} (Z : Wd P w K mg base M) (w_parts_by_place : DO P w K mg base M 2 "_parts_by_place" 1 φ_parts_by_place) (F : Fun K "loops_by_parts" "loops_by_parts" s_loops_by_parts f fd), FnOk P w K mg base (L2.CX P w) 3 f fd ["code"] (spD M 1 (run 12 s)) } := ⟨_, fun {P w K mg base M f fd} Z w_parts_by_place F => have nd := sc_loops_by_parts.nd
  defO F sc_loops_by_parts rfl fun cdv A outer s0 H E hr =>
    (s_cons (s_set (i := 1) nd rfl (by first | exact Or.inl rfl | exact Or.inr rfl) (d_fo w_parts_by_place (hr.mono (by decide)) (passes_call (takes_of rfl rfl rfl rfl) (fun _ _ _ _ h => h)) (da_cons (d_var (i := 0) rfl (by first | exact Or.inl rfl | exact Or.inr (Or.inl rfl) | exact Or.inr (Or.inr rfl))) da_nil))) (s_cons (s_setO (i := 2) nd rfl (by first | exact Or.inl rfl | exact Or.inr rfl) (do_lst da_nil)) (s_cons (s_for (passes_of rfl) rfl (di_seq Z.hK (d_sortSc (sl := [4, 5, 6]) Z.ok Z.sorted rfl nd (di_seq Z.hK (d_jumps Z.cl Z.n_jumps (d_var (i := 0) rfl (by first | exact Or.inl rfl | exact Or.inr (Or.inl rfl) | exact Or.inr (Or.inr rfl))))) (blkOk_by (own := [("begin", 4), ("end", 5), ("_", 6)]) (N := n_loops_by_parts) (sc := defScope s_loops_by_parts) (by decide +kernel)) (fun _ _ _ _ _ => (dg_tup (n := 3) Z.hK rfl (dgs_cons (dg_name (i := 4) nd rfl (by first | exact Or.inl rfl | exact Or.inr rfl)) (dgs_cons (dg_name (i := 5) nd rfl (by first | exact Or.inl rfl | exact Or.inr rfl)) (dgs_cons (dg_name (i := 6) nd rfl (by first | exact Or.inl rfl | exact Or.inr rfl)) dgs_nil))))) (fun _ _ _ _ _ => (dts_one (dt_cmp (od_le Z.ok) (d_var (i := 5) rfl (by first | exact Or.inl rfl | exact Or.inr (Or.inl rfl) | exact Or.inr (Or.inr rfl))) (d_var (i := 4) rfl (by first | exact Or.inl rfl | exact Or.inr (Or.inl rfl) | exact Or.inr (Or.inr rfl)))))) (fun _ _ _ _ _ => (d_var (i := 5) rfl (by first | exact Or.inl rfl | exact Or.inr (Or.inl rfl) | exact Or.inr (Or.inr rfl)))) (by decide))) (dg_name (i := 3) nd rfl (by first | exact Or.inl rfl | exact Or.inr rfl)) (s_cons (s_setO (i := 7) nd rfl (by first | exact Or.inl rfl | exact Or.inr rfl) (do_lst (da_cons (d_tup (da_cons (d_var (i := 3) rfl (by first | exact Or.inl rfl | exact Or.inr (Or.inl rfl) | exact Or.inr (Or.inr rfl))) (da_cons (d_tup da_nil) (da_cons (d_tup da_nil) da_nil)))) da_nil))) (s_cons (s_while (passes_of rfl) (dt_tru Z.hK (d_var (i := 7) rfl (by first | exact Or.inl rfl | exact Or.inr (Or.inl rfl) | exact Or.inr (Or.inr rfl)))) (s_cons (s_popT (j := 7) rfl (by first | exact Or.inl rfl | exact Or.inr (Or.inl rfl) | exact Or.inr (Or.inr rfl)) (dg_tup (n := 3) Z.hK rfl (dgs_cons (dg_name (i := 8) nd rfl (by first | exact Or.inl rfl | exact Or.inr rfl)) (dgs_cons (dg_name (i := 9) nd rfl (by first | exact Or.inl rfl | exact Or.inr rfl)) (dgs_cons (dg_name (i := 10) nd rfl (by first | exact Or.inl rfl | exact Or.inr rfl)) dgs_nil))))) (s_cons (s_forItems (passes_of rfl) rfl (dr_sub (i := 1) (j := 8) Z.ok hr.units1 rfl (by first | exact Or.inl rfl | exact Or.inr (Or.inl rfl) | exact Or.inr (Or.inr rfl)) rfl (by first | exact Or.inl rfl | exact Or.inr (Or.inl rfl) | exact Or.inr (Or.inr rfl))) (dg_tup (n := 2) Z.hK rfl (dgs_cons (dg_name (i := 5) nd rfl (by first | exact Or.inl rfl | exact Or.inr rfl)) (dgs_cons (dg_name (i := 11) nd rfl (by first | exact Or.inl rfl | exact Or.inr rfl)) dgs_nil))) (s_cons (s_if (dt_cmp (od_eq Z.hK Z.ok hr.units) (d_var (i := 5) rfl (by first | exact Or.inl rfl | exact Or.inr (Or.inl rfl) | exact Or.inr (Or.inr rfl))) (d_var (i := 3) rfl (by first | exact Or.inl rfl | exact Or.inr (Or.inl rfl) | exact Or.inr (Or.inr rfl)))) (s_cons (s_app (i := 2) rfl (by first | exact Or.inl rfl | exact Or.inr (Or.inl rfl) | exact Or.inr (Or.inr rfl)) (d_op (od_plus Z.hK) (d_var (i := 10) rfl (by first | exact Or.inl rfl | exact Or.inr (Or.inl rfl) | exact Or.inr (Or.inr rfl))) (d_tup (da_cons (d_var (i := 11) rfl (by first | exact Or.inl rfl | exact Or.inr (Or.inl rfl) | exact Or.inr (Or.inr rfl))) da_nil)))) s_nil) (s_cons (s_if (PW.pt (dw_and (dt_cmp (od_gt Z.ok) (d_var (i := 5) rfl (by first | exact Or.inl rfl | exact Or.inr (Or.inl rfl) | exact Or.inr (Or.inr rfl))) (d_var (i := 3) rfl (by first | exact Or.inl rfl | exact Or.inr (Or.inl rfl) | exact Or.inr (Or.inr rfl)))) (dw_one (dt_cmp (od_notIn Z.hK Z.ok) (d_var (i := 5) rfl (by first | exact Or.inl rfl | exact Or.inr (Or.inl rfl) | exact Or.inr (Or.inr rfl))) (d_var (i := 9) rfl (by first | exact Or.inl rfl | exact Or.inr (Or.inl rfl) | exact Or.inr (Or.inr rfl))) (by rfl))))) (s_cons (s_app (i := 7) rfl (by first | exact Or.inl rfl | exact Or.inr (Or.inl rfl) | exact Or.inr (Or.inr rfl)) (d_tup (da_cons (d_var (i := 5) rfl (by first | exact Or.inl rfl | exact Or.inr (Or.inl rfl) | exact Or.inr (Or.inr rfl))) (da_cons (d_op (od_plus Z.hK) (d_var (i := 9) rfl (by first | exact Or.inl rfl | exact Or.inr (Or.inl rfl) | exact Or.inr (Or.inr rfl))) (d_tup (da_cons (d_var (i := 5) rfl (by first | exact Or.inl rfl | exact Or.inr (Or.inl rfl) | exact Or.inr (Or.inr rfl))) da_nil))) (da_cons (d_op (od_plus Z.hK) (d_var (i := 10) rfl (by first | exact Or.inl rfl | exact Or.inr (Or.inl rfl) | exact Or.inr (Or.inr rfl))) (d_tup (da_cons (d_var (i := 11) rfl (by first | exact Or.inl rfl | exact Or.inr (Or.inl rfl) | exact Or.inr (Or.inr rfl))) da_nil))) da_nil))))) s_nil) s_nil) s_nil)) s_nil)) s_nil)) 60) s_nil))) (s_cons (s_ret (d_var (i := 2) rfl (by first | exact Or.inl rfl | exact Or.inr (Or.inl rfl) | exact Or.inr (Or.inr rfl)))) s_nil))))⟩
noncomputable def φ_loops_by_parts : List D → Oc D := run 12 rd_loops_by_parts.1
abbrev s_is_integer_within : Stmt := top 12
abbrev n_is_integer_within : List Str := ["value", "least", "greatest"]
theorem sc_is_integer_within : FnScope n_is_integer_within ["value", "least", "greatest"] (defScope s_is_integer_within) := ⟨rfl, rfl, rfl, by decide +kernel, rfl, by decide +kernel, by decide +kernel⟩
noncomputable def rd_is_integer_within : { s : SE → SR // ∀ {P : Program} {w : World} {K : Frag} {mg : Str → Option Value} {base : Heap} {M : MC} {f : Addr} {fd : FuncData} (Z : Wd P w K mg base M) (w_is_integer : DO P w K mg base M 2 "is_integer" 1 φ_is_integer) (F : Fun K "is_integer_within" "is_integer_within" s_is_integer_within f fd), FnOk P w K mg base (L2.CX P w) 3 f fd ["value", "least", "greatest"] (spD M 3 (run 3 s)) } := ⟨_, fun {P w K mg base M f fd} Z w_is_integer F => have nd := sc_is_integer_within.nd
  defO F sc_is_integer_within rfl fun cdv A outer s0 H E hr =>
    (s_cons (s_ret (d_and (d_fo w_is_integer (hr.mono (by decide)) (passes_call (takes_of rfl rfl rfl rfl) (fun _ _ _ _ h => h)) (da_cons (d_var (i := 0) rfl (by first | exact Or.inl rfl | exact Or.inr (Or.inl rfl) | exact Or.inr (Or.inr rfl))) da_nil)) (d_one (d_chain (od_le Z.ok) (od_le Z.ok) (d_var (i := 1) rfl (by first | exact Or.inl rfl | exact Or.inr (Or.inl rfl) | exact Or.inr (Or.inr rfl))) (d_var (i := 0) rfl (by first | exact Or.inl rfl | exact Or.inr (Or.inl rfl) | exact Or.inr (Or.inr rfl))) (d_var (i := 2) rfl (by first | exact Or.inl rfl | exact Or.inr (Or.inl rfl) | exact Or.inr (Or.inr rfl))))))) s_nil)⟩
noncomputable def φ_is_integer_within : List D → Oc D := run 3 rd_is_integer_within.1
end Pl

set_option maxRecDepth 100000
set_option maxHeartbeats 4000000
namespace Pl
open PySem PySem.Spec PyProof.Rows L2 Fx
open PySem.W (Frag)
abbrev s_are_places : Stmt := top 22
abbrev n_are_places : List Str := ["value", "place"]
theorem sc_are_places : FnScope n_are_places ["value"] (defScope s_are_places) := ⟨rfl, rfl, rfl, by decide +kernel, rfl, by decide +kernel, by decide +kernel⟩
noncomputable def rd_are_places : { s : SE → SR // ∀ {P : Program} {w : World} {K : Frag} {mg : Str → Option Value} {base : Heap} {M : MC} {f : Addr} {fd : FuncData} (Z : Wd P w K mg base M) (w_is_ascending : DO P w K mg base M 2 "is_ascending" 1 φ_is_ascending) (w_is_word : DO P w K mg base M 2 "is_word" 1 φ_is_word) (F : Fun K "are_places" "are_places" s_are_places f fd), FnOk P w K mg base (L2.CX P w) 3 f fd ["value"] (spD M 1 (run 2 s)) } := ⟨_, fun {P w K mg base M f fd} Z w_is_ascending w_is_word F => have nd := sc_are_places.nd
  defO F sc_are_places rfl fun cdv A outer s0 H E hr =>
    (s_cons (s_if (PW.pt (dw_or (dt_not (dt_val (d_isi (x := "x") (Ty := "tuple") Z.hK (by rfl) Z.isi (by rfl) Z.tuple (by decide +kernel) (d_var (i := 0) rfl (by first | exact Or.inl rfl | exact Or.inr (Or.inl rfl) | exact Or.inr (Or.inr rfl)))))) (dw_one (dt_not (dt_chain (od_le Z.ok) (od_le Z.ok) d_int (d_call (cd_len Z.hK) (by rfl) Z.len (by decide +kernel) (da_cons (d_var (i := 0) rfl (by first | exact Or.inl rfl | exact Or.inr (Or.inl rfl) | exact Or.inr (Or.inr rfl))) da_nil)) (d_gintE (by rfl) Z.g_MOST_PLACES)))))) (s_cons (s_ret d_bl) s_nil) s_nil) (s_cons (s_ret (d_and (d_call (cd_all Z.hK rfl) (by rfl) Z.all (by decide +kernel) (da_cons (d_ofO (do_lc (sl := [1]) rfl nd (di_seq Z.hK (d_var (i := 0) rfl (by first | exact Or.inl rfl | exact Or.inr (Or.inl rfl) | exact Or.inr (Or.inr rfl)))) (blkOk_by (own := [("place", 1)]) (N := n_are_places) (sc := defScope s_are_places) (by decide +kernel)) (fun _ _ _ _ _ => (dg_name (i := 1) nd rfl (by first | exact Or.inl rfl | exact Or.inr rfl))) (fun _ _ _ _ _ => dts_nil) (fun _ _ _ _ _ => (d_fo w_is_word (hr.mono (by decide)) passN (da_cons (d_var (i := 1) rfl (by first | exact Or.inl rfl | exact Or.inr (Or.inl rfl) | exact Or.inr (Or.inr rfl))) da_nil))) (by decide))) da_nil)) (d_one (d_fo w_is_ascending (hr.mono (by decide)) (passes_call (takes_of rfl rfl rfl rfl) (fun _ _ _ _ h => h)) (da_cons (d_var (i := 0) rfl (by first | exact Or.inl rfl | exact Or.inr (Or.inl rfl) | exact Or.inr (Or.inr rfl))) da_nil))))) s_nil))⟩
noncomputable def φ_are_places : List D → Oc D := run 2 rd_are_places.1
end Pl

set_option maxRecDepth 100000
set_option maxHeartbeats 4000000
namespace Pl
open PySem PySem.Spec PyProof.Rows L2 Fx
open PySem.W (Frag)
abbrev s_narrow_tallies : Stmt := top 27
abbrev n_narrow_tallies : List Str := ["groups", "tallies", "group", "whole", "mask", "_", "met", "tally", "grown", "price", "part", "further"]
theorem sc_narrow_tallies : FnScope n_narrow_tallies ["groups"] (defScope s_narrow_tallies) := ⟨rfl, rfl, rfl, by decide +kernel, rfl, by decide +kernel, by decide +kernel⟩
noncomputable def rd_narrow_tallies : { s : SE → SR // ∀ {P : Program} {w : World} {K : Frag} {mg : Str → Option Value} {base : Heap} {M : MC} {f : Addr} {fd : FuncData} (Z : Wd P w K mg base M) (w_needed : DO P w K mg base M 3 "_needed" 2 φ_needed) (F : Fun K "narrow_tallies" "narrow_tallies" s_narrow_tallies f fd), FnOk P w K mg base (L2.CX P w) 4 f fd ["groups"] (spD M 1 (run 12 s)) } := ⟨_, fun {P w K mg base M f fd} Z w_needed F => have nd := sc_narrow_tallies.nd
  defO F sc_narrow_tallies rfl fun cdv A outer s0 H E hr =>
    (s_cons (s_set (i := 1) nd rfl (by first | exact Or.inl rfl | exact Or.inr rfl) (d_ofO (do_lst (da_cons (d_tup (da_cons d_int (da_cons d_int da_nil))) da_nil)))) (s_cons (s_for (passes_of rfl) rfl (di_seq Z.hK (d_sortLen Z.hK hr.units Z.sorted Z.len (da_cons (d_var (i := 0) rfl (by first | exact Or.inl rfl | exact Or.inr (Or.inl rfl) | exact Or.inr (Or.inr rfl))) da_nil))) (dg_name (i := 2) nd rfl (by first | exact Or.inl rfl | exact Or.inr rfl)) (s_cons (s_set (i := 3) nd rfl (by first | exact Or.inl rfl | exact Or.inr rfl) (d_call (cd_sum Z.hK rfl) (by rfl) Z.sum (by decide +kernel) (da_cons (d_ofO (do_lc (sl := [4, 5]) rfl nd (di_seq Z.hK (d_var (i := 2) rfl (by first | exact Or.inl rfl | exact Or.inr (Or.inl rfl) | exact Or.inr (Or.inr rfl)))) (blkOk_by (own := [("mask", 4), ("_", 5)]) (N := n_narrow_tallies) (sc := defScope s_narrow_tallies) (by decide +kernel)) (fun _ _ _ _ _ => (dg_tup (n := 2) Z.hK rfl (dgs_cons (dg_name (i := 4) nd rfl (by first | exact Or.inl rfl | exact Or.inr rfl)) (dgs_cons (dg_name (i := 5) nd rfl (by first | exact Or.inl rfl | exact Or.inr rfl)) dgs_nil)))) (fun _ _ _ _ _ => dts_nil) (fun _ _ _ _ _ => (d_var (i := 4) rfl (by first | exact Or.inl rfl | exact Or.inr (Or.inl rfl) | exact Or.inr (Or.inr rfl)))) (by decide))) da_nil))) (s_cons (s_lc (i := 6) (sl := [7]) rfl nd rfl (by rfl) (by rfl) (by rfl) (di_seq Z.hK (d_var (i := 1) rfl (by first | exact Or.inl rfl | exact Or.inr (Or.inl rfl) | exact Or.inr (Or.inr rfl)))) (blkOk_by (own := [("tally", 7)]) (N := n_narrow_tallies) (sc := defScope s_narrow_tallies) (by decide +kernel)) (fun _ _ _ _ _ => (dg_name (i := 7) nd rfl (by first | exact Or.inl rfl | exact Or.inr rfl))) (fun _ _ _ _ _ => (dts_one (dt_tru Z.hK (d_op od_and (d_ix Z.hK (d_var (i := 7) rfl (by first | exact Or.inl rfl | exact Or.inr (Or.inl rfl) | exact Or.inr (Or.inr rfl))) d_int) (d_var (i := 3) rfl (by first | exact Or.inl rfl | exact Or.inr (Or.inl rfl) | exact Or.inr (Or.inr rfl))))))) (fun _ _ _ _ _ => (d_var (i := 7) rfl (by first | exact Or.inl rfl | exact Or.inr (Or.inl rfl) | exact Or.inr (Or.inr rfl)))) (by decide)) (s_cons (s_lc2 (i := 8) (sl := [4, 9]) (sl1 := [10, 11]) (vs1 := [10, 11]) rfl nd rfl (by rfl) (by rfl) (by rfl) (di_seq Z.hK (d_var (i := 1) rfl (by first | exact Or.inl rfl | exact Or.inr (Or.inl rfl) | exact Or.inr (Or.inr rfl)))) (blkOk_by (own := [("mask", 4), ("price", 9), ("part", 10), ("further", 11)]) (N := n_narrow_tallies) (sc := defScope s_narrow_tallies) (by decide +kernel)) (by decide) (fun _ _ _ _ _ => (dg_tup (n := 2) Z.hK rfl (dgs_cons (dg_name (i := 4) nd rfl (by first | exact Or.inl rfl | exact Or.inr rfl)) (dgs_cons (dg_name (i := 9) nd rfl (by first | exact Or.inl rfl | exact Or.inr rfl)) dgs_nil)))) (fun _ _ _ _ _ => (dts_one (dt_not (dt_tru Z.hK (d_op od_and (d_var (i := 4) rfl (by first | exact Or.inl rfl | exact Or.inr (Or.inl rfl) | exact Or.inr (Or.inr rfl))) (d_var (i := 3) rfl (by first | exact Or.inl rfl | exact Or.inr (Or.inl rfl) | exact Or.inr (Or.inr rfl)))))))) (fun _ _ _ _ _ => (di_seq Z.hK (d_var (i := 2) rfl (by first | exact Or.inl rfl | exact Or.inr (Or.inl rfl) | exact Or.inr (Or.inr rfl))))) (fun _ _ _ _ _ => (dg_tup (n := 2) Z.hK rfl (dgs_cons (dg_name (i := 10) nd rfl (by first | exact Or.inl rfl | exact Or.inr rfl)) (dgs_cons (dg_name (i := 11) nd rfl (by first | exact Or.inl rfl | exact Or.inr rfl)) dgs_nil)))) (fun _ _ _ _ _ => dts_nil) (fun _ _ _ _ _ => (d_tup (da_cons (d_op od_or (d_var (i := 4) rfl (by first | exact Or.inl rfl | exact Or.inr (Or.inl rfl) | exact Or.inr (Or.inr rfl))) (d_var (i := 10) rfl (by first | exact Or.inl rfl | exact Or.inr (Or.inl rfl) | exact Or.inr (Or.inr rfl)))) (da_cons (d_op (od_plus Z.hK) (d_var (i := 9) rfl (by first | exact Or.inl rfl | exact Or.inr (Or.inl rfl) | exact Or.inr (Or.inr rfl))) (d_var (i := 11) rfl (by first | exact Or.inl rfl | exact Or.inr (Or.inl rfl) | exact Or.inr (Or.inr rfl)))) da_nil)))) (by decide) (by decide)) (s_cons (s_set (i := 1) nd rfl (by first | exact Or.inl rfl | exact Or.inr rfl) (d_op (od_plus Z.hK) (d_var (i := 6) rfl (by first | exact Or.inl rfl | exact Or.inr (Or.inl rfl) | exact Or.inr (Or.inr rfl))) (d_fo w_needed (hr.mono (by decide)) (passes_call (takes_of rfl rfl rfl rfl) (fun _ _ _ _ h => h)) (da_cons (d_var (i := 8) rfl (by first | exact Or.inl rfl | exact Or.inr (Or.inl rfl) | exact Or.inr (Or.inr rfl))) (da_cons (d_var (i := 6) rfl (by first | exact Or.inl rfl | exact Or.inr (Or.inl rfl) | exact Or.inr (Or.inr rfl))) da_nil))))) s_nil))))) (s_cons (s_ret (d_var (i := 1) rfl (by first | exact Or.inl rfl | exact Or.inr (Or.inl rfl) | exact Or.inr (Or.inr rfl)))) s_nil)))⟩
noncomputable def φ_narrow_tallies : List D → Oc D := run 12 rd_narrow_tallies.1
abbrev s_is_jump_number : Stmt := top 20
abbrev n_is_jump_number : List Str := ["code", "value"]
theorem sc_is_jump_number : FnScope n_is_jump_number ["code", "value"] (defScope s_is_jump_number) := ⟨rfl, rfl, rfl, by decide +kernel, rfl, by decide +kernel, by decide +kernel⟩
noncomputable def rd_is_jump_number : { s : SE → SR // ∀ {P : Program} {w : World} {K : Frag} {mg : Str → Option Value} {base : Heap} {M : MC} {f : Addr} {fd : FuncData} (Z : Wd P w K mg base M) (w_is_integer_within : DO P w K mg base M 3 "is_integer_within" 3 φ_is_integer_within) (w_len : WL P w K mg base M φ_Code_len) (F : Fun K "is_jump_number" "is_jump_number" s_is_jump_number f fd), FnOk P w K mg base (L2.CX P w) 4 f fd ["code", "value"] (spD M 2 (run 2 s)) } := ⟨_, fun {P w K mg base M f fd} Z w_is_integer_within w_len F => have nd := sc_is_jump_number.nd
  defO F sc_is_jump_number rfl fun cdv A outer s0 H E hr =>
    (s_cons (s_ret (d_fo w_is_integer_within (hr.mono (by decide)) (passes_call (takes_of rfl rfl rfl rfl) (fun _ _ _ _ h => h)) (da_cons (d_var (i := 1) rfl (by first | exact Or.inl rfl | exact Or.inr (Or.inl rfl) | exact Or.inr (Or.inr rfl))) (da_cons d_int (da_cons (d_op od_sub (d_call (cd_lenW w_len passN (hr.mono (by decide))) (by rfl) Z.len PySem.boot_len (da_cons (d_var (i := 0) rfl (by first | exact Or.inl rfl | exact Or.inr (Or.inl rfl) | exact Or.inr (Or.inr rfl))) da_nil)) d_int) da_nil))))) s_nil)⟩
noncomputable def φ_is_jump_number : List D → Oc D := run 2 rd_is_jump_number.1
abbrev s_is_price : Stmt := top 19
abbrev n_is_price : List Str := ["value"]
theorem sc_is_price : FnScope n_is_price ["value"] (defScope s_is_price) := ⟨rfl, rfl, rfl, by decide +kernel, rfl, by decide +kernel, by decide +kernel⟩
noncomputable def rd_is_price : { s : SE → SR // ∀ {P : Program} {w : World} {K : Frag} {mg : Str → Option Value} {base : Heap} {M : MC} {f : Addr} {fd : FuncData} (Z : Wd P w K mg base M) (w_is_integer_within : DO P w K mg base M 3 "is_integer_within" 3 φ_is_integer_within) (F : Fun K "is_price" "is_price" s_is_price f fd), FnOk P w K mg base (L2.CX P w) 4 f fd ["value"] (spD M 1 (run 1 s)) } := ⟨_, fun {P w K mg base M f fd} Z w_is_integer_within F => have nd := sc_is_price.nd
  defO F sc_is_price rfl fun cdv A outer s0 H E hr =>
    (s_cons (s_ret (d_fo w_is_integer_within (hr.mono (by decide)) (passes_call (takes_of rfl rfl rfl rfl) (fun _ _ _ _ h => h)) (da_cons (d_var (i := 0) rfl (by first | exact Or.inl rfl | exact Or.inr (Or.inl rfl) | exact Or.inr (Or.inr rfl))) (da_cons d_int (da_cons (d_gintE (by rfl) Z.g_GREATEST_PRICE) da_nil))))) s_nil)⟩
noncomputable def φ_is_price : List D → Oc D := run 1 rd_is_price.1
end Pl

set_option maxRecDepth 100000
set_option maxHeartbeats 4000000
namespace Pl
open PySem PySem.Spec PyProof.Rows L2 Fx
open PySem.W (Frag)
abbrev s_least_masks : Stmt := top 41
abbrev n_least_masks : List Str := ["code", "tallies", "least", "_", "price", "mask"]
theorem sc_least_masks : FnScope n_least_masks ["code"] (defScope s_least_masks) := ⟨rfl, rfl, rfl, by decide +kernel, rfl, by decide +kernel, by decide +kernel⟩
noncomputable def rd_least_masks : { s : SE → SR // ∀ {P : Program} {w : World} {K : Frag} {mg : Str → Option Value} {base : Heap} {M : MC} {f : Addr} {fd : FuncData} (Z : Wd P w K mg base M) (w_narrow_tallies : DO P w K mg base M 4 "narrow_tallies" 1 φ_narrow_tallies) (w_loops_by_parts : DO P w K mg base M 3 "loops_by_parts" 1 φ_loops_by_parts) (F : Fun K "_least_masks" "_least_masks" s_least_masks f fd), FnOk P w K mg base (L2.CX P w) 5 f fd ["code"] (spD M 1 (run 6 s)) } := ⟨_, fun {P w K mg base M f fd} Z w_narrow_tallies w_loops_by_parts F => have nd := sc_least_masks.nd
  defO F sc_least_masks rfl fun cdv A outer s0 H E hr =>
    (s_cons (s_set (i := 1) nd rfl (by first | exact Or.inl rfl | exact Or.inr rfl) (d_fo w_narrow_tallies (hr.mono (by decide)) (passes_call (takes_of rfl rfl rfl rfl) (fun _ _ _ _ h => h)) (da_cons (d_fo w_loops_by_parts (hr.mono (by decide)) (passes_call (takes_of rfl rfl rfl rfl) (fun _ _ _ _ h => h)) (da_cons (d_var (i := 0) rfl (by first | exact Or.inl rfl | exact Or.inr (Or.inl rfl) | exact Or.inr (Or.inr rfl))) da_nil)) da_nil))) (s_cons (s_set (i := 2) nd rfl (by first | exact Or.inl rfl | exact Or.inr rfl) (d_call (cd_min Z.hK rfl) (by rfl) Z.min (by decide +kernel) (da_cons (d_ofO (do_lc (sl := [3, 4]) rfl nd (di_seq Z.hK (d_var (i := 1) rfl (by first | exact Or.inl rfl | exact Or.inr (Or.inl rfl) | exact Or.inr (Or.inr rfl)))) (blkOk_by (own := [("_", 3), ("price", 4)]) (N := n_least_masks) (sc := defScope s_least_masks) (by decide +kernel)) (fun _ _ _ _ _ => (dg_tup (n := 2) Z.hK rfl (dgs_cons (dg_name (i := 3) nd rfl (by first | exact Or.inl rfl | exact Or.inr rfl)) (dgs_cons (dg_name (i := 4) nd rfl (by first | exact Or.inl rfl | exact Or.inr rfl)) dgs_nil)))) (fun _ _ _ _ _ => dts_nil) (fun _ _ _ _ _ => (d_var (i := 4) rfl (by first | exact Or.inl rfl | exact Or.inr (Or.inl rfl) | exact Or.inr (Or.inr rfl)))) (by decide))) da_nil))) (s_cons (s_ret (d_ofO (do_lc (sl := [5, 4]) rfl nd (di_seq Z.hK (d_var (i := 1) rfl (by first | exact Or.inl rfl | exact Or.inr (Or.inl rfl) | exact Or.inr (Or.inr rfl)))) (blkOk_by (own := [("mask", 5), ("price", 4)]) (N := n_least_masks) (sc := defScope s_least_masks) (by decide +kernel)) (fun _ _ _ _ _ => (dg_tup (n := 2) Z.hK rfl (dgs_cons (dg_name (i := 5) nd rfl (by first | exact Or.inl rfl | exact Or.inr rfl)) (dgs_cons (dg_name (i := 4) nd rfl (by first | exact Or.inl rfl | exact Or.inr rfl)) dgs_nil)))) (fun _ _ _ _ _ => (dts_one (dt_cmp (od_eq Z.hK Z.ok hr.units) (d_var (i := 4) rfl (by first | exact Or.inl rfl | exact Or.inr (Or.inl rfl) | exact Or.inr (Or.inr rfl))) (d_var (i := 2) rfl (by first | exact Or.inl rfl | exact Or.inr (Or.inl rfl) | exact Or.inr (Or.inr rfl)))))) (fun _ _ _ _ _ => (d_var (i := 5) rfl (by first | exact Or.inl rfl | exact Or.inr (Or.inl rfl) | exact Or.inr (Or.inr rfl)))) (by decide)))) s_nil)))⟩
noncomputable def φ_least_masks : List D → Oc D := run 6 rd_least_masks.1
abbrev s_least_costs : Stmt := top 42
abbrev n_least_costs : List Str := ["code", "number", "tallies", "having", "mask", "price", "without"]
theorem sc_least_costs : FnScope n_least_costs ["code", "number"] (defScope s_least_costs) := ⟨rfl, rfl, rfl, by decide +kernel, rfl, by decide +kernel, by decide +kernel⟩
noncomputable def rd_least_costs : { s : SE → SR // ∀ {P : Program} {w : World} {K : Frag} {mg : Str → Option Value} {base : Heap} {M : MC} {f : Addr} {fd : FuncData} (Z : Wd P w K mg base M) (w_narrow_tallies : DO P w K mg base M 4 "narrow_tallies" 1 φ_narrow_tallies) (w_loops_by_parts : DO P w K mg base M 3 "loops_by_parts" 1 φ_loops_by_parts) (w_is_jump_number : DO P w K mg base M 4 "is_jump_number" 2 φ_is_jump_number) (F : Fun K "_least_costs" "_least_costs" s_least_costs f fd), FnOk P w K mg base (L2.CX P w) 5 f fd ["code", "number"] (spD M 2 (run 7 s)) } := ⟨_, fun {P w K mg base M f fd} Z w_narrow_tallies w_loops_by_parts w_is_jump_number F => have nd := sc_least_costs.nd
  defO F sc_least_costs rfl fun cdv A outer s0 H E hr =>
    (s_cons (s_if (dt_not (dt_val (d_fo w_is_jump_number (hr.mono (by decide)) (passes_call (takes_of rfl rfl rfl rfl) (fun _ _ _ _ h => h)) (da_cons (d_var (i := 0) rfl (by first | exact Or.inl rfl | exact Or.inr (Or.inl rfl) | exact Or.inr (Or.inr rfl))) (da_cons (d_var (i := 1) rfl (by first | exact Or.inl rfl | exact Or.inr (Or.inl rfl) | exact Or.inr (Or.inr rfl))) da_nil))))) (s_cons (s_raiseB Z.x_BadNumber hr (takes_of rfl rfl rfl rfl) (d_var (i := 1) rfl (by first | exact Or.inl rfl | exact Or.inr (Or.inl rfl) | exact Or.inr (Or.inr rfl)))) s_nil) s_nil) (s_cons (s_set (i := 2) nd rfl (by first | exact Or.inl rfl | exact Or.inr rfl) (d_fo w_narrow_tallies (hr.mono (by decide)) (passes_call (takes_of rfl rfl rfl rfl) (fun _ _ _ _ h => h)) (da_cons (d_fo w_loops_by_parts (hr.mono (by decide)) (passes_call (takes_of rfl rfl rfl rfl) (fun _ _ _ _ h => h)) (da_cons (d_var (i := 0) rfl (by first | exact Or.inl rfl | exact Or.inr (Or.inl rfl) | exact Or.inr (Or.inr rfl))) da_nil)) da_nil))) (s_cons (s_set (i := 3) nd rfl (by first | exact Or.inl rfl | exact Or.inr rfl) (d_minDef Z.hK hr.units Z.min (da_cons (d_ofO (do_lc (sl := [4, 5]) rfl nd (di_seq Z.hK (d_var (i := 2) rfl (by first | exact Or.inl rfl | exact Or.inr (Or.inl rfl) | exact Or.inr (Or.inr rfl)))) (blkOk_by (own := [("mask", 4), ("price", 5)]) (N := n_least_costs) (sc := defScope s_least_costs) (by decide +kernel)) (fun _ _ _ _ _ => (dg_tup (n := 2) Z.hK rfl (dgs_cons (dg_name (i := 4) nd rfl (by first | exact Or.inl rfl | exact Or.inr rfl)) (dgs_cons (dg_name (i := 5) nd rfl (by first | exact Or.inl rfl | exact Or.inr rfl)) dgs_nil)))) (fun _ _ _ _ _ => (dts_one (dt_tru Z.hK (d_op od_and (d_op od_shr (d_var (i := 4) rfl (by first | exact Or.inl rfl | exact Or.inr (Or.inl rfl) | exact Or.inr (Or.inr rfl))) (d_var (i := 1) rfl (by first | exact Or.inl rfl | exact Or.inr (Or.inl rfl) | exact Or.inr (Or.inr rfl)))) d_int)))) (fun _ _ _ _ _ => (d_var (i := 5) rfl (by first | exact Or.inl rfl | exact Or.inr (Or.inl rfl) | exact Or.inr (Or.inr rfl)))) (by decide))) da_nil) (d_gintE (by rfl) Z.g_NEVER))) (s_cons (s_set (i := 6) nd rfl (by first | exact Or.inl rfl | exact Or.inr rfl) (d_minDef Z.hK hr.units Z.min (da_cons (d_ofO (do_lc (sl := [4, 5]) rfl nd (di_seq Z.hK (d_var (i := 2) rfl (by first | exact Or.inl rfl | exact Or.inr (Or.inl rfl) | exact Or.inr (Or.inr rfl)))) (blkOk_by (own := [("mask", 4), ("price", 5)]) (N := n_least_costs) (sc := defScope s_least_costs) (by decide +kernel)) (fun _ _ _ _ _ => (dg_tup (n := 2) Z.hK rfl (dgs_cons (dg_name (i := 4) nd rfl (by first | exact Or.inl rfl | exact Or.inr rfl)) (dgs_cons (dg_name (i := 5) nd rfl (by first | exact Or.inl rfl | exact Or.inr rfl)) dgs_nil)))) (fun _ _ _ _ _ => (dts_one (dt_not (dt_tru Z.hK (d_op od_and (d_op od_shr (d_var (i := 4) rfl (by first | exact Or.inl rfl | exact Or.inr (Or.inl rfl) | exact Or.inr (Or.inr rfl))) (d_var (i := 1) rfl (by first | exact Or.inl rfl | exact Or.inr (Or.inl rfl) | exact Or.inr (Or.inr rfl)))) d_int))))) (fun _ _ _ _ _ => (d_var (i := 5) rfl (by first | exact Or.inl rfl | exact Or.inr (Or.inl rfl) | exact Or.inr (Or.inr rfl)))) (by decide))) da_nil) (d_gintE (by rfl) Z.g_NEVER))) (s_cons (s_ret (d_tup (da_cons (d_op od_sub (d_var (i := 3) rfl (by first | exact Or.inl rfl | exact Or.inr (Or.inl rfl) | exact Or.inr (Or.inr rfl))) (d_ix Z.hK (d_ix Z.hK (d_jumps Z.cl Z.n_jumps (d_var (i := 0) rfl (by first | exact Or.inl rfl | exact Or.inr (Or.inl rfl) | exact Or.inr (Or.inr rfl)))) (d_var (i := 1) rfl (by first | exact Or.inl rfl | exact Or.inr (Or.inl rfl) | exact Or.inr (Or.inr rfl)))) d_int)) (da_cons (d_var (i := 6) rfl (by first | exact Or.inl rfl | exact Or.inr (Or.inl rfl) | exact Or.inr (Or.inr rfl))) da_nil)))) s_nil)))))⟩
noncomputable def φ_least_costs : List D → Oc D := run 7 rd_least_costs.1
abbrev s_is_jump : Stmt := top 24
abbrev n_is_jump : List Str := ["places", "value", "begin", "end", "price"]
theorem sc_is_jump : FnScope n_is_jump ["places", "value"] (defScope s_is_jump) := ⟨rfl, rfl, rfl, by decide +kernel, rfl, by decide +kernel, by decide +kernel⟩
noncomputable def rd_is_jump : { s : SE → SR // ∀ {P : Program} {w : World} {K : Frag} {mg : Str → Option Value} {base : Heap} {M : MC} {f : Addr} {fd : FuncData} (Z : Wd P w K mg base M) (w_is_price : DO P w K mg base M 4 "is_price" 1 φ_is_price) (w_is_place : DO P w K mg base M 2 "is_place" 2 φ_is_place) (F : Fun K "_is_jump" "_is_jump" s_is_jump f fd), FnOk P w K mg base (L2.CX P w) 5 f fd ["places", "value"] (spD M 2 (run 5 s)) } := ⟨_, fun {P w K mg base M f fd} Z w_is_price w_is_place F => have nd := sc_is_jump.nd
  defO F sc_is_jump rfl fun cdv A outer s0 H E hr =>
    (s_cons (s_if (PW.pt (dw_or (dt_not (dt_val (d_isi (x := "x") (Ty := "tuple") Z.hK (by rfl) Z.isi (by rfl) Z.tuple (by decide +kernel) (d_var (i := 1) rfl (by first | exact Or.inl rfl | exact Or.inr (Or.inl rfl) | exact Or.inr (Or.inr rfl)))))) (dw_one (dt_cmp (od_ne Z.hK Z.ok hr.units) (d_call (cd_len Z.hK) (by rfl) Z.len (by decide +kernel) (da_cons (d_var (i := 1) rfl (by first | exact Or.inl rfl | exact Or.inr (Or.inl rfl) | exact Or.inr (Or.inr rfl))) da_nil)) d_int)))) (s_cons (s_ret d_bl) s_nil) s_nil) (s_cons (s_asg (d_var (i := 1) rfl (by first | exact Or.inl rfl | exact Or.inr (Or.inl rfl) | exact Or.inr (Or.inr rfl))) (dg_tup (n := 3) Z.hK rfl (dgs_cons (dg_name (i := 2) nd rfl (by first | exact Or.inl rfl | exact Or.inr rfl)) (dgs_cons (dg_name (i := 3) nd rfl (by first | exact Or.inl rfl | exact Or.inr rfl)) (dgs_cons (dg_name (i := 4) nd rfl (by first | exact Or.inl rfl | exact Or.inr rfl)) dgs_nil))))) (s_cons (s_ret (d_and (d_fo w_is_place (hr.mono (by decide)) (passes_call (takes_of rfl rfl rfl rfl) (fun _ _ _ _ h => h)) (da_cons (d_var (i := 0) rfl (by first | exact Or.inl rfl | exact Or.inr (Or.inl rfl) | exact Or.inr (Or.inr rfl))) (da_cons (d_var (i := 2) rfl (by first | exact Or.inl rfl | exact Or.inr (Or.inl rfl) | exact Or.inr (Or.inr rfl))) da_nil))) (d_and (d_fo w_is_place (hr.mono (by decide)) (passes_call (takes_of rfl rfl rfl rfl) (fun _ _ _ _ h => h)) (da_cons (d_var (i := 0) rfl (by first | exact Or.inl rfl | exact Or.inr (Or.inl rfl) | exact Or.inr (Or.inr rfl))) (da_cons (d_var (i := 3) rfl (by first | exact Or.inl rfl | exact Or.inr (Or.inl rfl) | exact Or.inr (Or.inr rfl))) da_nil))) (d_one (d_fo w_is_price (hr.mono (by decide)) (passes_call (takes_of rfl rfl rfl rfl) (fun _ _ _ _ h => h)) (da_cons (d_var (i := 4) rfl (by first | exact Or.inl rfl | exact Or.inr (Or.inl rfl) | exact Or.inr (Or.inr rfl))) da_nil)))))) s_nil)))⟩
noncomputable def φ_is_jump : List D → Oc D := run 5 rd_is_jump.1
end Pl

set_option maxRecDepth 100000
set_option maxHeartbeats 4000000
namespace Pl
open PySem PySem.Spec PyProof.Rows L2 Fx
open PySem.W (Frag)
abbrev s_all_least : Stmt := top 36
abbrev n_all_least : List Str := ["code", "mask"]
theorem sc_all_least : FnScope n_all_least ["code"] (defScope s_all_least) := ⟨rfl, rfl, rfl, by decide +kernel, rfl, by decide +kernel, by decide +kernel⟩
noncomputable def rd_all_least : { s : SE → SR // ∀ {P : Program} {w : World} {K : Frag} {mg : Str → Option Value} {base : Heap} {M : MC} {f : Addr} {fd : FuncData} (Z : Wd P w K mg base M) (w_least_masks : DO P w K mg base M 5 "_least_masks" 1 φ_least_masks) (w_numbers_in : DO P w K mg base M 2 "numbers_in" 1 φ_numbers_in) (F : Fun K "all_least" "all_least" s_all_least f fd), FnOk P w K mg base (L2.CX P w) 6 f fd ["code"] (spD M 1 (run 2 s)) } := ⟨_, fun {P w K mg base M f fd} Z w_least_masks w_numbers_in F => have nd := sc_all_least.nd
  defO F sc_all_least rfl fun cdv A outer s0 H E hr =>
    (s_cons (s_ret (d_callT (cd_tuple Z.hK) (by rfl) Z.tuple (by decide +kernel) (da_cons (d_call (cd_sorted Z.hK Z.ok hr.units) (by rfl) Z.sorted (by decide +kernel) (da_cons (d_ofO (do_lc (sl := [1]) rfl nd (di_seq Z.hK (d_fo w_least_masks (hr.mono (by decide)) (passes_call (takes_of rfl rfl rfl rfl) (fun _ _ _ _ h => h)) (da_cons (d_var (i := 0) rfl (by first | exact Or.inl rfl | exact Or.inr (Or.inl rfl) | exact Or.inr (Or.inr rfl))) da_nil))) (blkOk_by (own := [("mask", 1)]) (N := n_all_least) (sc := defScope s_all_least) (by decide +kernel)) (fun _ _ _ _ _ => (dg_name (i := 1) nd rfl (by first | exact Or.inl rfl | exact Or.inr rfl))) (fun _ _ _ _ _ => dts_nil) (fun _ _ _ _ _ => (d_fo w_numbers_in (hr.mono (by decide)) passN (da_cons (d_var (i := 1) rfl (by first | exact Or.inl rfl | exact Or.inr (Or.inl rfl) | exact Or.inr (Or.inr rfl))) da_nil))) (by decide))) da_nil)) da_nil))) s_nil)⟩
noncomputable def φ_all_least : List D → Oc D := run 2 rd_all_least.1
abbrev s_always : Stmt := top 37
abbrev n_always : List Str := ["code", "masks", "shared", "mask"]
theorem sc_always : FnScope n_always ["code"] (defScope s_always) := ⟨rfl, rfl, rfl, by decide +kernel, rfl, by decide +kernel, by decide +kernel⟩
noncomputable def rd_always : { s : SE → SR // ∀ {P : Program} {w : World} {K : Frag} {mg : Str → Option Value} {base : Heap} {M : MC} {f : Addr} {fd : FuncData} (Z : Wd P w K mg base M) (w_numbers_in : DO P w K mg base M 2 "numbers_in" 1 φ_numbers_in) (w_least_masks : DO P w K mg base M 5 "_least_masks" 1 φ_least_masks) (F : Fun K "always" "always" s_always f fd), FnOk P w K mg base (L2.CX P w) 6 f fd ["code"] (spD M 1 (run 4 s)) } := ⟨_, fun {P w K mg base M f fd} Z w_numbers_in w_least_masks F => have nd := sc_always.nd
  defO F sc_always rfl fun cdv A outer s0 H E hr =>
    (s_cons (s_set (i := 1) nd rfl (by first | exact Or.inl rfl | exact Or.inr rfl) (d_fo w_least_masks (hr.mono (by decide)) (passes_call (takes_of rfl rfl rfl rfl) (fun _ _ _ _ h => h)) (da_cons (d_var (i := 0) rfl (by first | exact Or.inl rfl | exact Or.inr (Or.inl rfl) | exact Or.inr (Or.inr rfl))) da_nil))) (s_cons (s_set (i := 2) nd rfl (by first | exact Or.inl rfl | exact Or.inr rfl) (d_ix Z.hK (d_var (i := 1) rfl (by first | exact Or.inl rfl | exact Or.inr (Or.inl rfl) | exact Or.inr (Or.inr rfl))) d_int)) (s_cons (s_for (passes_of rfl) rfl (di_seq Z.hK (d_var (i := 1) rfl (by first | exact Or.inl rfl | exact Or.inr (Or.inl rfl) | exact Or.inr (Or.inr rfl)))) (dg_name (i := 3) nd rfl (by first | exact Or.inl rfl | exact Or.inr rfl)) (s_cons (s_aug (i := 2) nd rfl (by first | exact Or.inl rfl | exact Or.inr rfl) (d_var (i := 3) rfl (by first | exact Or.inl rfl | exact Or.inr (Or.inl rfl) | exact Or.inr (Or.inr rfl))) od_iand) s_nil)) (s_cons (s_ret (d_fo w_numbers_in (hr.mono (by decide)) (passes_call (takes_of rfl rfl rfl rfl) (fun _ _ _ _ h => h)) (da_cons (d_var (i := 2) rfl (by first | exact Or.inl rfl | exact Or.inr (Or.inl rfl) | exact Or.inr (Or.inr rfl))) da_nil))) s_nil))))⟩
noncomputable def φ_always : List D → Oc D := run 4 rd_always.1
abbrev s_sometimes : Stmt := top 38
abbrev n_sometimes : List Str := ["code", "taken", "mask"]
theorem sc_sometimes : FnScope n_sometimes ["code"] (defScope s_sometimes) := ⟨rfl, rfl, rfl, by decide +kernel, rfl, by decide +kernel, by decide +kernel⟩
noncomputable def rd_sometimes : { s : SE → SR // ∀ {P : Program} {w : World} {K : Frag} {mg : Str → Option Value} {base : Heap} {M : MC} {f : Addr} {fd : FuncData} (Z : Wd P w K mg base M) (w_numbers_in : DO P w K mg base M 2 "numbers_in" 1 φ_numbers_in) (w_least_masks : DO P w K mg base M 5 "_least_masks" 1 φ_least_masks) (F : Fun K "sometimes" "sometimes" s_sometimes f fd), FnOk P w K mg base (L2.CX P w) 6 f fd ["code"] (spD M 1 (run 3 s)) } := ⟨_, fun {P w K mg base M f fd} Z w_numbers_in w_least_masks F => have nd := sc_sometimes.nd
  defO F sc_sometimes rfl fun cdv A outer s0 H E hr =>
    (s_cons (s_set (i := 1) nd rfl (by first | exact Or.inl rfl | exact Or.inr rfl) d_int) (s_cons (s_for (passes_of rfl) rfl (di_seq Z.hK (d_fo w_least_masks (hr.mono (by decide)) (passes_call (takes_of rfl rfl rfl rfl) (fun _ _ _ _ h => h)) (da_cons (d_var (i := 0) rfl (by first | exact Or.inl rfl | exact Or.inr (Or.inl rfl) | exact Or.inr (Or.inr rfl))) da_nil))) (dg_name (i := 2) nd rfl (by first | exact Or.inl rfl | exact Or.inr rfl)) (s_cons (s_aug (i := 1) nd rfl (by first | exact Or.inl rfl | exact Or.inr rfl) (d_var (i := 2) rfl (by first | exact Or.inl rfl | exact Or.inr (Or.inl rfl) | exact Or.inr (Or.inr rfl))) od_ior) s_nil)) (s_cons (s_ret (d_fo w_numbers_in (hr.mono (by decide)) (passes_call (takes_of rfl rfl rfl rfl) (fun _ _ _ _ h => h)) (da_cons (d_var (i := 1) rfl (by first | exact Or.inl rfl | exact Or.inr (Or.inl rfl) | exact Or.inr (Or.inr rfl))) da_nil))) s_nil)))⟩
noncomputable def φ_sometimes : List D → Oc D := run 3 rd_sometimes.1
end Pl

set_option maxRecDepth 100000
set_option maxHeartbeats 4000000
namespace Pl
open PySem PySem.Spec PyProof.Rows L2 Fx
open PySem.W (Frag)
abbrev s_left_from : Stmt := top 39
abbrev n_left_from : List Str := ["code", "number", "others", "without", "price"]
theorem sc_left_from : FnScope n_left_from ["code", "number"] (defScope s_left_from) := ⟨rfl, rfl, rfl, by decide +kernel, rfl, by decide +kernel, by decide +kernel⟩
noncomputable def rd_left_from : { s : SE → SR // ∀ {P : Program} {w : World} {K : Frag} {mg : Str → Option Value} {base : Heap} {M : MC} {f : Addr} {fd : FuncData} (Z : Wd P w K mg base M) (w_least_costs : DO P w K mg base M 5 "_least_costs" 2 φ_least_costs) (F : Fun K "left_from" "left_from" s_left_from f fd), FnOk P w K mg base (L2.CX P w) 6 f fd ["code", "number"] (spD M 2 (run 5 s)) } := ⟨_, fun {P w K mg base M f fd} Z w_least_costs F => have nd := sc_left_from.nd
  defO F sc_left_from rfl fun cdv A outer s0 H E hr =>
    (s_cons (s_asg (d_fo w_least_costs (hr.mono (by decide)) (passes_call (takes_of rfl rfl rfl rfl) (fun _ _ _ _ h => h)) (da_cons (d_var (i := 0) rfl (by first | exact Or.inl rfl | exact Or.inr (Or.inl rfl) | exact Or.inr (Or.inr rfl))) (da_cons (d_var (i := 1) rfl (by first | exact Or.inl rfl | exact Or.inr (Or.inl rfl) | exact Or.inr (Or.inr rfl))) da_nil))) (dg_tup (n := 2) Z.hK rfl (dgs_cons (dg_name (i := 2) nd rfl (by first | exact Or.inl rfl | exact Or.inr rfl)) (dgs_cons (dg_name (i := 3) nd rfl (by first | exact Or.inl rfl | exact Or.inr rfl)) dgs_nil)))) (s_cons (s_for (passes_of rfl) rfl (di_range1 (by rfl) Z.range (da_cons (d_op (od_plus Z.hK) (d_gintE (by rfl) Z.g_GREATEST_PRICE) d_int) da_nil)) (dg_name (i := 4) nd rfl (by first | exact Or.inl rfl | exact Or.inr rfl)) (s_cons (s_if (dt_cmp (od_gt Z.ok) (d_op (od_plus Z.hK) (d_var (i := 2) rfl (by first | exact Or.inl rfl | exact Or.inr (Or.inl rfl) | exact Or.inr (Or.inr rfl))) (d_var (i := 4) rfl (by first | exact Or.inl rfl | exact Or.inr (Or.inl rfl) | exact Or.inr (Or.inr rfl)))) (d_var (i := 3) rfl (by first | exact Or.inl rfl | exact Or.inr (Or.inl rfl) | exact Or.inr (Or.inr rfl)))) (s_cons (s_ret (d_var (i := 4) rfl (by first | exact Or.inl rfl | exact Or.inr (Or.inl rfl) | exact Or.inr (Or.inr rfl)))) s_nil) s_nil) s_nil)) (s_cons (s_ret d_non) s_nil)))⟩
noncomputable def φ_left_from : List D → Oc D := run 5 rd_left_from.1
abbrev s_steps_of : Stmt := top 40
abbrev n_steps_of : List Str := ["code", "number", "others", "without", "price"]
theorem sc_steps_of : FnScope n_steps_of ["code", "number"] (defScope s_steps_of) := ⟨rfl, rfl, rfl, by decide +kernel, rfl, by decide +kernel, by decide +kernel⟩
noncomputable def rd_steps_of : { s : SE → SR // ∀ {P : Program} {w : World} {K : Frag} {mg : Str → Option Value} {base : Heap} {M : MC} {f : Addr} {fd : FuncData} (Z : Wd P w K mg base M) (w_least_costs : DO P w K mg base M 5 "_least_costs" 2 φ_least_costs) (F : Fun K "steps_of" "steps_of" s_steps_of f fd), FnOk P w K mg base (L2.CX P w) 6 f fd ["code", "number"] (spD M 2 (run 5 s)) } := ⟨_, fun {P w K mg base M f fd} Z w_least_costs F => have nd := sc_steps_of.nd
  defO F sc_steps_of rfl fun cdv A outer s0 H E hr =>
    (s_cons (s_asg (d_fo w_least_costs (hr.mono (by decide)) (passes_call (takes_of rfl rfl rfl rfl) (fun _ _ _ _ h => h)) (da_cons (d_var (i := 0) rfl (by first | exact Or.inl rfl | exact Or.inr (Or.inl rfl) | exact Or.inr (Or.inr rfl))) (da_cons (d_var (i := 1) rfl (by first | exact Or.inl rfl | exact Or.inr (Or.inl rfl) | exact Or.inr (Or.inr rfl))) da_nil))) (dg_tup (n := 2) Z.hK rfl (dgs_cons (dg_name (i := 2) nd rfl (by first | exact Or.inl rfl | exact Or.inr rfl)) (dgs_cons (dg_name (i := 3) nd rfl (by first | exact Or.inl rfl | exact Or.inr rfl)) dgs_nil)))) (s_cons (s_ret (d_callT (cd_tuple Z.hK) (by rfl) Z.tuple (by decide +kernel) (da_cons (d_ofO (do_lc (sl := [4]) rfl nd (di_range1 (by rfl) Z.range (da_cons (d_op (od_plus Z.hK) (d_gintE (by rfl) Z.g_GREATEST_PRICE) d_int) da_nil)) (blkOk_by (own := [("price", 4)]) (N := n_steps_of) (sc := defScope s_steps_of) (by decide +kernel)) (fun _ _ _ _ _ => (dg_name (i := 4) nd rfl (by first | exact Or.inl rfl | exact Or.inr rfl))) (fun _ _ _ _ _ => dts_nil) (fun _ _ _ _ _ => (d_call (cd_min Z.hK rfl) (by rfl) Z.min (by decide +kernel) (da_cons (d_op (od_plus Z.hK) (d_var (i := 2) rfl (by first | exact Or.inl rfl | exact Or.inr (Or.inl rfl) | exact Or.inr (Or.inr rfl))) (d_var (i := 4) rfl (by first | exact Or.inl rfl | exact Or.inr (Or.inl rfl) | exact Or.inr (Or.inr rfl)))) (da_cons (d_var (i := 3) rfl (by first | exact Or.inl rfl | exact Or.inr (Or.inl rfl) | exact Or.inr (Or.inr rfl))) da_nil)))) (by decide))) da_nil))) s_nil))⟩
noncomputable def φ_steps_of : List D → Oc D := run 5 rd_steps_of.1
abbrev s_Code_init : Stmt := inClass (top 23) 0
abbrev n_Code_init : List Str := ["self", "places", "door", "jumps", "number", "jump"]
theorem sc_Code_init : FnScope n_Code_init ["self", "places", "door", "jumps"] (defScope s_Code_init) := ⟨rfl, rfl, rfl, by decide +kernel, rfl, by decide +kernel, by decide +kernel⟩
noncomputable def rd_Code_init : { s : SE → Oc D // ∀ {P : Program} {w : World} {K : Frag} {mg : Str → Option Value} {base : Heap} {M : MC} {f : Addr} {fd : FuncData} (Z : Wd P w K mg base M) (w_are_places : ∀ a, DO P w K mg base (M.at a) 3 "are_places" 1 φ_are_places) (w_is_place : ∀ a, DO P w K mg base (M.at a) 2 "is_place" 2 φ_is_place) (w_is_jump : ∀ a, DO P w K mg base (M.at a) 5 "_is_jump" 2 φ_is_jump) (w_places_reached : ∀ a, DO P w K mg base (M.at a) 2 "places_reached" 2 φ_places_reached) (F : FunW K "__init__" "Code.__init__" s_Code_init f fd), FnOk P w K mg base (L2.CX P w) 6 f fd ["self", "places", "door", "jumps"] (spI M (initD 6 s)) } := ⟨_, fun {P w K mg base M f fd} Z w_are_places w_is_place w_is_jump w_places_reached F => have nd := sc_Code_init.nd
  initO F sc_Code_init fun a dx cdv A outer s0 H E hr => have Z := Z.at a; have w_are_places := w_are_places a; have w_is_place := w_is_place a; have w_is_jump := w_is_jump a; have w_places_reached := w_places_reached a; 
    (s_consI (s_if (dt_not (dt_val (d_fo w_are_places (hr.mono (by decide)) (passes_call (takes_of rfl rfl rfl rfl) (fun _ _ _ _ h => h)) (da_cons (d_var (i := 1) rfl (by first | exact Or.inl rfl | exact Or.inr (Or.inl rfl) | exact Or.inr (Or.inr rfl))) da_nil)))) (s_cons (s_raiseB Z.x_BadCode hr (takes_of rfl rfl rfl rfl) d_str) s_nil) s_nil) (s_consI (s_if (dt_not (dt_val (d_fo w_is_place (hr.mono (by decide)) (passes_call (takes_of rfl rfl rfl rfl) (fun _ _ _ _ h => h)) (da_cons (d_var (i := 1) rfl (by first | exact Or.inl rfl | exact Or.inr (Or.inl rfl) | exact Or.inr (Or.inr rfl))) (da_cons (d_var (i := 2) rfl (by first | exact Or.inl rfl | exact Or.inr (Or.inl rfl) | exact Or.inr (Or.inr rfl))) da_nil))))) (s_cons (s_raiseB Z.x_BadCode hr (takes_of rfl rfl rfl rfl) d_str) s_nil) s_nil) (s_consI (s_if (PW.pt (dw_or (dt_not (dt_val (d_isi2 (Ty := "list") (Uy := "tuple") Z.hK (by rfl) Z.isi (by rfl) Z.list (by decide +kernel) (by rfl) Z.tuple (by decide +kernel) (d_var (i := 3) rfl (by first | exact Or.inl rfl | exact Or.inr (Or.inl rfl) | exact Or.inr (Or.inr rfl)))))) (dw_one (dt_cmp (od_gt Z.ok) (d_call (cd_len Z.hK) (by rfl) Z.len (by decide +kernel) (da_cons (d_var (i := 3) rfl (by first | exact Or.inl rfl | exact Or.inr (Or.inl rfl) | exact Or.inr (Or.inr rfl))) da_nil)) (d_gintE (by rfl) Z.g_MOST_JUMPS))))) (s_cons (s_raiseB Z.x_BadCode hr (takes_of rfl rfl rfl rfl) d_non) s_nil) s_nil) (s_consI (s_for (passes_of rfl) rfl (di_enum Z.hK (by rfl) Z.enum (da_cons (d_var (i := 3) rfl (by first | exact Or.inl rfl | exact Or.inr (Or.inl rfl) | exact Or.inr (Or.inr rfl))) da_nil)) (dg_tup (n := 2) Z.hK rfl (dgs_cons (dg_name (i := 4) nd rfl (by first | exact Or.inl rfl | exact Or.inr rfl)) (dgs_cons (dg_name (i := 5) nd rfl (by first | exact Or.inl rfl | exact Or.inr rfl)) dgs_nil))) (s_cons (s_if (dt_not (dt_val (d_fo w_is_jump (hr.mono (by decide)) (passes_call (takes_of rfl rfl rfl rfl) (fun _ _ _ _ h => h)) (da_cons (d_var (i := 1) rfl (by first | exact Or.inl rfl | exact Or.inr (Or.inl rfl) | exact Or.inr (Or.inr rfl))) (da_cons (d_var (i := 5) rfl (by first | exact Or.inl rfl | exact Or.inr (Or.inl rfl) | exact Or.inr (Or.inr rfl))) da_nil))))) (s_cons (s_raiseB Z.x_BadCode hr (takes_of rfl rfl rfl rfl) (d_var (i := 4) rfl (by first | exact Or.inl rfl | exact Or.inr (Or.inl rfl) | exact Or.inr (Or.inr rfl)))) s_nil) s_nil) s_nil)) (s_consI (s_if (dt_cmp (od_lt Z.hK Z.ok hr.units0) (d_call (cd_len Z.hK) (by rfl) Z.len (by decide +kernel) (da_cons (d_fo w_places_reached (hr.mono (by decide)) (passes_call (takes_of rfl rfl rfl rfl) (fun _ _ _ _ h => h)) (da_cons (d_var (i := 2) rfl (by first | exact Or.inl rfl | exact Or.inr (Or.inl rfl) | exact Or.inr (Or.inr rfl))) (da_cons (d_var (i := 3) rfl (by first | exact Or.inl rfl | exact Or.inr (Or.inl rfl) | exact Or.inr (Or.inr rfl))) da_nil))) da_nil)) (d_call (cd_len Z.hK) (by rfl) Z.len (by decide +kernel) (da_cons (d_var (i := 1) rfl (by first | exact Or.inl rfl | exact Or.inr (Or.inl rfl) | exact Or.inr (Or.inr rfl))) da_nil))) (s_cons (s_raiseB Z.x_BadCode hr (takes_of rfl rfl rfl rfl) d_str) s_nil) s_nil) (s_endI (fun _ => rfl) Z.hK Z.cl Z.n_places Z.n_door Z.n_jumps rfl rfl rfl rfl (Or.inl rfl) (Or.inl rfl) (Or.inl rfl) (Or.inl rfl) (by rfl) Z.tuple))))))⟩
noncomputable def φ_Code_init : List D → Oc D := initD 6 rd_Code_init.1
end Pl

set_option maxRecDepth 100000
set_option maxHeartbeats 4000000
namespace Pl
open PySem PySem.Spec PyProof.Rows L2 Fx
open PySem.W (Frag)
end Pl

set_option maxRecDepth 100000
set_option maxHeartbeats 4000000
namespace Pl
open PySem PySem.Spec PyProof.Rows L2 Fx
open PySem.W (Frag)
abbrev s_law_heard : Stmt := top 47
abbrev n_law_heard : List Str := ["call", "caught", "e", "kinds", "word", "is_so", "words"]
theorem sc_law_heard : FnScope n_law_heard ["call"] (defScope s_law_heard) := ⟨rfl, rfl, rfl, by decide +kernel, rfl, by decide +kernel, by decide +kernel⟩
/-- what a call may be refused by -/
abbrev xcs : List Str := ["SeveralDoors", "NoCut", "BadLot", "BadRun", "BadNumber"]
abbrev hrd (X : Cx) (g : Addr) (cdg : Value) (s : Shared) (H : Hp) : Cx := (cxOf C8.CX0 X.prog X.w X.K X.mg X.base n_law_heard "_law_heard" (defScope s_law_heard) g cdg X.A X.stack s H C8.E0).nox
noncomputable def rd_heard : { s : SE → SR // ∀ {X : Cx} {M : MC} {g : Addr} {cdg : Value} {s0 : Shared} {H : Hp} {k : Nat} (Z : Wd X.prog X.w X.K X.mg X.base M) (A : XH X.K X.mg M xcs) (hr : Room k (hrd X g cdg s0 H).A), PSs (hrd X g cdg s0 H) ((defBody s_law_heard).drop 2) (tS M NoX s) } := ⟨_, fun {X M g cdg s0 H k} Z A hr => have nd := sc_law_heard.nd
    (s_cons (s_if (dt_val (d_isX A Z.isi (by decide +kernel) (d_var (i := 1) rfl (by first | exact Or.inl rfl | exact Or.inr (Or.inl rfl) | exact Or.inr (Or.inr rfl))))) (s_cons (s_ret (d_tup (da_cons d_str (da_cons (d_fx A (d_var (i := 1) rfl (by first | exact Or.inl rfl | exact Or.inr (Or.inl rfl) | exact Or.inr (Or.inr rfl)))) da_nil)))) s_nil) s_nil) (s_cons (s_if (dt_val (d_isX A Z.isi (by decide +kernel) (d_var (i := 1) rfl (by first | exact Or.inl rfl | exact Or.inr (Or.inl rfl) | exact Or.inr (Or.inr rfl))))) (s_cons (s_ret (d_tup (da_cons d_str (da_cons (d_fx A (d_var (i := 1) rfl (by first | exact Or.inl rfl | exact Or.inr (Or.inl rfl) | exact Or.inr (Or.inr rfl)))) da_nil)))) s_nil) s_nil) (s_cons (s_setO (i := 3) nd rfl (by first | exact Or.inl rfl | exact Or.inr rfl) (do_lst (da_cons (d_tup (da_cons d_str (da_cons (d_isX A Z.isi (by decide +kernel) (d_var (i := 1) rfl (by first | exact Or.inl rfl | exact Or.inr (Or.inl rfl) | exact Or.inr (Or.inr rfl)))) da_nil))) (da_cons (d_tup (da_cons d_str (da_cons (d_isX A Z.isi (by decide +kernel) (d_var (i := 1) rfl (by first | exact Or.inl rfl | exact Or.inr (Or.inl rfl) | exact Or.inr (Or.inr rfl)))) da_nil))) da_nil)))) (s_cons (s_app (i := 3) rfl (by first | exact Or.inl rfl | exact Or.inr (Or.inl rfl) | exact Or.inr (Or.inr rfl)) (d_tup (da_cons d_str (da_cons (d_isX A Z.isi (by decide +kernel) (d_var (i := 1) rfl (by first | exact Or.inl rfl | exact Or.inr (Or.inl rfl) | exact Or.inr (Or.inr rfl)))) da_nil)))) (s_cons (s_lcO (i := 6) (sl := [4, 5]) rfl nd rfl (by rfl) (by rfl) (by rfl) (di_seq Z.hK (d_var (i := 3) rfl (by first | exact Or.inl rfl | exact Or.inr (Or.inl rfl) | exact Or.inr (Or.inr rfl)))) (blkOk_by (own := [("word", 4), ("is_so", 5)]) (N := n_law_heard) (sc := defScope s_law_heard) (by decide +kernel)) (fun _ _ _ _ _ => (dg_tup (n := 2) Z.hK rfl (dgs_cons (dg_name (i := 4) nd rfl (by first | exact Or.inl rfl | exact Or.inr rfl)) (dgs_cons (dg_name (i := 5) nd rfl (by first | exact Or.inl rfl | exact Or.inr rfl)) dgs_nil)))) (fun _ _ _ _ _ => (dts_one (dt_val (d_var (i := 5) rfl (by first | exact Or.inl rfl | exact Or.inr (Or.inl rfl) | exact Or.inr (Or.inr rfl)))))) (fun _ _ _ _ _ => (d_var (i := 4) rfl (by first | exact Or.inl rfl | exact Or.inr (Or.inl rfl) | exact Or.inr (Or.inr rfl)))) (by decide)) (s_cons (s_ret (d_if (dt_cmp (od_eq Z.hK Z.ok hr.units) (d_call (cd_len Z.hK) (by rfl) Z.len (by decide +kernel) (da_cons (d_var (i := 6) rfl (by first | exact Or.inl rfl | exact Or.inr (Or.inl rfl) | exact Or.inr (Or.inr rfl))) da_nil)) d_int) (d_tup (da_cons (d_ix Z.hK (d_var (i := 6) rfl (by first | exact Or.inl rfl | exact Or.inr (Or.inl rfl) | exact Or.inr (Or.inr rfl))) d_int) (da_cons (d_fx A (d_var (i := 1) rfl (by first | exact Or.inl rfl | exact Or.inr (Or.inl rfl) | exact Or.inr (Or.inr rfl)))) da_nil))) (d_tup (da_cons d_str (da_cons d_non da_nil))))) s_nil))))))⟩
def seH (c : Str) (d : D) : SE := [none, some (.im (.exv c d)), none, none, none, none, none]
noncomputable def φ_heard : Oc D → Oc D
  | .ok d => .ok (.lst [d])
  | .exc c d => if c ∈ xcs then fin (rd_heard.1 (seH c d)) else .bad
  | .bad => .bad
end Pl

set_option maxRecDepth 100000
set_option maxHeartbeats 4000000
namespace Pl
open PySem PySem.Spec PyProof.Rows L2 Fx LamX
open PySem.W (Frag)
theorem fin_post {M : MC} {F H : Hp} {Q : VK} {s : SR} (p : Post M NoX (R M) F H Q (okOnly (fin s))) : SPost M NoX F H { nx := fun _ H' => Q .non H', rt := Q } s := by
  cases s with
  | nx e => exact fun σ' H' G' B' r => p .non G' H' r.g .non
  | ret d => exact p
  | bk e => exact p.elim
  | ct e => exact p.elim
  | exc c d => exact p.elim
  | bad => exact p.elim
theorem seH_at {c : Str} {d : D} {i : Nat} {u : Sl} (z : (seH c d)[i]? = some (some u)) : i = 1 ∧ u = .im (.exv c d) := by
  match i, z with
  | 0, z => cases z
  | 1, z =>
    cases z
    exact ⟨rfl, rfl⟩
  | 2, z => cases z
  | 3, z => cases z
  | 4, z => cases z
  | 5, z => cases z
  | 6, z => cases z
  | n + 7, z =>
    have z : ([] : SE)[n]? = some (some u) := z
    simp at z
theorem heard_gives {X : Cx} {M : MC} {g le : Addr} {cdg : Value} {q : Str} {k : Nat} (Z : Wd X.prog X.w X.K X.mg X.base M) (A : XH X.K X.mg M xcs) (gL : X.mg "LoopError" = some (.ref le)) (ex : ∀ c ∈ xcs, PySem.W.exmAny X.K (.ref (M.xa c)) [.ref le, .ref (M.xa "SeveralDoors"), .ref (M.xa "NoCut")] = some true)
    (hr : Room (k + 1) X.A) : GivesTo X n_law_heard "_law_heard" (defScope s_law_heard) g cdg (defBody s_law_heard) "call" q (TTp M φ_heard) := by
  intro f c' s H Q tl act hc h
  obtain ⟨o, F, sx, htl, p⟩ := h
  have hr' : Room k (hrd X g cdg s H).A := hr.deeper _
  have nd := sc_law_heard.nd
  refine ⟨_, pss_cons (ps_set (X := hrd X g cdg s H) (i := 1) nd rfl (Or.inl rfl) pe_non) (pss_cons (ps_try_kept (X := hrd X g cdg s H) (i := 2) (j := 1) (c1 := .ref le) (c2 := .ref (M.xa "SeveralDoors")) (c3 := .ref (M.xa "NoCut"))
    (tb := fun W D σ H => ∃ Ech : XK, (∀ cls d σ' H', Ech cls d H' → W cls d σ' H') ∧ σ[0]? = some (some (.ref f)) ∧ H c' = some (CodeO c' q) ∧ tl Ech H (fun v H1 => 1 ≤ sizeLine ∧ ∀ p, H1 p = none → D.rt (.ref p) (upd H1 p (.lst [v]))))
    rfl rfl rfl nd rfl rfl rfl rfl (by decide) ⟨rfl, gL⟩ ⟨rfl, A.g _ (by decide +kernel)⟩ ⟨rfl, A.g _ (by decide +kernel)⟩ (by decide) (by decide) (by decide) (fun W pn xe tk _ => ?_)) (rd_heard.2 Z A hr')), ?_⟩
  · refine ⟨fun pins s' σ H' D I h' => ?_⟩
    obtain ⟨Ech, hW, h1, h2, h3⟩ := h'
    exact (pss_one (ps_ret (pe_lst (pa_cons (act W pn xe Ech _ _ tk hW) pa_nil)))).run pins s' σ H' D I ⟨h1, h2, h3⟩
  · refine ⟨fun cls d H' => ∀ σ', wKept X.K [.ref le, .ref (M.xa "SeveralDoors"), .ref (M.xa "NoCut")] 2 1 7 _ cls d σ' H', fun cls d σ' H' z => z σ', rfl, hc, htl _ _ ?_⟩
    cases o with
    | bad => exact p.elim
    | ok d =>
      have p : Post M NoX (R M) F H Q (.ok (.lst [d])) := p
      intro x F' H' e r
      exact ⟨by decide, fun q hq => (Post.later p e).newL e.s (.one r) hq⟩
    | exc c d =>
      have p : Post M NoX (R M) F H Q (okOnly (if c ∈ xcs then fin (rd_heard.1 (seH c d)) else .bad)) := p
      split at p
      · rename_i hcx
        intro v F' H' dx e rv hdx σ'
        refine ⟨ex c hcx, fun hl => ⟨M.xa c, rfl, fun a ha => ?_⟩⟩
        have e1 : Ex M.T F' H' (upd F' dx (.xd [(M.fl c, v)])) (upd H' dx (.xd [(M.fl c, v)])) := Ex.new e.s hdx
        have e2 : Ex M.T _ _ (upd (upd F' dx (.xd [(M.fl c, v)])) a (ExB (M.xa c) (some dx) a)) (upd (upd H' dx (.xd [(M.fl c, v)])) a (ExB (M.xa c) (some dx) a)) := Ex.new e1.s ha (by intro ps z; unfold ExB at z; cases z)
        have ne : dx ≠ a := fun z => by
          rw [z, upd_same] at ha
          cases ha
        have rx : R M (upd (upd F' dx (.xd [(M.fl c, v)])) a (ExB (M.xa c) (some dx) a)) (.ref a) (.exv c d) := .exv upd_same (by rw [upd_ne ne, upd_same]) ((rv.ext e1.f).ext e2.f)
        refine ⟨_, _, _, fun _ => none, seH c d, ⟨?_, Ex.refl e2.s, fun p o z => (by cases z), fun i d' z => ?_, fun i ds z => ?_, fun i ks vs z => ?_, fun i j p _ _ o1 _ => ?_⟩, fin_post (Post.later p ((e.trans e1).trans e2))⟩
        · rw [List.length_set, List.length_set, List.length_set, hl]
          exact Nat.le_refl 7
        · obtain ⟨rfl, e⟩ := seH_at z
          cases e
          refine ⟨_, ?_, rx⟩
          rw [List.getElem?_set_ne (by decide), List.getElem?_set_self (by rw [List.length_set, hl]; decide)]
        · obtain ⟨_, z⟩ := seH_at z
          cases z
        · obtain ⟨_, z⟩ := seH_at z
          cases z
        · rcases o1 with ⟨ds, z⟩ | ⟨ks, vs, z⟩
          · obtain ⟨_, z⟩ := seH_at z
            cases z
          · obtain ⟨_, z⟩ := seH_at z
            cases z
      · exact p.elim
end Pl

set_option maxRecDepth 100000
set_option maxHeartbeats 4000000
namespace Pl
open PySem PySem.Spec PyProof.Rows L2 Fx LamX
open PySem.W (Frag)
/-- all that a call of _law_heard asks -/
structure WHd (P : Program) (w : World) (K : Frag) (mg : Str → Option Value) (base : Heap) (M : MC) : Prop where
  A : XH K mg M xcs
  le : ∃ le : Addr, mg "LoopError" = some (.ref le) ∧ ∀ c ∈ xcs, PySem.W.exmAny K (.ref (M.xa c)) [.ref le, .ref (M.xa "SeveralDoors"), .ref (M.xa "NoCut")] = some true
  fn : ∃ (g : Addr) (fd : FuncData), Fun K "_law_heard" "_law_heard" s_law_heard g fd ∧ L2.Binds K fd ["call"] [] ∧ mg "_law_heard" = some (.ref g)
section
variable {X : Cx} {M : MC} {E : XK} {k : Nat} {c P : Addr} {qual : Str} {p lpos pos : Pos} {params : Arguments} {body : Expr} {sc : Scope} {gb : En → Oc D}
theorem d_heard (W : WHd X.prog X.w X.K X.mg X.base M) (Z : Wd X.prog X.w X.K X.mg X.base M) (hr : Room (k + 2) X.A) (T : LTab X.base X.mg M.T qual c P) (eq : X.env.qual = qual ++ ".<locals>.") (cd : X.env.code = .ref c) (L : LamS X.env.scope sc) (hdef : defaultsOf params X.env = ([], []))
    (hbind : ∀ (q : Str) (cl : List (Str × Addr)) (pm cv ctv : Value), bindArgs (PySem.W.kla_fn "<lambda>" q params body sc cl pm cv ctv) ⟨[], []⟩ = pure []) (hg : Gl X "_law_heard")
    (bodyR : ∀ (A : Around) (outer : List Env) (s : Shared) (H : Hp) (E : XK) (f c' : Addr), Room k (A.deeper (lamEnv X sc s.heap.objs.size f c')) → PE (lamCx X A outer s H E sc f c') body (tP M E gb)) :
    PE X (.Call (.Name "_law_heard" p) [.Lambda params body sc lpos] [] pos) (tP M E fun en => okOnly (φ_heard (gb en))) := by
  obtain ⟨le, g1, g2⟩ := W.le
  obtain ⟨g, fd, F, hb, hm⟩ := W.fn
  obtain ⟨oc, od, kV, doc, pm, an, cdv, ct, osl, rfl, lk, hcd⟩ := F.ex
  exact PEup (pe_lamcall (T := M.T) (TT := TTp M φ_heard) (t := fun E => tP M E gb) hg hm F.kp lk hcd hb sc_law_heard rfl (Or.inl rfl) (heard_gives Z W.A g1 g2 (hr.mono (show 1 + 1 ≤ k + 2 by omega))) T.TB cd (by rw [eq]; exact T.mT) (by rw [eq]; exact T.uT) hr L hdef hbind bodyR) fun σ H Q h => tLam_up h
theorem d_heardD {px : Str} {j : Nat} {z : Int} {dpos : Pos} (W : WHd X.prog X.w X.K X.mg X.base M) (Z : Wd X.prog X.w X.K X.mg X.base M) (hr : Room (k + 2) X.A) (T : LTab X.base X.mg M.T qual c P) (eq : X.env.qual = qual ++ ".<locals>.") (cd : X.env.code = .ref c) (L : LamD X px sc) (de : params.defaults = [.Constant (.int z) j dpos]) (ke : params.kw_defaults = [])
    (bd : BindD px params body sc) (hg : Gl X "_law_heard")
    (bodyR : ∀ (A : Around) (outer : List Env) (s : Shared) (H : Hp) (E : XK) (f c' : Addr), Room k (A.deeper (lamEnv X sc s.heap.objs.size f c')) → PE (lamCx X A outer s H E sc f c') body (tP M E gb)) :
    PE X (.Call (.Name "_law_heard" p) [.Lambda params body sc lpos] [] pos) (tP M E fun en => okOnly (φ_heard (gb en))) := by
  obtain ⟨le, g1, g2⟩ := W.le
  obtain ⟨g, fd, F, hb, hm⟩ := W.fn
  obtain ⟨oc, od, kV, doc, pm, an, cdv, ct, osl, rfl, lk, hcd⟩ := F.ex
  exact PEup (pe_lamD (T := M.T) (TT := TTp M φ_heard) (t := fun E => tP M E gb) hg hm F.kp lk hcd hb sc_law_heard rfl (Or.inl rfl) (heard_gives Z W.A g1 g2 (hr.mono (show 1 + 1 ≤ k + 2 by omega))) T.TB cd (by rw [eq]; exact T.mT) (by rw [eq]; exact T.uT) hr L de ke bd bodyR) fun σ H Q h => tLam_up h
end
end Pl

set_option maxRecDepth 100000
set_option maxHeartbeats 4000000
namespace Pl
open PySem PySem.Spec PyProof.Rows L2 Fx
open PySem.W (Frag)
open LamX
abbrev s_law_hand_right : Stmt := top 49
abbrev n_law_hand_right : List Str := ["a", "b", "c", "code", "number", "free", "wide", "near", "bare", "many_so", "k", "lone"]
theorem sc_law_hand_right : FnScope n_law_hand_right ["a", "b", "c"] (defScope s_law_hand_right) := ⟨rfl, rfl, rfl, by decide +kernel, rfl, by decide +kernel, by decide +kernel⟩
noncomputable def rd_law_hand_right : { s : SE → SR // ∀ {P : Program} {w : World} {K : Frag} {mg : Str → Option Value} {base : Heap} {M : MC} {f : Addr} {fd : FuncData} (Z : Wd P w K mg base M) (w_steps_of : DO P w K mg base M 6 "steps_of" 2 φ_steps_of) (w_left_from : DO P w K mg base M 6 "left_from" 2 φ_left_from) (w_always : DO P w K mg base M 6 "always" 1 φ_always) (w_all_least : DO P w K mg base M 6 "all_least" 1 φ_all_least) (w_init : WI P w K mg base M 6 φ_Code_init) (w_sometimes : DO P w K mg base M 6 "sometimes" 1 φ_sometimes) (F : Fun K "_law_hand_right" "_law_hand_right" s_law_hand_right f fd), FnOk P w K mg base (L2.CX P w) 8 f fd ["a", "b", "c"] (spD M 3 (run 12 s)) } := ⟨_, fun {P w K mg base M f fd} Z w_steps_of w_left_from w_always w_all_least w_init w_sometimes F => have nd := sc_law_hand_right.nd
  defO F sc_law_hand_right rfl fun cdv A outer s0 H E hr => 
    (s_cons (s_set (i := 3) nd rfl (by first | exact Or.inl rfl | exact Or.inr rfl) (d_mk3 w_init (hr.mono (by decide)) (passes_call (takes_of rfl rfl rfl rfl) (fun _ _ _ _ h => h)) (da_cons (d_tup (da_cons (d_var (i := 0) rfl (by first | exact Or.inl rfl | exact Or.inr (Or.inl rfl) | exact Or.inr (Or.inr rfl))) (da_cons (d_var (i := 1) rfl (by first | exact Or.inl rfl | exact Or.inr (Or.inl rfl) | exact Or.inr (Or.inr rfl))) (da_cons (d_var (i := 2) rfl (by first | exact Or.inl rfl | exact Or.inr (Or.inl rfl) | exact Or.inr (Or.inr rfl))) da_nil)))) (da_cons (d_var (i := 0) rfl (by first | exact Or.inl rfl | exact Or.inr (Or.inl rfl) | exact Or.inr (Or.inr rfl))) (da_cons (d_ofO (do_lst (da_cons (d_tup (da_cons (d_var (i := 0) rfl (by first | exact Or.inl rfl | exact Or.inr (Or.inl rfl) | exact Or.inr (Or.inr rfl))) (da_cons (d_var (i := 1) rfl (by first | exact Or.inl rfl | exact Or.inr (Or.inl rfl) | exact Or.inr (Or.inr rfl))) (da_cons d_int da_nil)))) (da_cons (d_tup (da_cons (d_var (i := 1) rfl (by first | exact Or.inl rfl | exact Or.inr (Or.inl rfl) | exact Or.inr (Or.inr rfl))) (da_cons (d_var (i := 0) rfl (by first | exact Or.inl rfl | exact Or.inr (Or.inl rfl) | exact Or.inr (Or.inr rfl))) (da_cons d_int da_nil)))) (da_cons (d_tup (da_cons (d_var (i := 1) rfl (by first | exact Or.inl rfl | exact Or.inr (Or.inl rfl) | exact Or.inr (Or.inr rfl))) (da_cons (d_var (i := 2) rfl (by first | exact Or.inl rfl | exact Or.inr (Or.inl rfl) | exact Or.inr (Or.inr rfl))) (da_cons d_int da_nil)))) (da_cons (d_tup (da_cons (d_var (i := 2) rfl (by first | exact Or.inl rfl | exact Or.inr (Or.inl rfl) | exact Or.inr (Or.inr rfl))) (da_cons (d_var (i := 1) rfl (by first | exact Or.inl rfl | exact Or.inr (Or.inl rfl) | exact Or.inr (Or.inr rfl))) (da_cons d_int da_nil)))) da_nil)))))) da_nil))))) (s_cons (s_if (PW.pt (dw_or (dt_cmp (od_ne Z.hK Z.ok hr.units) (d_fo w_all_least (hr.mono (by decide)) (passes_call (takes_of rfl rfl rfl rfl) (fun _ _ _ _ h => h)) (da_cons (d_var (i := 3) rfl (by first | exact Or.inl rfl | exact Or.inr (Or.inl rfl) | exact Or.inr (Or.inr rfl))) da_nil)) (d_tup (da_cons (d_tup (da_cons d_int (da_cons d_int da_nil))) (da_cons (d_tup (da_cons d_int (da_cons d_int da_nil))) da_nil)))) (dw_or (dt_cmp (od_ne Z.hK Z.ok hr.units) (d_fo w_always (hr.mono (by decide)) (passes_call (takes_of rfl rfl rfl rfl) (fun _ _ _ _ h => h)) (da_cons (d_var (i := 3) rfl (by first | exact Or.inl rfl | exact Or.inr (Or.inl rfl) | exact Or.inr (Or.inr rfl))) da_nil)) (d_tup (da_cons d_int da_nil))) (dw_one (dt_cmp (od_ne Z.hK Z.ok hr.units) (d_fo w_sometimes (hr.mono (by decide)) (passes_call (takes_of rfl rfl rfl rfl) (fun _ _ _ _ h => h)) (da_cons (d_var (i := 3) rfl (by first | exact Or.inl rfl | exact Or.inr (Or.inl rfl) | exact Or.inr (Or.inr rfl))) da_nil)) (d_tup (da_cons d_int (da_cons d_int (da_cons d_int da_nil))))))))) (s_cons (s_ret d_bl) s_nil) s_nil) (s_cons (s_if (dt_cmp (od_ne Z.hK Z.ok hr.units) (d_ofO (do_lc (sl := [4]) rfl nd (di_range1 (by rfl) Z.range (da_cons d_int da_nil)) (blkOk_by (own := [("number", 4)]) (N := n_law_hand_right) (sc := defScope s_law_hand_right) (by decide +kernel)) (fun _ _ _ _ _ => (dg_name (i := 4) nd rfl (by first | exact Or.inl rfl | exact Or.inr rfl))) (fun _ _ _ _ _ => dts_nil) (fun _ _ _ _ _ => (d_fo w_left_from (hr.mono (by decide)) passN (da_cons (d_var (i := 3) rfl (by first | exact Or.inl rfl | exact Or.inr (Or.inl rfl) | exact Or.inr (Or.inr rfl))) (da_cons (d_var (i := 4) rfl (by first | exact Or.inl rfl | exact Or.inr (Or.inl rfl) | exact Or.inr (Or.inr rfl))) da_nil)))) (by decide))) (d_ofO (do_lst (da_cons d_int (da_cons d_int (da_cons d_int (da_cons d_int da_nil))))))) (s_cons (s_ret d_bl) s_nil) s_nil) (s_cons (s_if (PW.pt (dw_or (dt_cmp (od_ne Z.hK Z.ok hr.units) (d_fo w_steps_of (hr.mono (by decide)) (passes_call (takes_of rfl rfl rfl rfl) (fun _ _ _ _ h => h)) (da_cons (d_var (i := 3) rfl (by first | exact Or.inl rfl | exact Or.inr (Or.inl rfl) | exact Or.inr (Or.inr rfl))) (da_cons d_int da_nil))) (d_op (od_plus Z.hK) (d_tup (da_cons d_int (da_cons d_int (da_cons d_int da_nil)))) (d_op (od_mulA Z.hK) (d_tup (da_cons d_int da_nil)) d_int))) (dw_one (dt_cmp (od_ne Z.hK Z.ok hr.units) (d_fo w_steps_of (hr.mono (by decide)) (passes_call (takes_of rfl rfl rfl rfl) (fun _ _ _ _ h => h)) (da_cons (d_var (i := 3) rfl (by first | exact Or.inl rfl | exact Or.inr (Or.inl rfl) | exact Or.inr (Or.inr rfl))) (da_cons d_int da_nil))) (d_op (od_plus Z.hK) (d_tup (da_cons d_int (da_cons d_int da_nil))) (d_op (od_mulA Z.hK) (d_tup (da_cons d_int da_nil)) d_int)))))) (s_cons (s_ret d_bl) s_nil) s_nil) (s_cons (s_set (i := 5) nd rfl (by first | exact Or.inl rfl | exact Or.inr rfl) (d_mk3 w_init (hr.mono (by decide)) (passes_call (takes_of rfl rfl rfl rfl) (fun _ _ _ _ h => h)) (da_cons (d_tup (da_cons (d_var (i := 0) rfl (by first | exact Or.inl rfl | exact Or.inr (Or.inl rfl) | exact Or.inr (Or.inr rfl))) (da_cons (d_var (i := 1) rfl (by first | exact Or.inl rfl | exact Or.inr (Or.inl rfl) | exact Or.inr (Or.inr rfl))) (da_cons (d_var (i := 2) rfl (by first | exact Or.inl rfl | exact Or.inr (Or.inl rfl) | exact Or.inr (Or.inr rfl))) da_nil)))) (da_cons (d_var (i := 0) rfl (by first | exact Or.inl rfl | exact Or.inr (Or.inl rfl) | exact Or.inr (Or.inr rfl))) (da_cons (d_ofO (do_lst (da_cons (d_tup (da_cons (d_var (i := 0) rfl (by first | exact Or.inl rfl | exact Or.inr (Or.inl rfl) | exact Or.inr (Or.inr rfl))) (da_cons (d_var (i := 1) rfl (by first | exact Or.inl rfl | exact Or.inr (Or.inl rfl) | exact Or.inr (Or.inr rfl))) (da_cons d_int da_nil)))) (da_cons (d_tup (da_cons (d_var (i := 1) rfl (by first | exact Or.inl rfl | exact Or.inr (Or.inl rfl) | exact Or.inr (Or.inr rfl))) (da_cons (d_var (i := 0) rfl (by first | exact Or.inl rfl | exact Or.inr (Or.inl rfl) | exact Or.inr (Or.inr rfl))) (da_cons d_int da_nil)))) (da_cons (d_tup (da_cons (d_var (i := 1) rfl (by first | exact Or.inl rfl | exact Or.inr (Or.inl rfl) | exact Or.inr (Or.inr rfl))) (da_cons (d_var (i := 2) rfl (by first | exact Or.inl rfl | exact Or.inr (Or.inl rfl) | exact Or.inr (Or.inr rfl))) (da_cons d_int da_nil)))) (da_cons (d_tup (da_cons (d_var (i := 2) rfl (by first | exact Or.inl rfl | exact Or.inr (Or.inl rfl) | exact Or.inr (Or.inr rfl))) (da_cons (d_var (i := 1) rfl (by first | exact Or.inl rfl | exact Or.inr (Or.inl rfl) | exact Or.inr (Or.inr rfl))) (da_cons d_int da_nil)))) da_nil)))))) da_nil))))) (s_cons (s_if (PW.pt (dw_or (dt_cmp (od_ne Z.hK Z.ok hr.units) (d_fo w_all_least (hr.mono (by decide)) (passes_call (takes_of rfl rfl rfl rfl) (fun _ _ _ _ h => h)) (da_cons (d_var (i := 5) rfl (by first | exact Or.inl rfl | exact Or.inr (Or.inl rfl) | exact Or.inr (Or.inr rfl))) da_nil)) (d_tup (da_cons (d_tup (da_cons d_int (da_cons d_int da_nil))) (da_cons (d_tup (da_cons d_int (da_cons d_int da_nil))) da_nil)))) (dw_or (dt_cmp (od_ne Z.hK Z.ok hr.units) (d_fo w_always (hr.mono (by decide)) (passes_call (takes_of rfl rfl rfl rfl) (fun _ _ _ _ h => h)) (da_cons (d_var (i := 5) rfl (by first | exact Or.inl rfl | exact Or.inr (Or.inl rfl) | exact Or.inr (Or.inr rfl))) da_nil)) (d_tup (da_cons d_int da_nil))) (dw_one (dt_cmp (od_ne Z.hK Z.ok hr.units) (d_fo w_sometimes (hr.mono (by decide)) (passes_call (takes_of rfl rfl rfl rfl) (fun _ _ _ _ h => h)) (da_cons (d_var (i := 5) rfl (by first | exact Or.inl rfl | exact Or.inr (Or.inl rfl) | exact Or.inr (Or.inr rfl))) da_nil)) (d_tup (da_cons d_int (da_cons d_int (da_cons d_int da_nil))))))))) (s_cons (s_ret d_bl) s_nil) s_nil) (s_cons (s_set (i := 6) nd rfl (by first | exact Or.inl rfl | exact Or.inr rfl) (d_mk3 w_init (hr.mono (by decide)) (passes_call (takes_of rfl rfl rfl rfl) (fun _ _ _ _ h => h)) (da_cons (d_tup (da_cons (d_var (i := 0) rfl (by first | exact Or.inl rfl | exact Or.inr (Or.inl rfl) | exact Or.inr (Or.inr rfl))) (da_cons (d_var (i := 1) rfl (by first | exact Or.inl rfl | exact Or.inr (Or.inl rfl) | exact Or.inr (Or.inr rfl))) (da_cons (d_var (i := 2) rfl (by first | exact Or.inl rfl | exact Or.inr (Or.inl rfl) | exact Or.inr (Or.inr rfl))) da_nil)))) (da_cons (d_var (i := 0) rfl (by first | exact Or.inl rfl | exact Or.inr (Or.inl rfl) | exact Or.inr (Or.inr rfl))) (da_cons (d_ofO (do_lst (da_cons (d_tup (da_cons (d_var (i := 0) rfl (by first | exact Or.inl rfl | exact Or.inr (Or.inl rfl) | exact Or.inr (Or.inr rfl))) (da_cons (d_var (i := 1) rfl (by first | exact Or.inl rfl | exact Or.inr (Or.inl rfl) | exact Or.inr (Or.inr rfl))) (da_cons d_int da_nil)))) (da_cons (d_tup (da_cons (d_var (i := 0) rfl (by first | exact Or.inl rfl | exact Or.inr (Or.inl rfl) | exact Or.inr (Or.inr rfl))) (da_cons (d_var (i := 2) rfl (by first | exact Or.inl rfl | exact Or.inr (Or.inl rfl) | exact Or.inr (Or.inr rfl))) (da_cons d_int da_nil)))) (da_cons (d_tup (da_cons (d_var (i := 1) rfl (by first | exact Or.inl rfl | exact Or.inr (Or.inl rfl) | exact Or.inr (Or.inr rfl))) (da_cons (d_var (i := 2) rfl (by first | exact Or.inl rfl | exact Or.inr (Or.inl rfl) | exact Or.inr (Or.inr rfl))) (da_cons d_int da_nil)))) (da_cons (d_tup (da_cons (d_var (i := 2) rfl (by first | exact Or.inl rfl | exact Or.inr (Or.inl rfl) | exact Or.inr (Or.inr rfl))) (da_cons (d_var (i := 1) rfl (by first | exact Or.inl rfl | exact Or.inr (Or.inl rfl) | exact Or.inr (Or.inr rfl))) (da_cons d_int da_nil)))) da_nil)))))) da_nil))))) (s_cons (s_if (PW.pt (dw_or (dt_cmp (od_ne Z.hK Z.ok hr.units) (d_fo w_all_least (hr.mono (by decide)) (passes_call (takes_of rfl rfl rfl rfl) (fun _ _ _ _ h => h)) (da_cons (d_var (i := 6) rfl (by first | exact Or.inl rfl | exact Or.inr (Or.inl rfl) | exact Or.inr (Or.inr rfl))) da_nil)) (d_tup (da_cons (d_tup (da_cons d_int da_nil)) (da_cons (d_tup (da_cons d_int da_nil)) da_nil)))) (dw_or (dt_cmp (od_ne Z.hK Z.ok hr.units) (d_fo w_left_from (hr.mono (by decide)) (passes_call (takes_of rfl rfl rfl rfl) (fun _ _ _ _ h => h)) (da_cons (d_var (i := 6) rfl (by first | exact Or.inl rfl | exact Or.inr (Or.inl rfl) | exact Or.inr (Or.inr rfl))) (da_cons d_int da_nil))) d_int) (dw_one (dt_cmp (od_ne Z.hK Z.ok hr.units) (d_fo w_left_from (hr.mono (by decide)) (passes_call (takes_of rfl rfl rfl rfl) (fun _ _ _ _ h => h)) (da_cons (d_var (i := 6) rfl (by first | exact Or.inl rfl | exact Or.inr (Or.inl rfl) | exact Or.inr (Or.inr rfl))) (da_cons d_int da_nil))) d_int))))) (s_cons (s_ret d_bl) s_nil) s_nil) (s_cons (s_set (i := 7) nd rfl (by first | exact Or.inl rfl | exact Or.inr rfl) (d_mk3 w_init (hr.mono (by decide)) (passes_call (takes_of rfl rfl rfl rfl) (fun _ _ _ _ h => h)) (da_cons (d_tup (da_cons (d_var (i := 0) rfl (by first | exact Or.inl rfl | exact Or.inr (Or.inl rfl) | exact Or.inr (Or.inr rfl))) (da_cons (d_var (i := 1) rfl (by first | exact Or.inl rfl | exact Or.inr (Or.inl rfl) | exact Or.inr (Or.inr rfl))) da_nil))) (da_cons (d_var (i := 0) rfl (by first | exact Or.inl rfl | exact Or.inr (Or.inl rfl) | exact Or.inr (Or.inr rfl))) (da_cons (d_ofO (do_lst (da_cons (d_tup (da_cons (d_var (i := 0) rfl (by first | exact Or.inl rfl | exact Or.inr (Or.inl rfl) | exact Or.inr (Or.inr rfl))) (da_cons (d_var (i := 1) rfl (by first | exact Or.inl rfl | exact Or.inr (Or.inl rfl) | exact Or.inr (Or.inr rfl))) (da_cons d_int da_nil)))) (da_cons (d_tup (da_cons (d_var (i := 1) rfl (by first | exact Or.inl rfl | exact Or.inr (Or.inl rfl) | exact Or.inr (Or.inr rfl))) (da_cons (d_var (i := 0) rfl (by first | exact Or.inl rfl | exact Or.inr (Or.inl rfl) | exact Or.inr (Or.inr rfl))) (da_cons d_int da_nil)))) (da_cons (d_tup (da_cons (d_var (i := 0) rfl (by first | exact Or.inl rfl | exact Or.inr (Or.inl rfl) | exact Or.inr (Or.inr rfl))) (da_cons (d_var (i := 1) rfl (by first | exact Or.inl rfl | exact Or.inr (Or.inl rfl) | exact Or.inr (Or.inr rfl))) (da_cons d_int da_nil)))) da_nil))))) da_nil))))) (s_cons (s_if (PW.pt (dw_or (dt_cmp (od_ne Z.hK Z.ok hr.units) (d_fo w_all_least (hr.mono (by decide)) (passes_call (takes_of rfl rfl rfl rfl) (fun _ _ _ _ h => h)) (da_cons (d_var (i := 7) rfl (by first | exact Or.inl rfl | exact Or.inr (Or.inl rfl) | exact Or.inr (Or.inr rfl))) da_nil)) (d_tup (da_cons (d_tup (da_cons d_int (da_cons d_int da_nil))) (da_cons (d_tup (da_cons d_int da_nil)) da_nil)))) (dw_or (dt_cmp (od_ne Z.hK Z.ok hr.units) (d_fo w_always (hr.mono (by decide)) (passes_call (takes_of rfl rfl rfl rfl) (fun _ _ _ _ h => h)) (da_cons (d_var (i := 7) rfl (by first | exact Or.inl rfl | exact Or.inr (Or.inl rfl) | exact Or.inr (Or.inr rfl))) da_nil)) (d_tup da_nil)) (dw_one (dt_cmp (od_ne Z.hK Z.ok hr.units) (d_fo w_sometimes (hr.mono (by decide)) (passes_call (takes_of rfl rfl rfl rfl) (fun _ _ _ _ h => h)) (da_cons (d_var (i := 7) rfl (by first | exact Or.inl rfl | exact Or.inr (Or.inl rfl) | exact Or.inr (Or.inr rfl))) da_nil)) (d_tup (da_cons d_int (da_cons d_int (da_cons d_int da_nil))))))))) (s_cons (s_ret d_bl) s_nil) s_nil) (s_cons (s_set (i := 8) nd rfl (by first | exact Or.inl rfl | exact Or.inr rfl) (d_mk3 w_init (hr.mono (by decide)) (passes_call (takes_of rfl rfl rfl rfl) (fun _ _ _ _ h => h)) (da_cons (d_tup (da_cons (d_var (i := 0) rfl (by first | exact Or.inl rfl | exact Or.inr (Or.inl rfl) | exact Or.inr (Or.inr rfl))) (da_cons (d_var (i := 1) rfl (by first | exact Or.inl rfl | exact Or.inr (Or.inl rfl) | exact Or.inr (Or.inr rfl))) da_nil))) (da_cons (d_var (i := 0) rfl (by first | exact Or.inl rfl | exact Or.inr (Or.inl rfl) | exact Or.inr (Or.inr rfl))) (da_cons (d_ofO (do_lst (da_cons (d_tup (da_cons (d_var (i := 0) rfl (by first | exact Or.inl rfl | exact Or.inr (Or.inl rfl) | exact Or.inr (Or.inr rfl))) (da_cons (d_var (i := 1) rfl (by first | exact Or.inl rfl | exact Or.inr (Or.inl rfl) | exact Or.inr (Or.inr rfl))) (da_cons d_int da_nil)))) da_nil))) da_nil))))) (s_cons (s_if (PW.pt (dw_or (dt_cmp (od_ne Z.hK Z.ok hr.units) (d_fo w_all_least (hr.mono (by decide)) (passes_call (takes_of rfl rfl rfl rfl) (fun _ _ _ _ h => h)) (da_cons (d_var (i := 8) rfl (by first | exact Or.inl rfl | exact Or.inr (Or.inl rfl) | exact Or.inr (Or.inr rfl))) da_nil)) (d_tup (da_cons (d_tup da_nil) da_nil))) (dw_or (dt_cmp (od_ne Z.hK Z.ok hr.units) (d_ofO (do_lst (da_cons (d_fo w_always (hr.mono (by decide)) (passes_call (takes_of rfl rfl rfl rfl) (fun _ _ _ _ h => h)) (da_cons (d_var (i := 8) rfl (by first | exact Or.inl rfl | exact Or.inr (Or.inl rfl) | exact Or.inr (Or.inr rfl))) da_nil)) (da_cons (d_fo w_sometimes (hr.mono (by decide)) (passes_call (takes_of rfl rfl rfl rfl) (fun _ _ _ _ h => h)) (da_cons (d_var (i := 8) rfl (by first | exact Or.inl rfl | exact Or.inr (Or.inl rfl) | exact Or.inr (Or.inr rfl))) da_nil)) da_nil)))) (d_ofO (do_lst (da_cons (d_tup da_nil) (da_cons (d_tup da_nil) da_nil))))) (dw_one (dt_cmp (od_ne Z.hK Z.ok hr.units) (d_fo w_left_from (hr.mono (by decide)) (passes_call (takes_of rfl rfl rfl rfl) (fun _ _ _ _ h => h)) (da_cons (d_var (i := 8) rfl (by first | exact Or.inl rfl | exact Or.inr (Or.inl rfl) | exact Or.inr (Or.inr rfl))) (da_cons d_int da_nil))) d_int))))) (s_cons (s_ret d_bl) s_nil) s_nil) (s_cons (s_set (i := 9) nd rfl (by first | exact Or.inl rfl | exact Or.inr rfl) (d_mk3 w_init (hr.mono (by decide)) (passes_call (takes_of rfl rfl rfl rfl) (fun _ _ _ _ h => h)) (da_cons (d_tup (da_cons (d_var (i := 0) rfl (by first | exact Or.inl rfl | exact Or.inr (Or.inl rfl) | exact Or.inr (Or.inr rfl))) da_nil)) (da_cons (d_var (i := 0) rfl (by first | exact Or.inl rfl | exact Or.inr (Or.inl rfl) | exact Or.inr (Or.inr rfl))) (da_cons (d_ofO (do_lc (sl := [10]) rfl nd (di_range1 (by rfl) Z.range (da_cons d_int da_nil)) (blkOk_by (own := [("k", 10)]) (N := n_law_hand_right) (sc := defScope s_law_hand_right) (by decide +kernel)) (fun _ _ _ _ _ => (dg_name (i := 10) nd rfl (by first | exact Or.inl rfl | exact Or.inr rfl))) (fun _ _ _ _ _ => dts_nil) (fun _ _ _ _ _ => (d_tup (da_cons (d_var (i := 0) rfl (by first | exact Or.inl rfl | exact Or.inr (Or.inl rfl) | exact Or.inr (Or.inr rfl))) (da_cons (d_var (i := 0) rfl (by first | exact Or.inl rfl | exact Or.inr (Or.inl rfl) | exact Or.inr (Or.inr rfl))) (da_cons (d_ix Z.hK (d_ofO (do_lst (da_cons d_int (da_cons d_int da_nil)))) (d_callT cd_int1 (by rfl) Z.int (by decide +kernel) (da_cons (d_cmp (od_gt Z.ok) (d_var (i := 10) rfl (by first | exact Or.inl rfl | exact Or.inr (Or.inl rfl) | exact Or.inr (Or.inr rfl))) d_int) da_nil))) da_nil))))) (by decide))) da_nil))))) (s_cons (s_if (PW.pt (dw_or (dt_cmp (od_ne Z.hK Z.ok hr.units) (d_fo w_all_least (hr.mono (by decide)) (passes_call (takes_of rfl rfl rfl rfl) (fun _ _ _ _ h => h)) (da_cons (d_var (i := 9) rfl (by first | exact Or.inl rfl | exact Or.inr (Or.inl rfl) | exact Or.inr (Or.inr rfl))) da_nil)) (d_tup (da_cons (d_tupRg (by rfl) Z.tuple (by rfl) Z.range d_int) da_nil))) (dw_one (dt_cmp (od_ne Z.hK Z.ok hr.units) (d_fo w_always (hr.mono (by decide)) (passes_call (takes_of rfl rfl rfl rfl) (fun _ _ _ _ h => h)) (da_cons (d_var (i := 9) rfl (by first | exact Or.inl rfl | exact Or.inr (Or.inl rfl) | exact Or.inr (Or.inr rfl))) da_nil)) (d_tupRg (by rfl) Z.tuple (by rfl) Z.range d_int))))) (s_cons (s_ret d_bl) s_nil) s_nil) (s_cons (s_set (i := 11) nd rfl (by first | exact Or.inl rfl | exact Or.inr rfl) (d_mk3 w_init (hr.mono (by decide)) (passes_call (takes_of rfl rfl rfl rfl) (fun _ _ _ _ h => h)) (da_cons (d_tup (da_cons (d_var (i := 0) rfl (by first | exact Or.inl rfl | exact Or.inr (Or.inl rfl) | exact Or.inr (Or.inr rfl))) da_nil)) (da_cons (d_var (i := 0) rfl (by first | exact Or.inl rfl | exact Or.inr (Or.inl rfl) | exact Or.inr (Or.inr rfl))) (da_cons (d_ofO (do_lst (da_cons (d_tup (da_cons (d_var (i := 0) rfl (by first | exact Or.inl rfl | exact Or.inr (Or.inl rfl) | exact Or.inr (Or.inr rfl))) (da_cons (d_var (i := 0) rfl (by first | exact Or.inl rfl | exact Or.inr (Or.inl rfl) | exact Or.inr (Or.inr rfl))) (da_cons d_int da_nil)))) (da_cons (d_tup (da_cons (d_var (i := 0) rfl (by first | exact Or.inl rfl | exact Or.inr (Or.inl rfl) | exact Or.inr (Or.inr rfl))) (da_cons (d_var (i := 0) rfl (by first | exact Or.inl rfl | exact Or.inr (Or.inl rfl) | exact Or.inr (Or.inr rfl))) (da_cons d_int da_nil)))) da_nil)))) da_nil))))) (s_cons (s_if (PW.pt (dw_or (dt_cmp (od_ne Z.hK Z.ok hr.units) (d_fo w_all_least (hr.mono (by decide)) (passes_call (takes_of rfl rfl rfl rfl) (fun _ _ _ _ h => h)) (da_cons (d_var (i := 11) rfl (by first | exact Or.inl rfl | exact Or.inr (Or.inl rfl) | exact Or.inr (Or.inr rfl))) da_nil)) (d_tup (da_cons (d_tup (da_cons d_int (da_cons d_int da_nil))) da_nil))) (dw_or (dt_cmp (od_ne Z.hK Z.ok hr.units) (d_fo w_always (hr.mono (by decide)) (passes_call (takes_of rfl rfl rfl rfl) (fun _ _ _ _ h => h)) (da_cons (d_var (i := 11) rfl (by first | exact Or.inl rfl | exact Or.inr (Or.inl rfl) | exact Or.inr (Or.inr rfl))) da_nil)) (d_tup (da_cons d_int (da_cons d_int da_nil)))) (dw_one (dt_cmp od_notN (d_fo w_left_from (hr.mono (by decide)) (passes_call (takes_of rfl rfl rfl rfl) (fun _ _ _ _ h => h)) (da_cons (d_var (i := 11) rfl (by first | exact Or.inl rfl | exact Or.inr (Or.inl rfl) | exact Or.inr (Or.inr rfl))) (da_cons d_int da_nil))) d_non))))) (s_cons (s_ret d_bl) s_nil) s_nil) (s_cons (s_ret (d_and (d_cmp (od_eq Z.hK Z.ok hr.units) (d_fo w_steps_of (hr.mono (by decide)) (passes_call (takes_of rfl rfl rfl rfl) (fun _ _ _ _ h => h)) (da_cons (d_var (i := 11) rfl (by first | exact Or.inl rfl | exact Or.inr (Or.inl rfl) | exact Or.inr (Or.inr rfl))) (da_cons d_int da_nil))) (d_tupRg (by rfl) Z.tuple (by rfl) Z.range d_int)) (d_one (d_cmp (od_eq Z.hK Z.ok hr.units) (d_fo w_steps_of (hr.mono (by decide)) (passes_call (takes_of rfl rfl rfl rfl) (fun _ _ _ _ h => h)) (da_cons (d_var (i := 8) rfl (by first | exact Or.inl rfl | exact Or.inr (Or.inl rfl) | exact Or.inr (Or.inr rfl))) (da_cons d_int da_nil))) (d_op (od_mulA Z.hK) (d_tup (da_cons d_int da_nil)) d_int))))) s_nil)))))))))))))))))⟩
noncomputable def φ_law_hand_right : List D → Oc D := run 12 rd_law_hand_right.1
end Pl

set_option maxRecDepth 100000
set_option maxHeartbeats 4000000
namespace Pl
open PySem PySem.Spec PyProof.Rows L2 Fx
open PySem.W (Frag)
theorem v_hand : φ_law_hand_right abc = .ok (.bl true) := isT_of (by decide +kernel)
end Pl

set_option maxRecDepth 100000
set_option maxHeartbeats 4000000
namespace Pl
open PySem PySem.Spec PyProof.Rows L2 Fx
open PySem.W (Frag)
open LamX
abbrev s_law_ring_right : Stmt := top 48
abbrev n_law_ring_right : List Str := ["a", "b", "price", "code", "k"]
theorem sc_law_ring_right : FnScope n_law_ring_right ["a", "b", "price"] (defScope s_law_ring_right) := ⟨rfl, rfl, rfl, by decide +kernel, rfl, by decide +kernel, by decide +kernel⟩
noncomputable def rd_law_ring_right : { s : SE → SR // ∀ {P : Program} {w : World} {K : Frag} {mg : Str → Option Value} {base : Heap} {M : MC} {f : Addr} {fd : FuncData} (Z : Wd P w K mg base M) (w_steps_of : DO P w K mg base M 6 "steps_of" 2 φ_steps_of) (w_left_from : DO P w K mg base M 6 "left_from" 2 φ_left_from) (w_sometimes : DO P w K mg base M 6 "sometimes" 1 φ_sometimes) (w_always : DO P w K mg base M 6 "always" 1 φ_always) (w_all_least : DO P w K mg base M 6 "all_least" 1 φ_all_least) (w_init : WI P w K mg base M 6 φ_Code_init) (F : Fun K "_law_ring_right" "_law_ring_right" s_law_ring_right f fd), FnOk P w K mg base (L2.CX P w) 8 f fd ["a", "b", "price"] (spD M 3 (run 5 s)) } := ⟨_, fun {P w K mg base M f fd} Z w_steps_of w_left_from w_sometimes w_always w_all_least w_init F => have nd := sc_law_ring_right.nd
  defO F sc_law_ring_right rfl fun cdv A outer s0 H E hr => 
    (s_cons (s_set (i := 3) nd rfl (by first | exact Or.inl rfl | exact Or.inr rfl) (d_mk3 w_init (hr.mono (by decide)) (passes_call (takes_of rfl rfl rfl rfl) (fun _ _ _ _ h => h)) (da_cons (d_tup (da_cons (d_var (i := 0) rfl (by first | exact Or.inl rfl | exact Or.inr (Or.inl rfl) | exact Or.inr (Or.inr rfl))) (da_cons (d_var (i := 1) rfl (by first | exact Or.inl rfl | exact Or.inr (Or.inl rfl) | exact Or.inr (Or.inr rfl))) da_nil))) (da_cons (d_var (i := 0) rfl (by first | exact Or.inl rfl | exact Or.inr (Or.inl rfl) | exact Or.inr (Or.inr rfl))) (da_cons (d_ofO (do_lst (da_cons (d_tup (da_cons (d_var (i := 0) rfl (by first | exact Or.inl rfl | exact Or.inr (Or.inl rfl) | exact Or.inr (Or.inr rfl))) (da_cons (d_var (i := 1) rfl (by first | exact Or.inl rfl | exact Or.inr (Or.inl rfl) | exact Or.inr (Or.inr rfl))) (da_cons (d_var (i := 2) rfl (by first | exact Or.inl rfl | exact Or.inr (Or.inl rfl) | exact Or.inr (Or.inr rfl))) da_nil)))) (da_cons (d_tup (da_cons (d_var (i := 1) rfl (by first | exact Or.inl rfl | exact Or.inr (Or.inl rfl) | exact Or.inr (Or.inr rfl))) (da_cons (d_var (i := 0) rfl (by first | exact Or.inl rfl | exact Or.inr (Or.inl rfl) | exact Or.inr (Or.inr rfl))) (da_cons (d_var (i := 2) rfl (by first | exact Or.inl rfl | exact Or.inr (Or.inl rfl) | exact Or.inr (Or.inr rfl))) da_nil)))) (da_cons (d_tup (da_cons (d_var (i := 1) rfl (by first | exact Or.inl rfl | exact Or.inr (Or.inl rfl) | exact Or.inr (Or.inr rfl))) (da_cons (d_var (i := 0) rfl (by first | exact Or.inl rfl | exact Or.inr (Or.inl rfl) | exact Or.inr (Or.inr rfl))) (da_cons d_int da_nil)))) da_nil))))) da_nil))))) (s_cons (s_if (dt_cmp (od_ne Z.hK Z.ok hr.units) (d_ofO (do_lst (da_cons (d_fo w_all_least (hr.mono (by decide)) (passes_call (takes_of rfl rfl rfl rfl) (fun _ _ _ _ h => h)) (da_cons (d_var (i := 3) rfl (by first | exact Or.inl rfl | exact Or.inr (Or.inl rfl) | exact Or.inr (Or.inr rfl))) da_nil)) (da_cons (d_fo w_always (hr.mono (by decide)) (passes_call (takes_of rfl rfl rfl rfl) (fun _ _ _ _ h => h)) (da_cons (d_var (i := 3) rfl (by first | exact Or.inl rfl | exact Or.inr (Or.inl rfl) | exact Or.inr (Or.inr rfl))) da_nil)) (da_cons (d_fo w_sometimes (hr.mono (by decide)) (passes_call (takes_of rfl rfl rfl rfl) (fun _ _ _ _ h => h)) (da_cons (d_var (i := 3) rfl (by first | exact Or.inl rfl | exact Or.inr (Or.inl rfl) | exact Or.inr (Or.inr rfl))) da_nil)) da_nil))))) (d_ofO (do_lst (da_cons (d_tup (da_cons (d_tup (da_cons d_int da_nil)) da_nil)) (da_cons (d_tup (da_cons d_int da_nil)) (da_cons (d_tup (da_cons d_int da_nil)) da_nil)))))) (s_cons (s_ret d_bl) s_nil) s_nil) (s_cons (s_if (PW.pt (dw_or (dt_cmp (od_ne Z.hK Z.ok hr.units) (d_fo w_left_from (hr.mono (by decide)) (passes_call (takes_of rfl rfl rfl rfl) (fun _ _ _ _ h => h)) (da_cons (d_var (i := 3) rfl (by first | exact Or.inl rfl | exact Or.inr (Or.inl rfl) | exact Or.inr (Or.inr rfl))) (da_cons d_int da_nil))) (d_op (od_plus Z.hK) (d_var (i := 2) rfl (by first | exact Or.inl rfl | exact Or.inr (Or.inl rfl) | exact Or.inr (Or.inr rfl))) d_int)) (dw_one (dt_cmp (od_ne Z.hK Z.ok hr.units) (d_fo w_left_from (hr.mono (by decide)) (passes_call (takes_of rfl rfl rfl rfl) (fun _ _ _ _ h => h)) (da_cons (d_var (i := 3) rfl (by first | exact Or.inl rfl | exact Or.inr (Or.inl rfl) | exact Or.inr (Or.inr rfl))) (da_cons d_int da_nil))) (d_var (i := 2) rfl (by first | exact Or.inl rfl | exact Or.inr (Or.inl rfl) | exact Or.inr (Or.inr rfl))))))) (s_cons (s_ret d_bl) s_nil) s_nil) (s_cons (s_ret (d_cmp (od_eq Z.hK Z.ok hr.units) (d_fo w_steps_of (hr.mono (by decide)) (passes_call (takes_of rfl rfl rfl rfl) (fun _ _ _ _ h => h)) (da_cons (d_var (i := 3) rfl (by first | exact Or.inl rfl | exact Or.inr (Or.inl rfl) | exact Or.inr (Or.inr rfl))) (da_cons d_int da_nil))) (d_callT (cd_tuple Z.hK) (by rfl) Z.tuple (by decide +kernel) (da_cons (d_ofO (do_lc (sl := [4]) rfl nd (di_range1 (by rfl) Z.range (da_cons d_int da_nil)) (blkOk_by (own := [("k", 4)]) (N := n_law_ring_right) (sc := defScope s_law_ring_right) (by decide +kernel)) (fun _ _ _ _ _ => (dg_name (i := 4) nd rfl (by first | exact Or.inl rfl | exact Or.inr rfl))) (fun _ _ _ _ _ => dts_nil) (fun _ _ _ _ _ => (d_call (cd_min Z.hK rfl) (by rfl) Z.min (by decide +kernel) (da_cons (d_var (i := 4) rfl (by first | exact Or.inl rfl | exact Or.inr (Or.inl rfl) | exact Or.inr (Or.inr rfl))) (da_cons (d_op (od_plus Z.hK) (d_var (i := 2) rfl (by first | exact Or.inl rfl | exact Or.inr (Or.inl rfl) | exact Or.inr (Or.inr rfl))) d_int) da_nil)))) (by decide))) da_nil)))) s_nil))))⟩
noncomputable def φ_law_ring_right : List D → Oc D := run 5 rd_law_ring_right.1
end Pl

set_option maxRecDepth 100000
set_option maxHeartbeats 4000000
namespace Pl
open PySem PySem.Spec PyProof.Rows L2 Fx
open PySem.W (Frag)
theorem v_ring15 : ((List.range 15).all fun i => isT (φ_law_ring_right [.str (.atm 0), .str (.atm 1), .int (i : Nat)])) = true := by decide +kernel
theorem v_ring (i : Nat) (h : i < 15) : φ_law_ring_right [.str (.atm 0), .str (.atm 1), .int (i : Nat)] = .ok (.bl true) := isT_of (List.all_eq_true.mp v_ring15 i (List.mem_range.mpr h))
end Pl

set_option maxRecDepth 100000
set_option maxHeartbeats 4000000
namespace Pl
open PySem PySem.Spec PyProof.Rows L2 Fx
open PySem.W (Frag)
open LamX
abbrev s_law_refused_right : Stmt := top 50
abbrev n_law_refused_right : List Str := ["a", "b", "code", "odd", "heard"]
theorem sc_law_refused_right : FnScope n_law_refused_right ["a", "b"] (defScope s_law_refused_right) := ⟨rfl, rfl, rfl, by decide +kernel, rfl, by decide +kernel, by decide +kernel⟩
noncomputable def rd_law_refused_right : { s : SE → SR // ∀ {P : Program} {w : World} {K : Frag} {mg : Str → Option Value} {base : Heap} {M : MC} {f : Addr} {fd : FuncData} {c P0 : Addr} (Z : Wd P w K mg base M) (W : WHd P w K mg base M) (TL : LTab base mg M.T "_law_refused_right" c P0) (w_steps_of : DO P w K mg base M 6 "steps_of" 2 φ_steps_of) (w_left_from : DO P w K mg base M 6 "left_from" 2 φ_left_from) (w_init : WI P w K mg base M 6 φ_Code_init) (F : FunL K "_law_refused_right" "_law_refused_right" s_law_refused_right f fd c), FnG P w K mg base (L2.CX P w) 10 f fd ["a", "b"] (spD M 2 (run 5 s)) } := ⟨_, fun {P w K mg base M f fd c P0} Z W TL w_steps_of w_left_from w_init F => have nd := sc_law_refused_right.nd
  defGL F sc_law_refused_right rfl fun A outer s0 H E hgd hr => have hrl : Room (7 + 2) _ := hr.mono (by decide);
    (s_cons (s_set (i := 2) nd rfl (by first | exact Or.inl rfl | exact Or.inr rfl) (d_mk3 w_init (hr.mono (by decide)) (passes_call (takes_of rfl rfl rfl rfl) (fun _ _ _ _ h => h)) (da_cons (d_tup (da_cons (d_var (i := 0) rfl (by first | exact Or.inl rfl | exact Or.inr (Or.inl rfl) | exact Or.inr (Or.inr rfl))) (da_cons (d_var (i := 1) rfl (by first | exact Or.inl rfl | exact Or.inr (Or.inl rfl) | exact Or.inr (Or.inr rfl))) da_nil))) (da_cons (d_var (i := 0) rfl (by first | exact Or.inl rfl | exact Or.inr (Or.inl rfl) | exact Or.inr (Or.inr rfl))) (da_cons (d_ofO (do_lst (da_cons (d_tup (da_cons (d_var (i := 0) rfl (by first | exact Or.inl rfl | exact Or.inr (Or.inl rfl) | exact Or.inr (Or.inr rfl))) (da_cons (d_var (i := 1) rfl (by first | exact Or.inl rfl | exact Or.inr (Or.inl rfl) | exact Or.inr (Or.inr rfl))) (da_cons d_int da_nil)))) (da_cons (d_tup (da_cons (d_var (i := 1) rfl (by first | exact Or.inl rfl | exact Or.inr (Or.inl rfl) | exact Or.inr (Or.inr rfl))) (da_cons (d_var (i := 0) rfl (by first | exact Or.inl rfl | exact Or.inr (Or.inl rfl) | exact Or.inr (Or.inr rfl))) (da_cons d_int da_nil)))) da_nil)))) da_nil))))) (s_cons (s_for (passes_of rfl) rfl (di_seq Z.hK (d_tup (da_cons d_non (da_cons (d_neg d_int) (da_cons d_int (da_cons d_bl (da_cons d_str (da_cons (d_tup (da_cons d_int da_nil)) (da_cons (d_ofO (do_lst da_nil)) (da_cons d_dnew (da_cons (d_op od_pow d_int d_int) da_nil))))))))))) (dg_name (i := 3) nd rfl (by first | exact Or.inl rfl | exact Or.inr rfl)) (s_cons (s_set (i := 4) nd rfl (by first | exact Or.inl rfl | exact Or.inr rfl) (d_ofO (do_lst (da_cons (d_heard W Z hrl TL rfl rfl (lamS_by (show lamSB (defScope s_law_refused_right) _ = true by decide +kernel)) (by rfl) (fun _ _ _ _ _ => rfl) (by rfl) (fun A outer s0 H E f c0 hr => (d_fo w_left_from (hr.mono (by decide)) (passes_call (takes_of rfl rfl rfl rfl) (fun _ _ _ _ h => h)) (da_cons (d_var (i := 2) rfl (by first | exact Or.inl rfl | exact Or.inr (Or.inl rfl) | exact Or.inr (Or.inr rfl))) (da_cons (d_var (i := 3) rfl (by first | exact Or.inl rfl | exact Or.inr (Or.inl rfl) | exact Or.inr (Or.inr rfl))) da_nil))))) (da_cons (d_heardD (px := "x") W Z hrl TL rfl rfl (lamD_by (show lamDB n_law_refused_right (defScope s_law_refused_right) _ "x" = true by decide +kernel)) rfl rfl (fun _ _ _ _ _ _ _ _ => ⟨_, rfl, rfl⟩) (by rfl) (fun A outer s0 H E f c0 hr => (d_fo w_steps_of (hr.mono (by decide)) (passes_call (takes_of rfl rfl rfl rfl) (fun _ _ _ _ h => h)) (da_cons (d_var (i := 2) rfl (by first | exact Or.inl rfl | exact Or.inr (Or.inl rfl) | exact Or.inr (Or.inr rfl))) (da_cons (d_var (i := 3) rfl (by first | exact Or.inl rfl | exact Or.inr (Or.inl rfl) | exact Or.inr (Or.inr rfl))) da_nil))))) da_nil))))) (s_cons (s_if (dt_reprNe Z.hK hgd hr.units Z.repr (d_var (i := 4) rfl (by first | exact Or.inl rfl | exact Or.inr (Or.inl rfl) | exact Or.inr (Or.inr rfl))) (d_op (od_mulA Z.hK) (d_ofO (do_lst (da_cons (d_tup (da_cons d_str (da_cons (d_var (i := 3) rfl (by first | exact Or.inl rfl | exact Or.inr (Or.inl rfl) | exact Or.inr (Or.inr rfl))) da_nil))) da_nil))) d_int)) (s_cons (s_ret d_bl) s_nil) s_nil) s_nil))) (s_cons (s_ret d_bl) s_nil)))⟩
noncomputable def φ_law_refused_right : List D → Oc D := run 5 rd_law_refused_right.1
end Pl

set_option maxRecDepth 100000
set_option maxHeartbeats 4000000
namespace Pl
open PySem PySem.Spec PyProof.Rows L2 Fx
open PySem.W (Frag)
theorem v_refused : φ_law_refused_right [.str (.atm 0), .str (.atm 1)] = .ok (.bl true) := isT_of (by decide +kernel)
end Pl

set_option maxRecDepth 100000
set_option maxHeartbeats 4000000
namespace Pl
open PySem PySem.Spec PyProof.Rows L2 Fx LamX
open PySem.W (Frag)
abbrev P_hand : List D → Prop := fun ds => ds = [.str (.atm 0), .str (.atm 1), .str (.atm 2)]
abbrev P_refused : List D → Prop := fun ds => ds = [.str (.atm 0), .str (.atm 1)]
abbrev P_ring : List D → Prop := fun ds => ∃ i : Nat, i < 15 ∧ ds = [.str (.atm 0), .str (.atm 1), .int (i : Nat)]
theorem p_hand : ∀ ds, P_hand ds → ds.length = 3 ∧ φ_law_hand_right ds = .ok (.bl true) := fun ds h => by
  subst h
  exact ⟨rfl, v_hand⟩
theorem p_refused : ∀ ds, P_refused ds → ds.length = 2 ∧ φ_law_refused_right ds = .ok (.bl true) := fun ds h => by
  subst h
  exact ⟨rfl, v_refused⟩
theorem p_ring : ∀ ds, P_ring ds → ds.length = 3 ∧ φ_law_ring_right ds = .ok (.bl true) := fun ds h => by
  obtain ⟨i, hi, rfl⟩ := h
  exact ⟨rfl, v_ring i hi⟩
section
variable {P : Program} {w : World} {K : Frag} {mg : Str → Option Value} {base : Heap} {C : Addr} {T : List (Addr × Str)}
/-- all that the law calls -/
structure LawT (P : Program) (w : World) (K : Frag) (mg : Str → Option Value) (base : Heap) (C : Addr) (T : List (Addr × Str)) : Prop where
  begun : ∃ (f : Addr) (fd : FuncData), FnOk P w K mg base CX0 1 f fd ["script"] (spBegun K) ∧ PySem.W.keepIn K (.ref f) = true ∧ Binds K fd ["script"] [] ∧ mg "_law_begun" = some (.ref f)
  next : ∃ (f : Addr) (fd : FuncData), FnOk P w K mg base CX0 1 f fd ["m", "many"] spNext ∧ PySem.W.keepIn K (.ref f) = true ∧ Binds K fd ["m", "many"] [] ∧ mg "_law_next" = some (.ref f)
  names : ∃ (f : Addr) (fd : FuncData), FnOk P w K mg base CX0 2 f fd ["m", "many"] spNames ∧ PySem.W.keepIn K (.ref f) = true ∧ Binds K fd ["m", "many"] [] ∧ mg "_law_names" = some (.ref f)
  ring : ∃ (f : Addr) (fd : FuncData), FnOk P w K mg base (L2.CX P w) 10 f fd ["a", "b", "price"] (spDs K C mg T P_ring) ∧ PySem.W.keepIn K (.ref f) = true ∧ Binds K fd ["a", "b", "price"] [] ∧ mg "_law_ring_right" = some (.ref f)
  hand : ∃ (f : Addr) (fd : FuncData), FnOk P w K mg base (L2.CX P w) 10 f fd ["a", "b", "c"] (spDs K C mg T P_hand) ∧ PySem.W.keepIn K (.ref f) = true ∧ Binds K fd ["a", "b", "c"] [] ∧ mg "_law_hand_right" = some (.ref f)
  refused : ∃ (f : Addr) (fd : FuncData), FnG P w K mg base (L2.CX P w) 10 f fd ["a", "b"] (spDs K C mg T P_refused) ∧ PySem.W.keepIn K (.ref f) = true ∧ Binds K fd ["a", "b"] [] ∧ mg "_law_refused_right" = some (.ref f)
def spLawT (K : Frag) (T : List (Addr × Str)) : Sp := fun vs H Q _ => ∃ (a : Addr) (ns : List Int), vs = [.ref a] ∧ SqL K H a (ns.map V.int) ∧ ns.length ≤ 63 ∧ Tabs T H ∧ ∀ H', Q (.bl true) H'
abbrev sLaw : Stmt := top 51
abbrev nLaw : List Str := ["script", "m", "turn", "a", "b", "c"]
theorem scLaw : FnScope nLaw ["script"] (defScope sLaw) := ⟨rfl, rfl, rfl, by decide +kernel, rfl, by decide +kernel, by decide +kernel⟩
theorem ok_law {f : Addr} {fd : FuncData} (F : Fun K "law" "law" sLaw f fd) (Br : mg "range" = none) (Bm : mg "min" = none) (Bl : mg "len" = none) (Bs : mg "sorted" = none) (L : LawT P w K mg base C T) : FnG P w K mg base CX0 11 f fd ["script"] (spLawT K T) := by
  refine funOkG F scLaw (fun vs H Q E h => ?_) (fun cdv A outer s H vs Q E hg hr h => ?_)
  · obtain ⟨a, ns, rfl, _⟩ := h
    rfl
  · obtain ⟨a, ns, rfl, hS, hlen, tb, k⟩ := h
    obtain ⟨f1, fd1, N1, k1, b1, m1⟩ := L.begun
    obtain ⟨f2, fd2, N2, k2, b2, m2⟩ := L.names
    obtain ⟨f3, fd3, N3, k3, b3, m3⟩ := L.ring
    obtain ⟨f4, fd4, N4, k4, b4, m4⟩ := L.hand
    obtain ⟨f5, fd5, N5, k5, b5, m5⟩ := L.refused
    obtain ⟨f6, fd6, N6, k6, b6, m6⟩ := L.next
    have r1 := hr.mono (show 1 ≤ 10 by decide)
    have r2 := hr.mono (show 2 ≤ 10 by decide)
    have nd := scLaw.nd
    refine ⟨_, pss_cons (ps_set (i := 1) nd rfl (Or.inl rfl) (pe_call N1 r1 rfl m1 k1 b1 .nil pass0 (pa_cons (pv 0) pa_nil)))
      (pss_cons (ps_for PassesOwn.never rfl (pi_range1 rfl Br (pa_cons (pe_op op_add pe_int (pe_callB (call_min2 rfl) (by rfl) Bm (by decide +kernel) (pa_cons (pe_callB call_len_seq (by rfl) Bl PySem.boot_len (pa_cons (pv 0) pa_nil)) (pa_cons pe_int pa_nil)))) pa_nil)) (pg_name (i := 2) nd rfl (Or.inl rfl))
        (C8.pss_cut (ps_asg (pe_callB cr_sortedS (by rfl) Bs (by decide +kernel) (pa_cons (pe_call N2 r2 rfl m2 k2 b2 .nil pass0 (pa_cons (pv 1) (pa_cons pe_int pa_nil))) pa_nil)) (pg_lst rfl (pgs_cons (pg_name (i := 3) nd rfl (Or.inl rfl)) (pgs_cons (pg_name (i := 4) nd rfl (Or.inl rfl)) (pgs_cons (pg_name (i := 5) nd rfl (Or.inl rfl)) pgs_nil)))))
        (pss_cons (ps_if (PW.pt (pw_or (pt_not (pt_val (pe_call N3 hr rfl m3 k3 b3 .nil passN (pa_cons (pv 3) (pa_cons (pv 4) (pa_cons (pe_call N6 r1 rfl m6 k6 b6 .nil pass0 (pa_cons (pv 1) (pa_cons pe_int pa_nil))) pa_nil)))))) (pw_or1 (pt_not (pt_val (pe_call N4 hr rfl m4 k4 b4 .nil passN (pa_cons (pv 3) (pa_cons (pv 4) (pa_cons (pv 5) pa_nil))))))))) (pss_one (ps_ret pe_bl)) pss_nil)
        (pss_one (ps_if (pt_not (pt_val (pe_callG N5 hg hr rfl m5 k5 b5 .nil passN (pa_cons (pv 3) (pa_cons (pv 4) pa_nil))))) (pss_one (ps_ret pe_bl)) pss_nil)))))
      (pss_one (ps_ret pe_bl))), ?_⟩
    refine ⟨_, rfl, a, ns, rfl, hS, hlen, fun m H0 M0 => ?_⟩
    have tb0 : Tabs T H0 := fun p hp => (tb p hp).ext M0.sub
    have lenN : ((ns.map V.int).length : Int) = ns.length := by rw [List.length_map]
    refine ⟨_, rfl, a, _, rfl, .inl (M0.sub.seq hS), _, _, rfl, _, _, rfl, rfl, _, rfl, by split <;> omega, by split <;> omega, for_range (lo := 0) (n := _) (fun i σ H' => (∃ x2 x3 x4 x5 : Option V, σ = [some (.ref a), some (.ref m), x2, x3, x4, x5]) ∧ MS H' (fun _ => none) m (i * 13) ∧ Tabs T H') ⟨⟨_, _, _, _, rfl⟩, M0.less none_same, tb0⟩ ?_ ?_⟩
    · rintro i σ1 H1 hi ⟨⟨x2, x3, x4, x5, rfl⟩, M1, tb1⟩
      have hi14 : i < 14 := by
        revert hi
        split <;> omega
      refine ⟨fun σ' H' => ∃ x y z : Str, σ' = [some (.ref a), some (.ref m), some (.int (0 + (i : Int))), some (.str x), some (.str y), some (.str z)] ∧ IsW x ∧ IsW y ∧ IsW z ∧ x.cps.toList < y.cps.toList ∧ y.cps.toList < z.cps.toList ∧ MS H' (fun _ => none) m (i * 13 + 12) ∧ Tabs T H', ?_, ?_⟩
      · obtain ⟨G1, M1', up⟩ := mswhole M1
        have tbG : Tabs T G1 := fun p hp => tabS_up (tb1 p hp) up
        refine ⟨_, rfl, G1, m, _, 3, rfl, M1', by omega, by decide, by decide, fun ws p H2 wl wn wi gp M2 => ?_⟩
        have tb2 : Tabs T H2 := fun q hq => ((tbG q hq).ext (sameNew (Same.refl G1) gp)).ext M2.sub
        refine ⟨p, ws, rfl, SqL.of (M2.sub p _ upd_same), by omega, fun ys p2 hperm hs hp2 => ?_⟩
        obtain ⟨x, y, z, rfl⟩ : ∃ x y z, ys = [x, y, z] := by
          have e := hperm.length_eq
          rw [wl] at e
          match ys, e with
          | [x, y, z], _ => exact ⟨x, y, z, rfl⟩
        have asc := asc_of_sorted hs (hperm.nodup_iff.mpr wn)
        obtain ⟨a1, a2⟩ := Bool.and_eq_true_iff.mp (show (ltS x y && ascS [y, z]) = true from asc)
        obtain ⟨a3, _⟩ := Bool.and_eq_true_iff.mp (show (ltS y z && ascS [z]) = true from a2)
        have iw : ∀ u, u ∈ [x, y, z] → IsW u := fun u hu => wi u (hperm.mem_iff.mp hu)
        refine ⟨p2, _, rfl, SqL.of upd_same, rfl, _, _, rfl, _, _, rfl, _, _, rfl, rfl, ?_⟩
        refine ⟨x, y, z, rfl, iw x (by simp), iw y (by simp), iw z (by simp), of_decide_eq_true a1, of_decide_eq_true a3, (M2.less none_same).keep (sameNew (Same.refl _) hp2), fun q hq => (tb2 q hq).ext (sameNew (Same.refl _) hp2)⟩
      · rintro σ2 H2 ⟨x, y, z, rfl, hx, hy, hz, h1, h2, M2, tb2⟩
        have gd := good3 hx hy hz h1 h2
        have t0 : R (mcW K C mg T [x, y, z]) (fun _ => none) (.str x) (.str (.atm 0)) := R.atm (M := mcW K C mg T [x, y, z]) (n := 0) (by show 0 < 3; decide) (strOk_of hx)
        have t1 : R (mcW K C mg T [x, y, z]) (fun _ => none) (.str y) (.str (.atm 1)) := R.atm (M := mcW K C mg T [x, y, z]) (n := 1) (by show 1 < 3; decide) (strOk_of hy)
        have t2 : R (mcW K C mg T [x, y, z]) (fun _ => none) (.str z) (.str (.atm 2)) := R.atm (M := mcW K C mg T [x, y, z]) (n := 2) (by show 2 < 3; decide) (strOk_of hz)
        obtain ⟨G2, M2', up2⟩ := mswhole M2
        have tbG2 : Tabs T G2 := fun p hp => tabS_up (tb2 p hp) up2
        refine ⟨_, rfl, _, rfl, _, rfl, G2, m, _, 15, rfl, M2', by omega, by decide, by decide, fun r H3 r0 r15 M3 => ?_⟩
        have tb3 : Tabs T H3 := fun q hq => (tbG2 q hq).ext M3.sub
        have M3 := M3.less none_same
        obtain ⟨j, rfl⟩ : ∃ j : Nat, r = (j : Nat) := ⟨r.toNat, by omega⟩
        refine ⟨_, _, gd, ⟨j, by omega, rfl⟩, .cons t0 (.cons t1 (.cons (.int _) .nil)), tb3, fun H4 e4 tb4 => ⟨true, rfl, ?_⟩⟩
        refine ⟨_, rfl, _, rfl, _, rfl, _, _, gd, rfl, .cons t0 (.cons t1 (.cons t2 .nil)), tb4, fun H5 e5 tb5 => ⟨true, rfl, ?_⟩⟩
        refine iteF ?_
        refine ⟨_, rfl, _, rfl, _, _, gd, rfl, .cons t0 (.cons t1 .nil), tb5, fun H6 e6 tb6 => ⟨true, rfl, ?_⟩⟩
        exact iteF ⟨⟨_, _, _, _, rfl⟩, (msextN (msextN (msextN M3 e4) e5) e6).mono (by omega), tb6⟩
    · rintro σ' H1 ⟨⟨x2, x3, x4, x5, rfl⟩, M1, tb1⟩
      exact k H1
end
end Pl

set_option maxRecDepth 100000
set_option maxHeartbeats 4000000
namespace Pl
open PySem PySem.Spec PyProof.Rows L2 Fx LamX
open PySem.W (Frag)
theorem init_binds {K : Frag} {T : Addr} {cT v0 : Value} {dT : Option Addr} {nT : Nat} {sT : Array (Option Value)} {kV doc pm cdv ct : Value} {an : Option Addr} (lT : K.lookup T = some ⟨cT, dT, .seq #[v0] nT, sT⟩) :
    Binds K (PySem.W.fnOf "__init__" "Code.__init__" (defArgs s_Code_init) (defBody s_Code_init) (defScope s_Code_init) (.ref T) kV doc pm an cdv ct) ["self", "places", "door", "jumps"] [] := fun s us X hlen => by
  rw [List.append_nil] at hlen ⊢
  match us, hlen with
  | [a, b, c, d], _ =>
    obtain ⟨k, e1, e2⟩ : ∃ k, bindArgs (PySem.W.fnOf "__init__" "Code.__init__" (defArgs s_Code_init) (defBody s_Code_init) (defScope s_Code_init) (.ref T) kV doc pm an cdv ct) ⟨[a, b, c, d], []⟩ = seqItems? (.ref T) >>= k ∧ k (some #[v0]) = pure ((["self", "places", "door", "jumps"] : List Str).zip [a, b, c, d]) := ⟨_, rfl, rfl⟩
    refine BindsTo.of_looks fun M => ?_
    rw [e1]
    exact looks_items X lT rfl (.of_pure e2)
theorem init_binds3 {K : Frag} {T : Addr} {cT v0 : Value} {dT : Option Addr} {nT : Nat} {sT : Array (Option Value)} {kV doc pm cdv ct : Value} {an : Option Addr} (lT : K.lookup T = some ⟨cT, dT, .seq #[v0] nT, sT⟩) :
    Binds K (PySem.W.fnOf "__init__" "Code.__init__" (defArgs s_Code_init) (defBody s_Code_init) (defScope s_Code_init) (.ref T) kV doc pm an cdv ct) ["self", "places", "door", "jumps"] [v0] := fun s us X hlen => by
  have h3 : us.length = 3 := by simpa using hlen
  match us, h3 with
  | [a, b, c], _ =>
    obtain ⟨k, e1, e2⟩ : ∃ k, bindArgs (PySem.W.fnOf "__init__" "Code.__init__" (defArgs s_Code_init) (defBody s_Code_init) (defScope s_Code_init) (.ref T) kV doc pm an cdv ct) ⟨[a, b, c], []⟩ = seqItems? (.ref T) >>= k ∧ k (some #[v0]) = pure ((["self", "places", "door", "jumps"] : List Str).zip [a, b, c, v0]) := ⟨_, rfl, rfl⟩
    refine BindsTo.of_looks fun M => ?_
    rw [e1]
    exact looks_items X lT rfl (.of_pure e2)
theorem five {p : Str → Prop} (h0 : p "SeveralDoors") (h1 : p "NoCut") (h2 : p "BadLot") (h3 : p "BadRun") (h4 : p "BadNumber") : ∀ c ∈ xcs, p c := fun c hc => by
  simp only [List.mem_cons, List.not_mem_nil, or_false] at hc
  rcases hc with rfl | rfl | rfl | rfl | rfl <;> assumption
theorem all_mk {l : PySem.W.OpenLaw} {w : World} {K : Frag} {h : Heap} {mg : Str → Option Value} (X : K.In h) (G : h.Ns mainGlobals mg) {fa : Addr} (hfa : mg "law" = some (.ref fa))
    {CBadCode CBadLot CBadRun CBadNumber CSeveralDoors CNoCut gBadCode gBadLot gBadRun gBadNumber gSeveralDoors gNoCut LE C fI fL T E c1 P1 : Addr} {tLONGEST_WORD tMOST_PLACES tMOST_JUMPS tGREATEST_PRICE tNEVER : Tok} {cT : Value} {dT dE : Option Addr} {nT nE : Nat} {sT sE : Array (Option Value)}
    (xBadCode : CF l.prog K mg "ValueError" "ValueError.__new__" "ValueError.__init__" [.type "ValueError", .type "Exception", .type "BaseException", .type "object"] CBadCode gBadCode "place" "BadCode")
    (tBadCode : PySem.W.typeIn K (.ref CBadCode) = some (.type "type"))
    (xBadLot : CF l.prog K mg "ValueError" "ValueError.__new__" "ValueError.__init__" [.type "ValueError", .type "Exception", .type "BaseException", .type "object"] CBadLot gBadLot "value" "BadLot")
    (tBadLot : PySem.W.typeIn K (.ref CBadLot) = some (.type "type"))
    (xBadRun : CF l.prog K mg "ValueError" "ValueError.__new__" "ValueError.__init__" [.type "ValueError", .type "Exception", .type "BaseException", .type "object"] CBadRun gBadRun "value" "BadRun")
    (tBadRun : PySem.W.typeIn K (.ref CBadRun) = some (.type "type"))
    (xBadNumber : CF l.prog K mg "ValueError" "ValueError.__new__" "ValueError.__init__" [.type "ValueError", .type "Exception", .type "BaseException", .type "object"] CBadNumber gBadNumber "value" "BadNumber")
    (tBadNumber : PySem.W.typeIn K (.ref CBadNumber) = some (.type "type"))
    (xSeveralDoors : CF l.prog K mg "LookupError" "LookupError.__new__" "LookupError.__init__" [.type "LookupError", .type "Exception", .type "BaseException", .type "object"] CSeveralDoors gSeveralDoors "paper" "SeveralDoors")
    (tSeveralDoors : PySem.W.typeIn K (.ref CSeveralDoors) = some (.type "type"))
    (xNoCut : CF l.prog K mg "LookupError" "LookupError.__new__" "LookupError.__init__" [.type "LookupError", .type "Exception", .type "BaseException", .type "object"] CNoCut gNoCut "loop" "NoCut")
    (tNoCut : PySem.W.typeIn K (.ref CNoCut) = some (.type "type"))
    (k00 : PySem.W.kitOne K (.ref CSeveralDoors) (.ref CSeveralDoors) = some true)
    (k01 : PySem.W.kitOne K (.ref CSeveralDoors) (.ref CNoCut) = some false)
    (k02 : PySem.W.kitOne K (.ref CSeveralDoors) (.ref CBadLot) = some false)
    (k03 : PySem.W.kitOne K (.ref CSeveralDoors) (.ref CBadRun) = some false)
    (k04 : PySem.W.kitOne K (.ref CSeveralDoors) (.ref CBadNumber) = some false)
    (k10 : PySem.W.kitOne K (.ref CNoCut) (.ref CSeveralDoors) = some false)
    (k11 : PySem.W.kitOne K (.ref CNoCut) (.ref CNoCut) = some true)
    (k12 : PySem.W.kitOne K (.ref CNoCut) (.ref CBadLot) = some false)
    (k13 : PySem.W.kitOne K (.ref CNoCut) (.ref CBadRun) = some false)
    (k14 : PySem.W.kitOne K (.ref CNoCut) (.ref CBadNumber) = some false)
    (k20 : PySem.W.kitOne K (.ref CBadLot) (.ref CSeveralDoors) = some false)
    (k21 : PySem.W.kitOne K (.ref CBadLot) (.ref CNoCut) = some false)
    (k22 : PySem.W.kitOne K (.ref CBadLot) (.ref CBadLot) = some true)
    (k23 : PySem.W.kitOne K (.ref CBadLot) (.ref CBadRun) = some false)
    (k24 : PySem.W.kitOne K (.ref CBadLot) (.ref CBadNumber) = some false)
    (k30 : PySem.W.kitOne K (.ref CBadRun) (.ref CSeveralDoors) = some false)
    (k31 : PySem.W.kitOne K (.ref CBadRun) (.ref CNoCut) = some false)
    (k32 : PySem.W.kitOne K (.ref CBadRun) (.ref CBadLot) = some false)
    (k33 : PySem.W.kitOne K (.ref CBadRun) (.ref CBadRun) = some true)
    (k34 : PySem.W.kitOne K (.ref CBadRun) (.ref CBadNumber) = some false)
    (k40 : PySem.W.kitOne K (.ref CBadNumber) (.ref CSeveralDoors) = some false)
    (k41 : PySem.W.kitOne K (.ref CBadNumber) (.ref CNoCut) = some false)
    (k42 : PySem.W.kitOne K (.ref CBadNumber) (.ref CBadLot) = some false)
    (k43 : PySem.W.kitOne K (.ref CBadNumber) (.ref CBadRun) = some false)
    (k44 : PySem.W.kitOne K (.ref CBadNumber) (.ref CBadNumber) = some true)
    (aLE : PySem.W.nsIn K mainGlobals "LoopError" = some (some (.ref LE)))
    (m0 : PySem.W.exmAny K (.ref CSeveralDoors) [.ref LE, .ref CSeveralDoors, .ref CNoCut] = some true)
    (m1 : PySem.W.exmAny K (.ref CNoCut) [.ref LE, .ref CSeveralDoors, .ref CNoCut] = some true)
    (m2 : PySem.W.exmAny K (.ref CBadLot) [.ref LE, .ref CSeveralDoors, .ref CNoCut] = some true)
    (m3 : PySem.W.exmAny K (.ref CBadRun) [.ref LE, .ref CSeveralDoors, .ref CNoCut] = some true)
    (m4 : PySem.W.exmAny K (.ref CBadNumber) [.ref LE, .ref CSeveralDoors, .ref CNoCut] = some true)
    (aK : PySem.W.nsIn K mainGlobals "Code" = some (some (.ref C)))
    (Cpg : PySem.W.plainGet K C Str.empty = true)
    (Chd : PySem.W.hasDictIn K C = true)
    (Cpo : PySem.W.plainOver K C = true)
    (Csa : PySem.W.findIn K (.ref C) "__setattr__" = some (some (.builtin "object.__setattr__")))
    (Cmk : PySem.W.makesIn K C = true)
    (Cin : PySem.W.findIn K (.ref C) "__init__" = some (some (.ref fI)))
    (Cif : PySem.W.isFn K (.ref fI) = true)
    (Ckp : PySem.W.keepIn K (.ref C) = true)
    (Cnp : PySem.W.findIn K (.ref C) "places" = some none)
    (Cnd : PySem.W.findIn K (.ref C) "door" = some none)
    (Cnj : PySem.W.findIn K (.ref C) "jumps" = some none)
    (Cln : PySem.W.findIn K (.ref C) "__len__" = some (some (.ref fL)))
    (Clf : PySem.W.isFn K (.ref fL) = true)
    {ocI : Value} {ddI anI : Option Addr} {slI : Array (Option Value)} {kVI dcI pmI cdI ctI : Value} {ocL : Value} {ddL anL : Option Addr} {slL : Array (Option Value)} {kVL dcL pmL cdL ctL : Value}
    (lI : K.lookup fI = some ⟨ocI, ddI, .func (PySem.W.fnOf "__init__" "Code.__init__" (defArgs s_Code_init) (defBody s_Code_init) (defScope s_Code_init) (.ref T) kVI dcI pmI anI cdI ctI), slI⟩)
    (cI : PySem.W.codeIn K cdI "Code.__init__" = true)
    (kI : PySem.W.keepIn K (.ref fI) = true)
    (lT : K.lookup T = some ⟨cT, dT, .seq #[.ref E] nT, sT⟩)
    (lE : K.lookup E = some ⟨.type "tuple", dE, .seq #[] nE, sE⟩)
    (lL : K.lookup fL = some ⟨ocL, ddL, .func (PySem.W.fnOf "__len__" "Code.__len__" (defArgs s_Code_len) (defBody s_Code_len) (defScope s_Code_len) .none kVL dcL pmL anL cdL ctL), slL⟩)
    (cL : PySem.W.codeIn K cdL "Code.__len__" = true)
    (kL : PySem.W.keepIn K (.ref fL) = true)
    (iLONGEST_WORD : PySem.W.nsIn K mainGlobals "LONGEST_WORD" = some (some (.int 8 tLONGEST_WORD)))
    (iMOST_PLACES : PySem.W.nsIn K mainGlobals "MOST_PLACES" = some (some (.int 7 tMOST_PLACES)))
    (iMOST_JUMPS : PySem.W.nsIn K mainGlobals "MOST_JUMPS" = some (some (.int 12 tMOST_JUMPS)))
    (iGREATEST_PRICE : PySem.W.nsIn K mainGlobals "GREATEST_PRICE" = some (some (.int 20 tGREATEST_PRICE)))
    (iNEVER : PySem.W.nsIn K mainGlobals "NEVER" = some (some (.int 1000 tNEVER)))
    {f0 f1 f2 f3 f4 f5 f6 f7 f8 f9 f10 f11 f12 f13 f14 f15 f16 f17 f18 f19 f20 f21 f22 f23 f24 f25 f26 f27 f28 f29 f30 : Addr} {od0 an0 od1 an1 od2 an2 od3 an3 od4 an4 od5 an5 od6 an6 od7 an7 od8 an8 od9 an9 od10 an10 od11 an11 od12 an12 od13 an13 od14 an14 od15 an15 od16 an16 od17 an17 od18 an18 od19 an19 od20 an20 od21 an21 od22 an22 od23 an23 od24 an24 od25 an25 od26 an26 od27 an27 od28 an28 od29 an29 od30 an30 : Option Addr} {sl0 sl1 sl2 sl3 sl4 sl5 sl6 sl7 sl8 sl9 sl10 sl11 sl12 sl13 sl14 sl15 sl16 sl17 sl18 sl19 sl20 sl21 sl22 sl23 sl24 sl25 sl26 sl27 sl28 sl29 sl30 : Array (Option Value)} {oc0 kV0 dc0 pm0 ct0 cd0 oc1 kV1 dc1 pm1 ct1 cd1 oc2 kV2 dc2 pm2 ct2 cd2 oc3 kV3 dc3 pm3 ct3 cd3 oc4 kV4 dc4 pm4 ct4 cd4 oc5 kV5 dc5 pm5 ct5 cd5 oc6 kV6 dc6 pm6 ct6 cd6 oc7 kV7 dc7 pm7 ct7 cd7 oc8 kV8 dc8 pm8 ct8 cd8 oc9 kV9 dc9 pm9 ct9 cd9 oc10 kV10 dc10 pm10 ct10 cd10 oc11 kV11 dc11 pm11 ct11 cd11 oc12 kV12 dc12 pm12 ct12 cd12 oc13 kV13 dc13 pm13 ct13 cd13 oc14 kV14 dc14 pm14 ct14 cd14 oc15 kV15 dc15 pm15 ct15 cd15 oc16 kV16 dc16 pm16 ct16 cd16 oc17 kV17 dc17 pm17 ct17 cd17 oc18 kV18 dc18 pm18 ct18 cd18 oc19 kV19 dc19 pm19 ct19 cd19 oc20 kV20 dc20 pm20 ct20 cd20 oc21 kV21 dc21 pm21 ct21 cd21 oc22 kV22 dc22 pm22 ct22 cd22 oc23 kV23 dc23 pm23 ct23 cd23 oc24 kV24 dc24 pm24 ct24 cd24 oc25 kV25 dc25 pm25 ct25 cd25 oc26 kV26 dc26 pm26 ct26 cd26 oc27 kV27 dc27 pm27 ct27 cd27 oc28 kV28 dc28 pm28 ct28 cd28 oc29 kV29 dc29 pm29 ct29 cd29 oc30 kV30 dc30 pm30 ct30 : Value}
    (a0 : PySem.W.nsIn K mainGlobals "_law_begun" = some (some (.ref f0)))
    (l0 : K.lookup f0 = some ⟨oc0, od0, .func (PySem.W.fnOf "_law_begun" "_law_begun" (defArgs Fx.sBegun) (defBody Fx.sBegun) (defScope Fx.sBegun) .none kV0 dc0 pm0 an0 cd0 ct0), sl0⟩)
    (c_0 : PySem.W.codeIn K cd0 "_law_begun" = true)
    (kf0 : PySem.W.keepIn K (.ref f0) = true)
    (a1 : PySem.W.nsIn K mainGlobals "_law_next" = some (some (.ref f1)))
    (l1 : K.lookup f1 = some ⟨oc1, od1, .func (PySem.W.fnOf "_law_next" "_law_next" (defArgs Fx.sNext) (defBody Fx.sNext) (defScope Fx.sNext) .none kV1 dc1 pm1 an1 cd1 ct1), sl1⟩)
    (c_1 : PySem.W.codeIn K cd1 "_law_next" = true)
    (kf1 : PySem.W.keepIn K (.ref f1) = true)
    (a2 : PySem.W.nsIn K mainGlobals "_law_names" = some (some (.ref f2)))
    (l2 : K.lookup f2 = some ⟨oc2, od2, .func (PySem.W.fnOf "_law_names" "_law_names" (defArgs Fx.sNames) (defBody Fx.sNames) (defScope Fx.sNames) .none kV2 dc2 pm2 an2 cd2 ct2), sl2⟩)
    (c_2 : PySem.W.codeIn K cd2 "_law_names" = true)
    (kf2 : PySem.W.keepIn K (.ref f2) = true)
    (a3 : PySem.W.nsIn K mainGlobals "_law_heard" = some (some (.ref f3)))
    (l3 : K.lookup f3 = some ⟨oc3, od3, .func (PySem.W.fnOf "_law_heard" "_law_heard" (defArgs s_law_heard) (defBody s_law_heard) (defScope s_law_heard) .none kV3 dc3 pm3 an3 cd3 ct3), sl3⟩)
    (c_3 : PySem.W.codeIn K cd3 "_law_heard" = true)
    (kf3 : PySem.W.keepIn K (.ref f3) = true)
    (a4 : PySem.W.nsIn K mainGlobals "is_word" = some (some (.ref f4)))
    (l4 : K.lookup f4 = some ⟨oc4, od4, .func (PySem.W.fnOf "is_word" "is_word" (defArgs s_is_word) (defBody s_is_word) (defScope s_is_word) .none kV4 dc4 pm4 an4 cd4 ct4), sl4⟩)
    (c_4 : PySem.W.codeIn K cd4 "is_word" = true)
    (kf4 : PySem.W.keepIn K (.ref f4) = true)
    (a5 : PySem.W.nsIn K mainGlobals "_parts_by_place" = some (some (.ref f5)))
    (l5 : K.lookup f5 = some ⟨oc5, od5, .func (PySem.W.fnOf "_parts_by_place" "_parts_by_place" (defArgs s_parts_by_place) (defBody s_parts_by_place) (defScope s_parts_by_place) .none kV5 dc5 pm5 an5 cd5 ct5), sl5⟩)
    (c_5 : PySem.W.codeIn K cd5 "_parts_by_place" = true)
    (kf5 : PySem.W.keepIn K (.ref f5) = true)
    (a6 : PySem.W.nsIn K mainGlobals "law" = some (some (.ref f6)))
    (l6 : K.lookup f6 = some ⟨oc6, od6, .func (PySem.W.fnOf "law" "law" (defArgs sLaw) (defBody sLaw) (defScope sLaw) .none kV6 dc6 pm6 an6 cd6 ct6), sl6⟩)
    (c_6 : PySem.W.codeIn K cd6 "law" = true)
    (kf6 : PySem.W.keepIn K (.ref f6) = true)
    (a7 : PySem.W.nsIn K mainGlobals "numbers_in" = some (some (.ref f7)))
    (l7 : K.lookup f7 = some ⟨oc7, od7, .func (PySem.W.fnOf "numbers_in" "numbers_in" (defArgs s_numbers_in) (defBody s_numbers_in) (defScope s_numbers_in) .none kV7 dc7 pm7 an7 cd7 ct7), sl7⟩)
    (c_7 : PySem.W.codeIn K cd7 "numbers_in" = true)
    (kf7 : PySem.W.keepIn K (.ref f7) = true)
    (a8 : PySem.W.nsIn K mainGlobals "_is_one_within" = some (some (.ref f8)))
    (l8 : K.lookup f8 = some ⟨oc8, od8, .func (PySem.W.fnOf "_is_one_within" "_is_one_within" (defArgs s_is_one_within) (defBody s_is_one_within) (defScope s_is_one_within) .none kV8 dc8 pm8 an8 cd8 ct8), sl8⟩)
    (c_8 : PySem.W.codeIn K cd8 "_is_one_within" = true)
    (kf8 : PySem.W.keepIn K (.ref f8) = true)
    (a9 : PySem.W.nsIn K mainGlobals "is_integer" = some (some (.ref f9)))
    (l9 : K.lookup f9 = some ⟨oc9, od9, .func (PySem.W.fnOf "is_integer" "is_integer" (defArgs s_is_integer) (defBody s_is_integer) (defScope s_is_integer) .none kV9 dc9 pm9 an9 cd9 ct9), sl9⟩)
    (c_9 : PySem.W.codeIn K cd9 "is_integer" = true)
    (kf9 : PySem.W.keepIn K (.ref f9) = true)
    (a10 : PySem.W.nsIn K mainGlobals "is_ascending" = some (some (.ref f10)))
    (l10 : K.lookup f10 = some ⟨oc10, od10, .func (PySem.W.fnOf "is_ascending" "is_ascending" (defArgs s_is_ascending) (defBody s_is_ascending) (defScope s_is_ascending) .none kV10 dc10 pm10 an10 cd10 ct10), sl10⟩)
    (c_10 : PySem.W.codeIn K cd10 "is_ascending" = true)
    (kf10 : PySem.W.keepIn K (.ref f10) = true)
    (a11 : PySem.W.nsIn K mainGlobals "is_place" = some (some (.ref f11)))
    (l11 : K.lookup f11 = some ⟨oc11, od11, .func (PySem.W.fnOf "is_place" "is_place" (defArgs s_is_place) (defBody s_is_place) (defScope s_is_place) .none kV11 dc11 pm11 an11 cd11 ct11), sl11⟩)
    (c_11 : PySem.W.codeIn K cd11 "is_place" = true)
    (kf11 : PySem.W.keepIn K (.ref f11) = true)
    (a12 : PySem.W.nsIn K mainGlobals "places_reached" = some (some (.ref f12)))
    (l12 : K.lookup f12 = some ⟨oc12, od12, .func (PySem.W.fnOf "places_reached" "places_reached" (defArgs s_places_reached) (defBody s_places_reached) (defScope s_places_reached) .none kV12 dc12 pm12 an12 cd12 ct12), sl12⟩)
    (c_12 : PySem.W.codeIn K cd12 "places_reached" = true)
    (kf12 : PySem.W.keepIn K (.ref f12) = true)
    (a13 : PySem.W.nsIn K mainGlobals "_needed" = some (some (.ref f13)))
    (l13 : K.lookup f13 = some ⟨oc13, od13, .func (PySem.W.fnOf "_needed" "_needed" (defArgs s_needed) (defBody s_needed) (defScope s_needed) .none kV13 dc13 pm13 an13 cd13 ct13), sl13⟩)
    (c_13 : PySem.W.codeIn K cd13 "_needed" = true)
    (kf13 : PySem.W.keepIn K (.ref f13) = true)
    (a14 : PySem.W.nsIn K mainGlobals "loops_by_parts" = some (some (.ref f14)))
    (l14 : K.lookup f14 = some ⟨oc14, od14, .func (PySem.W.fnOf "loops_by_parts" "loops_by_parts" (defArgs s_loops_by_parts) (defBody s_loops_by_parts) (defScope s_loops_by_parts) .none kV14 dc14 pm14 an14 cd14 ct14), sl14⟩)
    (c_14 : PySem.W.codeIn K cd14 "loops_by_parts" = true)
    (kf14 : PySem.W.keepIn K (.ref f14) = true)
    (a15 : PySem.W.nsIn K mainGlobals "is_integer_within" = some (some (.ref f15)))
    (l15 : K.lookup f15 = some ⟨oc15, od15, .func (PySem.W.fnOf "is_integer_within" "is_integer_within" (defArgs s_is_integer_within) (defBody s_is_integer_within) (defScope s_is_integer_within) .none kV15 dc15 pm15 an15 cd15 ct15), sl15⟩)
    (c_15 : PySem.W.codeIn K cd15 "is_integer_within" = true)
    (kf15 : PySem.W.keepIn K (.ref f15) = true)
    (a16 : PySem.W.nsIn K mainGlobals "are_places" = some (some (.ref f16)))
    (l16 : K.lookup f16 = some ⟨oc16, od16, .func (PySem.W.fnOf "are_places" "are_places" (defArgs s_are_places) (defBody s_are_places) (defScope s_are_places) .none kV16 dc16 pm16 an16 cd16 ct16), sl16⟩)
    (c_16 : PySem.W.codeIn K cd16 "are_places" = true)
    (kf16 : PySem.W.keepIn K (.ref f16) = true)
    (a17 : PySem.W.nsIn K mainGlobals "narrow_tallies" = some (some (.ref f17)))
    (l17 : K.lookup f17 = some ⟨oc17, od17, .func (PySem.W.fnOf "narrow_tallies" "narrow_tallies" (defArgs s_narrow_tallies) (defBody s_narrow_tallies) (defScope s_narrow_tallies) .none kV17 dc17 pm17 an17 cd17 ct17), sl17⟩)
    (c_17 : PySem.W.codeIn K cd17 "narrow_tallies" = true)
    (kf17 : PySem.W.keepIn K (.ref f17) = true)
    (a18 : PySem.W.nsIn K mainGlobals "is_jump_number" = some (some (.ref f18)))
    (l18 : K.lookup f18 = some ⟨oc18, od18, .func (PySem.W.fnOf "is_jump_number" "is_jump_number" (defArgs s_is_jump_number) (defBody s_is_jump_number) (defScope s_is_jump_number) .none kV18 dc18 pm18 an18 cd18 ct18), sl18⟩)
    (c_18 : PySem.W.codeIn K cd18 "is_jump_number" = true)
    (kf18 : PySem.W.keepIn K (.ref f18) = true)
    (a19 : PySem.W.nsIn K mainGlobals "is_price" = some (some (.ref f19)))
    (l19 : K.lookup f19 = some ⟨oc19, od19, .func (PySem.W.fnOf "is_price" "is_price" (defArgs s_is_price) (defBody s_is_price) (defScope s_is_price) .none kV19 dc19 pm19 an19 cd19 ct19), sl19⟩)
    (c_19 : PySem.W.codeIn K cd19 "is_price" = true)
    (kf19 : PySem.W.keepIn K (.ref f19) = true)
    (a20 : PySem.W.nsIn K mainGlobals "_least_masks" = some (some (.ref f20)))
    (l20 : K.lookup f20 = some ⟨oc20, od20, .func (PySem.W.fnOf "_least_masks" "_least_masks" (defArgs s_least_masks) (defBody s_least_masks) (defScope s_least_masks) .none kV20 dc20 pm20 an20 cd20 ct20), sl20⟩)
    (c_20 : PySem.W.codeIn K cd20 "_least_masks" = true)
    (kf20 : PySem.W.keepIn K (.ref f20) = true)
    (a21 : PySem.W.nsIn K mainGlobals "_least_costs" = some (some (.ref f21)))
    (l21 : K.lookup f21 = some ⟨oc21, od21, .func (PySem.W.fnOf "_least_costs" "_least_costs" (defArgs s_least_costs) (defBody s_least_costs) (defScope s_least_costs) .none kV21 dc21 pm21 an21 cd21 ct21), sl21⟩)
    (c_21 : PySem.W.codeIn K cd21 "_least_costs" = true)
    (kf21 : PySem.W.keepIn K (.ref f21) = true)
    (a22 : PySem.W.nsIn K mainGlobals "_is_jump" = some (some (.ref f22)))
    (l22 : K.lookup f22 = some ⟨oc22, od22, .func (PySem.W.fnOf "_is_jump" "_is_jump" (defArgs s_is_jump) (defBody s_is_jump) (defScope s_is_jump) .none kV22 dc22 pm22 an22 cd22 ct22), sl22⟩)
    (c_22 : PySem.W.codeIn K cd22 "_is_jump" = true)
    (kf22 : PySem.W.keepIn K (.ref f22) = true)
    (a23 : PySem.W.nsIn K mainGlobals "all_least" = some (some (.ref f23)))
    (l23 : K.lookup f23 = some ⟨oc23, od23, .func (PySem.W.fnOf "all_least" "all_least" (defArgs s_all_least) (defBody s_all_least) (defScope s_all_least) .none kV23 dc23 pm23 an23 cd23 ct23), sl23⟩)
    (c_23 : PySem.W.codeIn K cd23 "all_least" = true)
    (kf23 : PySem.W.keepIn K (.ref f23) = true)
    (a24 : PySem.W.nsIn K mainGlobals "always" = some (some (.ref f24)))
    (l24 : K.lookup f24 = some ⟨oc24, od24, .func (PySem.W.fnOf "always" "always" (defArgs s_always) (defBody s_always) (defScope s_always) .none kV24 dc24 pm24 an24 cd24 ct24), sl24⟩)
    (c_24 : PySem.W.codeIn K cd24 "always" = true)
    (kf24 : PySem.W.keepIn K (.ref f24) = true)
    (a25 : PySem.W.nsIn K mainGlobals "sometimes" = some (some (.ref f25)))
    (l25 : K.lookup f25 = some ⟨oc25, od25, .func (PySem.W.fnOf "sometimes" "sometimes" (defArgs s_sometimes) (defBody s_sometimes) (defScope s_sometimes) .none kV25 dc25 pm25 an25 cd25 ct25), sl25⟩)
    (c_25 : PySem.W.codeIn K cd25 "sometimes" = true)
    (kf25 : PySem.W.keepIn K (.ref f25) = true)
    (a26 : PySem.W.nsIn K mainGlobals "left_from" = some (some (.ref f26)))
    (l26 : K.lookup f26 = some ⟨oc26, od26, .func (PySem.W.fnOf "left_from" "left_from" (defArgs s_left_from) (defBody s_left_from) (defScope s_left_from) .none kV26 dc26 pm26 an26 cd26 ct26), sl26⟩)
    (c_26 : PySem.W.codeIn K cd26 "left_from" = true)
    (kf26 : PySem.W.keepIn K (.ref f26) = true)
    (a27 : PySem.W.nsIn K mainGlobals "steps_of" = some (some (.ref f27)))
    (l27 : K.lookup f27 = some ⟨oc27, od27, .func (PySem.W.fnOf "steps_of" "steps_of" (defArgs s_steps_of) (defBody s_steps_of) (defScope s_steps_of) .none kV27 dc27 pm27 an27 cd27 ct27), sl27⟩)
    (c_27 : PySem.W.codeIn K cd27 "steps_of" = true)
    (kf27 : PySem.W.keepIn K (.ref f27) = true)
    (a28 : PySem.W.nsIn K mainGlobals "_law_ring_right" = some (some (.ref f28)))
    (l28 : K.lookup f28 = some ⟨oc28, od28, .func (PySem.W.fnOf "_law_ring_right" "_law_ring_right" (defArgs s_law_ring_right) (defBody s_law_ring_right) (defScope s_law_ring_right) .none kV28 dc28 pm28 an28 cd28 ct28), sl28⟩)
    (c_28 : PySem.W.codeIn K cd28 "_law_ring_right" = true)
    (kf28 : PySem.W.keepIn K (.ref f28) = true)
    (a29 : PySem.W.nsIn K mainGlobals "_law_hand_right" = some (some (.ref f29)))
    (l29 : K.lookup f29 = some ⟨oc29, od29, .func (PySem.W.fnOf "_law_hand_right" "_law_hand_right" (defArgs s_law_hand_right) (defBody s_law_hand_right) (defScope s_law_hand_right) .none kV29 dc29 pm29 an29 cd29 ct29), sl29⟩)
    (c_29 : PySem.W.codeIn K cd29 "_law_hand_right" = true)
    (kf29 : PySem.W.keepIn K (.ref f29) = true)
    (a30 : PySem.W.nsIn K mainGlobals "_law_refused_right" = some (some (.ref f30)))
    (l30 : K.lookup f30 = some ⟨oc30, od30, .func (PySem.W.fnOf "_law_refused_right" "_law_refused_right" (defArgs s_law_refused_right) (defBody s_law_refused_right) (defScope s_law_refused_right) .none kV30 dc30 pm30 an30 (.ref c1) ct30), sl30⟩)
    (c_30 : PySem.W.codeIn K (.ref c1) "_law_refused_right" = true)
    (kf30 : PySem.W.keepIn K (.ref f30) = true)
    (z_isi : PySem.W.nsIn K mainGlobals "isinstance" = some none)
    (z_int : PySem.W.nsIn K mainGlobals "int" = some none)
    (z_bool : PySem.W.nsIn K mainGlobals "bool" = some none)
    (z_str : PySem.W.nsIn K mainGlobals "str" = some none)
    (z_tuple : PySem.W.nsIn K mainGlobals "tuple" = some none)
    (z_list : PySem.W.nsIn K mainGlobals "list" = some none)
    (z_len : PySem.W.nsIn K mainGlobals "len" = some none)
    (z_all : PySem.W.nsIn K mainGlobals "all" = some none)
    (z_any : PySem.W.nsIn K mainGlobals "any" = some none)
    (z_zip : PySem.W.nsIn K mainGlobals "zip" = some none)
    (z_enum : PySem.W.nsIn K mainGlobals "enumerate" = some none)
    (z_range : PySem.W.nsIn K mainGlobals "range" = some none)
    (z_sorted : PySem.W.nsIn K mainGlobals "sorted" = some none)
    (z_set : PySem.W.nsIn K mainGlobals "set" = some none)
    (z_min : PySem.W.nsIn K mainGlobals "min" = some none)
    (z_max : PySem.W.nsIn K mainGlobals "max" = some none)
    (z_sum : PySem.W.nsIn K mainGlobals "sum" = some none)
    (z_repr : PySem.W.nsIn K mainGlobals "repr" = some none)
    (z_dict : PySem.W.nsIn K mainGlobals "dict" = some none)
    {vu1 : Array Value} {du1 : Value} {eu1 : Option Addr} {su1 : Array (Option Value)}
    (uu1 : K.lookup c1 = some ⟨du1, eu1, .fields vu1, su1⟩)
    (vv1 : vu1[11]? = some (.ref P1))
    (n1 : K.lookup P1 = none)
    : LawAtG l w K 11 63 "script" ["_law_refused_right"] mg fa := by
  have e := hfa.symm.trans (PySem.W.mg_of X G a6)
  cases e
  have y1 := tabIn_of a30 l30 rfl uu1 vv1
  have F0 := fun_mk (st := Fx.sBegun) l0 c_0 kf0
  have b0 := F0.binds (ps := ["script"]) fun _ _ _ _ _ _ us hl => match us, hl with | [_], _ => rfl
  have F1 := fun_mk (st := Fx.sNext) l1 c_1 kf1
  have b1 := F1.binds (ps := ["m", "many"]) fun _ _ _ _ _ _ us hl => match us, hl with | [_, _], _ => rfl
  have F2 := fun_mk (st := Fx.sNames) l2 c_2 kf2
  have b2 := F2.binds (ps := ["m", "many"]) fun _ _ _ _ _ _ us hl => match us, hl with | [_, _], _ => rfl
  have F3 := fun_mk (st := s_law_heard) l3 c_3 kf3
  have b3 := F3.binds (ps := ["call"]) fun _ _ _ _ _ _ us hl => match us, hl with | [_], _ => rfl
  have F4 := fun_mk (st := s_is_word) l4 c_4 kf4
  have b4 := F4.binds (ps := ["value"]) fun _ _ _ _ _ _ us hl => match us, hl with | [_], _ => rfl
  have F5 := fun_mk (st := s_parts_by_place) l5 c_5 kf5
  have b5 := F5.binds (ps := ["code"]) fun _ _ _ _ _ _ us hl => match us, hl with | [_], _ => rfl
  have F6 := fun_mk (st := sLaw) l6 c_6 kf6
  have F7 := fun_mk (st := s_numbers_in) l7 c_7 kf7
  have b7 := F7.binds (ps := ["mask"]) fun _ _ _ _ _ _ us hl => match us, hl with | [_], _ => rfl
  have F8 := fun_mk (st := s_is_one_within) l8 c_8 kf8
  have b8 := F8.binds (ps := ["tallies", "whole"]) fun _ _ _ _ _ _ us hl => match us, hl with | [_, _], _ => rfl
  have F9 := fun_mk (st := s_is_integer) l9 c_9 kf9
  have b9 := F9.binds (ps := ["value"]) fun _ _ _ _ _ _ us hl => match us, hl with | [_], _ => rfl
  have F10 := fun_mk (st := s_is_ascending) l10 c_10 kf10
  have b10 := F10.binds (ps := ["items"]) fun _ _ _ _ _ _ us hl => match us, hl with | [_], _ => rfl
  have F11 := fun_mk (st := s_is_place) l11 c_11 kf11
  have b11 := F11.binds (ps := ["places", "value"]) fun _ _ _ _ _ _ us hl => match us, hl with | [_, _], _ => rfl
  have F12 := fun_mk (st := s_places_reached) l12 c_12 kf12
  have b12 := F12.binds (ps := ["door", "jumps"]) fun _ _ _ _ _ _ us hl => match us, hl with | [_, _], _ => rfl
  have F13 := fun_mk (st := s_needed) l13 c_13 kf13
  have b13 := F13.binds (ps := ["tallies", "others"]) fun _ _ _ _ _ _ us hl => match us, hl with | [_, _], _ => rfl
  have F14 := fun_mk (st := s_loops_by_parts) l14 c_14 kf14
  have b14 := F14.binds (ps := ["code"]) fun _ _ _ _ _ _ us hl => match us, hl with | [_], _ => rfl
  have F15 := fun_mk (st := s_is_integer_within) l15 c_15 kf15
  have b15 := F15.binds (ps := ["value", "least", "greatest"]) fun _ _ _ _ _ _ us hl => match us, hl with | [_, _, _], _ => rfl
  have F16 := fun_mk (st := s_are_places) l16 c_16 kf16
  have b16 := F16.binds (ps := ["value"]) fun _ _ _ _ _ _ us hl => match us, hl with | [_], _ => rfl
  have F17 := fun_mk (st := s_narrow_tallies) l17 c_17 kf17
  have b17 := F17.binds (ps := ["groups"]) fun _ _ _ _ _ _ us hl => match us, hl with | [_], _ => rfl
  have F18 := fun_mk (st := s_is_jump_number) l18 c_18 kf18
  have b18 := F18.binds (ps := ["code", "value"]) fun _ _ _ _ _ _ us hl => match us, hl with | [_, _], _ => rfl
  have F19 := fun_mk (st := s_is_price) l19 c_19 kf19
  have b19 := F19.binds (ps := ["value"]) fun _ _ _ _ _ _ us hl => match us, hl with | [_], _ => rfl
  have F20 := fun_mk (st := s_least_masks) l20 c_20 kf20
  have b20 := F20.binds (ps := ["code"]) fun _ _ _ _ _ _ us hl => match us, hl with | [_], _ => rfl
  have F21 := fun_mk (st := s_least_costs) l21 c_21 kf21
  have b21 := F21.binds (ps := ["code", "number"]) fun _ _ _ _ _ _ us hl => match us, hl with | [_, _], _ => rfl
  have F22 := fun_mk (st := s_is_jump) l22 c_22 kf22
  have b22 := F22.binds (ps := ["places", "value"]) fun _ _ _ _ _ _ us hl => match us, hl with | [_, _], _ => rfl
  have F23 := fun_mk (st := s_all_least) l23 c_23 kf23
  have b23 := F23.binds (ps := ["code"]) fun _ _ _ _ _ _ us hl => match us, hl with | [_], _ => rfl
  have F24 := fun_mk (st := s_always) l24 c_24 kf24
  have b24 := F24.binds (ps := ["code"]) fun _ _ _ _ _ _ us hl => match us, hl with | [_], _ => rfl
  have F25 := fun_mk (st := s_sometimes) l25 c_25 kf25
  have b25 := F25.binds (ps := ["code"]) fun _ _ _ _ _ _ us hl => match us, hl with | [_], _ => rfl
  have F26 := fun_mk (st := s_left_from) l26 c_26 kf26
  have b26 := F26.binds (ps := ["code", "number"]) fun _ _ _ _ _ _ us hl => match us, hl with | [_, _], _ => rfl
  have F27 := fun_mk (st := s_steps_of) l27 c_27 kf27
  have b27 := F27.binds (ps := ["code", "number"]) fun _ _ _ _ _ _ us hl => match us, hl with | [_, _], _ => rfl
  have F28 := fun_mk (st := s_law_ring_right) l28 c_28 kf28
  have b28 := F28.binds (ps := ["a", "b", "price"]) fun _ _ _ _ _ _ us hl => match us, hl with | [_, _, _], _ => rfl
  have F29 := fun_mk (st := s_law_hand_right) l29 c_29 kf29
  have b29 := F29.binds (ps := ["a", "b", "c"]) fun _ _ _ _ _ _ us hl => match us, hl with | [_, _, _], _ => rfl
  have F30 := funL_mk (st := s_law_refused_right) l30 c_30 kf30
  have b30 := F30.fun.binds (ps := ["a", "b"]) fun _ _ _ _ _ _ us hl => match us, hl with | [_, _], _ => rfl
  have FI := funW_mk (st := s_Code_init) lI cI kI
  have FL := fun_mk (st := s_Code_len) lL cL kL
  have bL := FL.binds (ps := ["self"]) fun _ _ _ _ _ _ us hl => match us, hl with | [_], _ => rfl
  have bI := init_binds (kV := kVI) (doc := dcI) (pm := pmI) (cdv := cdI) (ct := ctI) (an := anI) lT
  have bI3 := init_binds3 (kV := kVI) (doc := dcI) (pm := pmI) (cdv := cdI) (ct := ctI) (an := anI) lT
  have B : BB mg := ⟨PySem.W.mg_none_of X G z_isi, PySem.W.mg_none_of X G z_int, PySem.W.mg_none_of X G z_bool, PySem.W.mg_none_of X G z_str, PySem.W.mg_none_of X G z_tuple, PySem.W.mg_none_of X G z_list, PySem.W.mg_none_of X G z_len, PySem.W.mg_none_of X G z_all, PySem.W.mg_none_of X G z_any, PySem.W.mg_none_of X G z_zip, PySem.W.mg_none_of X G z_enum, PySem.W.mg_none_of X G z_range, PySem.W.mg_none_of X G z_sorted, PySem.W.mg_none_of X G z_set, PySem.W.mg_none_of X G z_min, PySem.W.mg_none_of X G z_max, PySem.W.mg_none_of X G z_sum, PySem.W.mg_none_of X G z_repr, PySem.W.mg_none_of X G z_dict⟩
  have B0 : Fx.Blt mg := ⟨PySem.W.mg_none_of X G z_len, PySem.W.mg_none_of X G z_int, PySem.W.mg_none_of X G z_list⟩
  have B1 : Fx.BltN mg f1 := ⟨B0, PySem.W.mg_of X G a1, PySem.W.mg_none_of X G z_range⟩
  have qBadCode : BXp l.prog K mg (adrOf mg "BadCode") "BadCode" (flOf "BadCode") := xBadCode.bxp tBadCode (adrOf_eq xBadCode.gl) (by decide +kernel)
  have qBadLot : BXp l.prog K mg (adrOf mg "BadLot") "BadLot" (flOf "BadLot") := xBadLot.bxp tBadLot (adrOf_eq xBadLot.gl) (by decide +kernel)
  have qBadRun : BXp l.prog K mg (adrOf mg "BadRun") "BadRun" (flOf "BadRun") := xBadRun.bxp tBadRun (adrOf_eq xBadRun.gl) (by decide +kernel)
  have qBadNumber : BXp l.prog K mg (adrOf mg "BadNumber") "BadNumber" (flOf "BadNumber") := xBadNumber.bxp tBadNumber (adrOf_eq xBadNumber.gl) (by decide +kernel)
  have qSeveralDoors : BXp l.prog K mg (adrOf mg "SeveralDoors") "SeveralDoors" (flOf "SeveralDoors") := xSeveralDoors.bxp tSeveralDoors (adrOf_eq xSeveralDoors.gl) (by decide +kernel)
  have qNoCut : BXp l.prog K mg (adrOf mg "NoCut") "NoCut" (flOf "NoCut") := xNoCut.bxp tNoCut (adrOf_eq xNoCut.gl) (by decide +kernel)
  have A : ∀ {TT : List (Addr × Str)} {ws : List Str}, XH K mg (mcW K C mg TT ws) xcs := fun {TT ws} => by
    have eSeveralDoors : (mcW K C mg TT ws).xa "SeveralDoors" = CSeveralDoors := adrOf_eq xSeveralDoors.gl
    have eNoCut : (mcW K C mg TT ws).xa "NoCut" = CNoCut := adrOf_eq xNoCut.gl
    have eBadLot : (mcW K C mg TT ws).xa "BadLot" = CBadLot := adrOf_eq xBadLot.gl
    have eBadRun : (mcW K C mg TT ws).xa "BadRun" = CBadRun := adrOf_eq xBadRun.gl
    have eBadNumber : (mcW K C mg TT ws).xa "BadNumber" = CBadNumber := adrOf_eq xBadNumber.gl
    refine ⟨five ?_ ?_ ?_ ?_ ?_, five ?_ ?_ ?_ ?_ ?_, fun _ _ => rfl, five ?_ ?_ ?_ ?_ ?_, five ?_ ?_ ?_ ?_ ?_⟩
    · rw [eSeveralDoors]; exact xSeveralDoors.gl
    · rw [eNoCut]; exact xNoCut.gl
    · rw [eBadLot]; exact xBadLot.gl
    · rw [eBadRun]; exact xBadRun.gl
    · rw [eBadNumber]; exact xBadNumber.gl
    · rw [eSeveralDoors]; exact xSeveralDoors.xi
    · rw [eNoCut]; exact xNoCut.xi
    · rw [eBadLot]; exact xBadLot.xi
    · rw [eBadRun]; exact xBadRun.xi
    · rw [eBadNumber]; exact xBadNumber.xi
    · rw [eSeveralDoors, show flOf "SeveralDoors" = "paper" by decide +kernel]; exact xSeveralDoors.no
    · rw [eNoCut, show flOf "NoCut" = "loop" by decide +kernel]; exact xNoCut.no
    · rw [eBadLot, show flOf "BadLot" = "value" by decide +kernel]; exact xBadLot.no
    · rw [eBadRun, show flOf "BadRun" = "value" by decide +kernel]; exact xBadRun.no
    · rw [eBadNumber, show flOf "BadNumber" = "value" by decide +kernel]; exact xBadNumber.no
    · refine five ?_ ?_ ?_ ?_ ?_
      · rw [eSeveralDoors, show decide (("SeveralDoors" : Str) = "SeveralDoors") = true by decide +kernel]; exact k00
      · rw [eSeveralDoors, eNoCut, show decide (("SeveralDoors" : Str) = "NoCut") = false by decide +kernel]; exact k01
      · rw [eSeveralDoors, eBadLot, show decide (("SeveralDoors" : Str) = "BadLot") = false by decide +kernel]; exact k02
      · rw [eSeveralDoors, eBadRun, show decide (("SeveralDoors" : Str) = "BadRun") = false by decide +kernel]; exact k03
      · rw [eSeveralDoors, eBadNumber, show decide (("SeveralDoors" : Str) = "BadNumber") = false by decide +kernel]; exact k04
    · refine five ?_ ?_ ?_ ?_ ?_
      · rw [eNoCut, eSeveralDoors, show decide (("NoCut" : Str) = "SeveralDoors") = false by decide +kernel]; exact k10
      · rw [eNoCut, show decide (("NoCut" : Str) = "NoCut") = true by decide +kernel]; exact k11
      · rw [eNoCut, eBadLot, show decide (("NoCut" : Str) = "BadLot") = false by decide +kernel]; exact k12
      · rw [eNoCut, eBadRun, show decide (("NoCut" : Str) = "BadRun") = false by decide +kernel]; exact k13
      · rw [eNoCut, eBadNumber, show decide (("NoCut" : Str) = "BadNumber") = false by decide +kernel]; exact k14
    · refine five ?_ ?_ ?_ ?_ ?_
      · rw [eBadLot, eSeveralDoors, show decide (("BadLot" : Str) = "SeveralDoors") = false by decide +kernel]; exact k20
      · rw [eBadLot, eNoCut, show decide (("BadLot" : Str) = "NoCut") = false by decide +kernel]; exact k21
      · rw [eBadLot, show decide (("BadLot" : Str) = "BadLot") = true by decide +kernel]; exact k22
      · rw [eBadLot, eBadRun, show decide (("BadLot" : Str) = "BadRun") = false by decide +kernel]; exact k23
      · rw [eBadLot, eBadNumber, show decide (("BadLot" : Str) = "BadNumber") = false by decide +kernel]; exact k24
    · refine five ?_ ?_ ?_ ?_ ?_
      · rw [eBadRun, eSeveralDoors, show decide (("BadRun" : Str) = "SeveralDoors") = false by decide +kernel]; exact k30
      · rw [eBadRun, eNoCut, show decide (("BadRun" : Str) = "NoCut") = false by decide +kernel]; exact k31
      · rw [eBadRun, eBadLot, show decide (("BadRun" : Str) = "BadLot") = false by decide +kernel]; exact k32
      · rw [eBadRun, show decide (("BadRun" : Str) = "BadRun") = true by decide +kernel]; exact k33
      · rw [eBadRun, eBadNumber, show decide (("BadRun" : Str) = "BadNumber") = false by decide +kernel]; exact k34
    · refine five ?_ ?_ ?_ ?_ ?_
      · rw [eBadNumber, eSeveralDoors, show decide (("BadNumber" : Str) = "SeveralDoors") = false by decide +kernel]; exact k40
      · rw [eBadNumber, eNoCut, show decide (("BadNumber" : Str) = "NoCut") = false by decide +kernel]; exact k41
      · rw [eBadNumber, eBadLot, show decide (("BadNumber" : Str) = "BadLot") = false by decide +kernel]; exact k42
      · rw [eBadNumber, eBadRun, show decide (("BadNumber" : Str) = "BadRun") = false by decide +kernel]; exact k43
      · rw [eBadNumber, show decide (("BadNumber" : Str) = "BadNumber") = true by decide +kernel]; exact k44
  have WH : ∀ {base : Heap} {TT : List (Addr × Str)} {ws : List Str}, WHd l.prog w K mg base (mcW K C mg TT ws) := fun {base TT ws} => by
    have eSeveralDoors : (mcW K C mg TT ws).xa "SeveralDoors" = CSeveralDoors := adrOf_eq xSeveralDoors.gl
    have eNoCut : (mcW K C mg TT ws).xa "NoCut" = CNoCut := adrOf_eq xNoCut.gl
    have eBadLot : (mcW K C mg TT ws).xa "BadLot" = CBadLot := adrOf_eq xBadLot.gl
    have eBadRun : (mcW K C mg TT ws).xa "BadRun" = CBadRun := adrOf_eq xBadRun.gl
    have eBadNumber : (mcW K C mg TT ws).xa "BadNumber" = CBadNumber := adrOf_eq xBadNumber.gl
    refine ⟨A, ⟨LE, PySem.W.mg_of X G aLE, ?_⟩, ⟨_, _, F3, b3, PySem.W.mg_of X G a3⟩⟩
    rw [eSeveralDoors, eNoCut]
    refine five ?_ ?_ ?_ ?_ ?_
    · rw [eSeveralDoors]; exact m0
    · rw [eNoCut]; exact m1
    · rw [eBadLot]; exact m2
    · rw [eBadRun]; exact m3
    · rw [eBadNumber]; exact m4
  refine ⟨_, [(c1, P1)], spLawT K [(P1, ("_law_refused_right" ++ ".<locals>.") ++ "<lambda>")], ?_, ?_, fun s v => .of_eq (fd := PySem.W.fnOf "law" "law" (defArgs sLaw) (defBody sLaw) (defScope sLaw) .none kV6 dc6 pm6 an6 cd6 ct6) rfl, fun H a ns hl hH hS => ⟨a, ns, rfl, hS, hl, tabs0 fun p hp => ?_, fun _ => rfl⟩, fun base _ _ TB => ?_⟩
  · intro p hp
    rcases List.mem_cons.mp hp with rfl | hp
    · exact ⟨_, (List.mem_cons_self ..), y1⟩
    · cases hp
  · intro p hp
    rcases List.mem_cons.mp hp with rfl | hp
    · exact n1
    · cases hp
  · rcases List.mem_cons.mp hp with rfl | hp
    · exact hH (c1, P1) (List.mem_cons_self ..)
    · cases hp
  have tb1 := TB (c1, P1) (List.mem_cons_self ..)
  have Zw : ∀ {TT : List (Addr × Str)} {ws : List Str}, Good ws → Wd l.prog w K mg base (mcW K C mg TT ws) := fun {TT ws} g => ⟨B, rfl, ⟨g.wd, g.asc⟩, ⟨Cpg, Chd, Cpo, Csa⟩, Cnp, Cnd, Cnj, ⟨_, PySem.W.mg_of X G iLONGEST_WORD⟩, ⟨_, PySem.W.mg_of X G iMOST_PLACES⟩, ⟨_, PySem.W.mg_of X G iMOST_JUMPS⟩, ⟨_, PySem.W.mg_of X G iGREATEST_PRICE⟩, ⟨_, PySem.W.mg_of X G iNEVER⟩, qBadCode, qBadLot, qBadRun, qBadNumber, qSeveralDoors, qNoCut⟩
  have D_is_word : ∀ {M : MC}, Wd l.prog w K mg base M → DO l.prog w K mg base M 2 "is_word" 1 φ_is_word := fun {M} Z => ⟨f4, _, _, ok_is_word Z F4, kf4, b4, PySem.W.mg_of X G a4⟩
  have D_parts_by_place : ∀ {M : MC}, Wd l.prog w K mg base M → DO l.prog w K mg base M 2 "_parts_by_place" 1 φ_parts_by_place := fun {M} Z => ⟨f5, _, _, ok_parts_by_place Z F5, kf5, b5, PySem.W.mg_of X G a5⟩
  have D_numbers_in : ∀ {M : MC}, Wd l.prog w K mg base M → DO l.prog w K mg base M 2 "numbers_in" 1 φ_numbers_in := fun {M} Z => ⟨f7, _, _, rd_numbers_in.2 Z F7, kf7, b7, PySem.W.mg_of X G a7⟩
  have D_is_one_within : ∀ {M : MC}, Wd l.prog w K mg base M → DO l.prog w K mg base M 2 "_is_one_within" 2 φ_is_one_within := fun {M} Z => ⟨f8, _, _, rd_is_one_within.2 Z F8, kf8, b8, PySem.W.mg_of X G a8⟩
  have D_is_integer : ∀ {M : MC}, Wd l.prog w K mg base M → DO l.prog w K mg base M 2 "is_integer" 1 φ_is_integer := fun {M} Z => ⟨f9, _, _, rd_is_integer.2 Z F9, kf9, b9, PySem.W.mg_of X G a9⟩
  have W_len : ∀ {M : MC}, M.C = C → Wd l.prog w K mg base M → WL l.prog w K mg base M φ_Code_len := fun {M} e Z => ⟨fL, _, rd_Code_len.2 Z FL, (by rw [e]; exact Cln), Clf, bL⟩
  have D_is_ascending : ∀ {M : MC}, Wd l.prog w K mg base M → DO l.prog w K mg base M 2 "is_ascending" 1 φ_is_ascending := fun {M} Z => ⟨f10, _, _, rd_is_ascending.2 Z F10, kf10, b10, PySem.W.mg_of X G a10⟩
  have D_is_place : ∀ {M : MC}, Wd l.prog w K mg base M → DO l.prog w K mg base M 2 "is_place" 2 φ_is_place := fun {M} Z => ⟨f11, _, _, rd_is_place.2 Z F11, kf11, b11, PySem.W.mg_of X G a11⟩
  have D_places_reached : ∀ {M : MC}, Wd l.prog w K mg base M → DO l.prog w K mg base M 2 "places_reached" 2 φ_places_reached := fun {M} Z => ⟨f12, _, _, rd_places_reached.2 Z F12, kf12, b12, PySem.W.mg_of X G a12⟩
  have D_needed : ∀ {M : MC}, Wd l.prog w K mg base M → DO l.prog w K mg base M 3 "_needed" 2 φ_needed := fun {M} Z => ⟨f13, _, _, rd_needed.2 Z (D_is_one_within Z) F13, kf13, b13, PySem.W.mg_of X G a13⟩
  have D_loops_by_parts : ∀ {M : MC}, Wd l.prog w K mg base M → DO l.prog w K mg base M 3 "loops_by_parts" 1 φ_loops_by_parts := fun {M} Z => ⟨f14, _, _, rd_loops_by_parts.2 Z (D_parts_by_place Z) F14, kf14, b14, PySem.W.mg_of X G a14⟩
  have D_is_integer_within : ∀ {M : MC}, Wd l.prog w K mg base M → DO l.prog w K mg base M 3 "is_integer_within" 3 φ_is_integer_within := fun {M} Z => ⟨f15, _, _, rd_is_integer_within.2 Z (D_is_integer Z) F15, kf15, b15, PySem.W.mg_of X G a15⟩
  have D_are_places : ∀ {M : MC}, Wd l.prog w K mg base M → DO l.prog w K mg base M 3 "are_places" 1 φ_are_places := fun {M} Z => ⟨f16, _, _, rd_are_places.2 Z (D_is_ascending Z) (D_is_word Z) F16, kf16, b16, PySem.W.mg_of X G a16⟩
  have D_narrow_tallies : ∀ {M : MC}, Wd l.prog w K mg base M → DO l.prog w K mg base M 4 "narrow_tallies" 1 φ_narrow_tallies := fun {M} Z => ⟨f17, _, _, rd_narrow_tallies.2 Z (D_needed Z) F17, kf17, b17, PySem.W.mg_of X G a17⟩
  have D_is_jump_number : ∀ {M : MC}, M.C = C → Wd l.prog w K mg base M → DO l.prog w K mg base M 4 "is_jump_number" 2 φ_is_jump_number := fun {M} e Z => ⟨f18, _, _, rd_is_jump_number.2 Z (D_is_integer_within Z) (W_len e Z) F18, kf18, b18, PySem.W.mg_of X G a18⟩
  have D_is_price : ∀ {M : MC}, Wd l.prog w K mg base M → DO l.prog w K mg base M 4 "is_price" 1 φ_is_price := fun {M} Z => ⟨f19, _, _, rd_is_price.2 Z (D_is_integer_within Z) F19, kf19, b19, PySem.W.mg_of X G a19⟩
  have D_least_masks : ∀ {M : MC}, Wd l.prog w K mg base M → DO l.prog w K mg base M 5 "_least_masks" 1 φ_least_masks := fun {M} Z => ⟨f20, _, _, rd_least_masks.2 Z (D_narrow_tallies Z) (D_loops_by_parts Z) F20, kf20, b20, PySem.W.mg_of X G a20⟩
  have D_least_costs : ∀ {M : MC}, M.C = C → Wd l.prog w K mg base M → DO l.prog w K mg base M 5 "_least_costs" 2 φ_least_costs := fun {M} e Z => ⟨f21, _, _, rd_least_costs.2 Z (D_narrow_tallies Z) (D_loops_by_parts Z) (D_is_jump_number e Z) F21, kf21, b21, PySem.W.mg_of X G a21⟩
  have D_is_jump : ∀ {M : MC}, Wd l.prog w K mg base M → DO l.prog w K mg base M 5 "_is_jump" 2 φ_is_jump := fun {M} Z => ⟨f22, _, _, rd_is_jump.2 Z (D_is_price Z) (D_is_place Z) F22, kf22, b22, PySem.W.mg_of X G a22⟩
  have D_all_least : ∀ {M : MC}, Wd l.prog w K mg base M → DO l.prog w K mg base M 6 "all_least" 1 φ_all_least := fun {M} Z => ⟨f23, _, _, rd_all_least.2 Z (D_least_masks Z) (D_numbers_in Z) F23, kf23, b23, PySem.W.mg_of X G a23⟩
  have D_always : ∀ {M : MC}, Wd l.prog w K mg base M → DO l.prog w K mg base M 6 "always" 1 φ_always := fun {M} Z => ⟨f24, _, _, rd_always.2 Z (D_numbers_in Z) (D_least_masks Z) F24, kf24, b24, PySem.W.mg_of X G a24⟩
  have D_sometimes : ∀ {M : MC}, Wd l.prog w K mg base M → DO l.prog w K mg base M 6 "sometimes" 1 φ_sometimes := fun {M} Z => ⟨f25, _, _, rd_sometimes.2 Z (D_numbers_in Z) (D_least_masks Z) F25, kf25, b25, PySem.W.mg_of X G a25⟩
  have D_left_from : ∀ {M : MC}, M.C = C → Wd l.prog w K mg base M → DO l.prog w K mg base M 6 "left_from" 2 φ_left_from := fun {M} e Z => ⟨f26, _, _, rd_left_from.2 Z (D_least_costs e Z) F26, kf26, b26, PySem.W.mg_of X G a26⟩
  have D_steps_of : ∀ {M : MC}, M.C = C → Wd l.prog w K mg base M → DO l.prog w K mg base M 6 "steps_of" 2 φ_steps_of := fun {M} e Z => ⟨f27, _, _, rd_steps_of.2 Z (D_least_costs e Z) F27, kf27, b27, PySem.W.mg_of X G a27⟩
  have W_init : ∀ {M : MC}, M.C = C → Wd l.prog w K mg base M → WI l.prog w K mg base M 6 φ_Code_init := fun {M} e Z => by
    have r := rd_Code_init.2 Z (fun a => D_are_places (Z.at a)) (fun a => D_is_place (Z.at a)) (fun a => D_is_jump (Z.at a)) (fun a => D_places_reached (Z.at a)) FI
    refine ⟨fI, _, E, ?_, r, bI, bI3, sqT0 lE, ?_⟩
    · rw [e]; exact ⟨Cmk, Cin, Cif, Ckp⟩
    · rw [e]; exact PySem.W.mg_of X G aK
  have TL1 : LTab base mg [(P1, ("_law_refused_right" ++ ".<locals>.") ++ "<lambda>")] "_law_refused_right" c1 P1 := by
    refine ⟨tb1, (List.mem_cons_self ..), fun p hp e => ?_⟩
    rcases List.mem_cons.mp hp with rfl | hp
    · rfl
    · cases hp
  refine ok_law (C := C) F6 (PySem.W.mg_none_of X G z_range) (PySem.W.mg_none_of X G z_min) (PySem.W.mg_none_of X G z_len) (PySem.W.mg_none_of X G z_sorted) ⟨⟨_, _, Fx.ok_begun F0 B0, kf0, b0, PySem.W.mg_of X G a0⟩, ⟨_, _, Fx.ok_next F1 B0, kf1, b1, PySem.W.mg_of X G a1⟩, ⟨_, _, Fx.ok_names F2 B1 F1 b1, kf2, b2, PySem.W.mg_of X G a2⟩, ⟨f28, _, ds_ok (C := C) rfl p_ring fun ws g => ?_, kf28, b28, PySem.W.mg_of X G a28⟩, ⟨f29, _, ds_ok (C := C) rfl p_hand fun ws g => ?_, kf29, b29, PySem.W.mg_of X G a29⟩, ⟨f30, _, ds_okG (C := C) rfl p_refused fun ws g => ?_, kf30, b30, PySem.W.mg_of X G a30⟩⟩
  · exact (rd_law_ring_right.2 (Zw g) (D_steps_of rfl (Zw g)) (D_left_from rfl (Zw g)) (D_sometimes (Zw g)) (D_always (Zw g)) (D_all_least (Zw g)) (W_init rfl (Zw g)) F28).mono (by decide)
  · exact (rd_law_hand_right.2 (Zw g) (D_steps_of rfl (Zw g)) (D_left_from rfl (Zw g)) (D_always (Zw g)) (D_all_least (Zw g)) (W_init rfl (Zw g)) (D_sometimes (Zw g)) F29).mono (by decide)
  · exact rd_law_refused_right.2 (Zw g) WH TL1 (D_steps_of rfl (Zw g)) (D_left_from rfl (Zw g)) (W_init rfl (Zw g)) F30
end Pl

open PySem PySem.W PyProof.Rows in
set_option maxRecDepth 100000 in
set_option maxHeartbeats 0 in
theorem PySem.Challenge.cw_loopcuts_k43_choices_by_hand_and_refused_holds : PySem.Challenge.rw_loopcuts_k43_choices_by_hand_and_refused.Holds := by
  w_on; o_law; k_head; (case hw => w_witness2)
  k_fill
  refine Pl.walkGT (l := PySem.Challenge.rw_loopcuts_k43_choices_by_hand_and_refused) (n := 63) (k := 11) (x := "script") (xs := ["_law_refused_right"]) rfl (by decide) rfl ⟨rfl, by decide, by decide⟩ (by decide +kernel) (fun w h Y => PySem.W.km_in_of Y) ?F
  case F =>
    intro w mg fa h KX G hmg
    refine' Pl.all_mk KX G hmg ?xBadCode ?tBadCode ?xBadLot ?tBadLot ?xBadRun ?tBadRun ?xBadNumber ?tBadNumber ?xSeveralDoors ?tSeveralDoors ?xNoCut ?tNoCut ?k00 ?k01 ?k02 ?k03 ?k04 ?k10 ?k11 ?k12 ?k13 ?k14 ?k20 ?k21 ?k22 ?k23 ?k24 ?k30 ?k31 ?k32 ?k33 ?k34 ?k40 ?k41 ?k42 ?k43 ?k44 ?aLE ?m0 ?m1 ?m2 ?m3 ?m4 ?aK ?Cpg ?Chd ?Cpo ?Csa ?Cmk ?Cin ?Cif ?Ckp ?Cnp ?Cnd ?Cnj ?Cln ?Clf ?lI ?cI ?kI ?lT ?lE ?lL ?cL ?kL ?iLONGEST_WORD ?iMOST_PLACES ?iMOST_JUMPS ?iGREATEST_PRICE ?iNEVER ?a0 ?l0 ?c_0 ?kf0 ?a1 ?l1 ?c_1 ?kf1 ?a2 ?l2 ?c_2 ?kf2 ?a3 ?l3 ?c_3 ?kf3 ?a4 ?l4 ?c_4 ?kf4 ?a5 ?l5 ?c_5 ?kf5 ?a6 ?l6 ?c_6 ?kf6 ?a7 ?l7 ?c_7 ?kf7 ?a8 ?l8 ?c_8 ?kf8 ?a9 ?l9 ?c_9 ?kf9 ?a10 ?l10 ?c_10 ?kf10 ?a11 ?l11 ?c_11 ?kf11 ?a12 ?l12 ?c_12 ?kf12 ?a13 ?l13 ?c_13 ?kf13 ?a14 ?l14 ?c_14 ?kf14 ?a15 ?l15 ?c_15 ?kf15 ?a16 ?l16 ?c_16 ?kf16 ?a17 ?l17 ?c_17 ?kf17 ?a18 ?l18 ?c_18 ?kf18 ?a19 ?l19 ?c_19 ?kf19 ?a20 ?l20 ?c_20 ?kf20 ?a21 ?l21 ?c_21 ?kf21 ?a22 ?l22 ?c_22 ?kf22 ?a23 ?l23 ?c_23 ?kf23 ?a24 ?l24 ?c_24 ?kf24 ?a25 ?l25 ?c_25 ?kf25 ?a26 ?l26 ?c_26 ?kf26 ?a27 ?l27 ?c_27 ?kf27 ?a28 ?l28 ?c_28 ?kf28 ?a29 ?l29 ?c_29 ?kf29 ?a30 ?l30 ?c_30 ?kf30 ?z_isi ?z_int ?z_bool ?z_str ?z_tuple ?z_list ?z_len ?z_all ?z_any ?z_zip ?z_enum ?z_range ?z_sorted ?z_set ?z_min ?z_max ?z_sum ?z_repr ?z_dict ?uu1 ?vv1 ?n1
    (case xBadCode =>
      refine' Pl.cf_mk KX G PySem.F.excBase_ValueError PySem.W.kxs_ValueError PySem.F.store_ValueError (.inl rfl) ?aC ?exi ?over ?sa ?tk ?hd ?iC ?iF ?op ?su ?sB ?mr ?gs ?top ?lf ?cf ?lc ?v2 ?fi ?lx ?ln ?ga ?gg ?sb ?kl ?sp ?tg ?mo ?kp ?no
      (case aC => k_is)
      (case exi => kx_is)
      (case over => kx_is)
      (case sa => k_is)
      (case tk => k_is)
      (case hd => k_is)
      (case iC => k_is)
      (case iF => k_is)
      (case op => k_is)
      (case su => ks_is)
      (case sB => k_is)
      (case mr => k_is)
      (case gs => k_is)
      (case top => decide +kernel)
      (case lf => k_is)
      (case cf => k_is)
      (case lc => k_is)
      (case v2 => rfl)
      (case fi => decide +kernel)
      (case lx => k_is)
      (case ln => rfl)
      (case ga => k_is)
      (case gg => k_is)
      (case sb => k_is)
      (case kl => k_is)
      (case sp => k_is)
      (case tg => k_is)
      (case mo => k_is)
      (case kp => k_is)
      (case no => k_is)
    )
    (case xBadLot =>
      refine' Pl.cf_mk KX G PySem.F.excBase_ValueError PySem.W.kxs_ValueError PySem.F.store_ValueError (.inr (.inl rfl)) ?aC ?exi ?over ?sa ?tk ?hd ?iC ?iF ?op ?su ?sB ?mr ?gs ?top ?lf ?cf ?lc ?v2 ?fi ?lx ?ln ?ga ?gg ?sb ?kl ?sp ?tg ?mo ?kp ?no
      (case aC => k_is)
      (case exi => kx_is)
      (case over => kx_is)
      (case sa => k_is)
      (case tk => k_is)
      (case hd => k_is)
      (case iC => k_is)
      (case iF => k_is)
      (case op => k_is)
      (case su => ks_is)
      (case sB => k_is)
      (case mr => k_is)
      (case gs => k_is)
      (case top => decide +kernel)
      (case lf => k_is)
      (case cf => k_is)
      (case lc => k_is)
      (case v2 => rfl)
      (case fi => decide +kernel)
      (case lx => k_is)
      (case ln => rfl)
      (case ga => k_is)
      (case gg => k_is)
      (case sb => k_is)
      (case kl => k_is)
      (case sp => k_is)
      (case tg => k_is)
      (case mo => k_is)
      (case kp => k_is)
      (case no => k_is)
    )
    (case xBadRun =>
      refine' Pl.cf_mk KX G PySem.F.excBase_ValueError PySem.W.kxs_ValueError PySem.F.store_ValueError (.inr (.inl rfl)) ?aC ?exi ?over ?sa ?tk ?hd ?iC ?iF ?op ?su ?sB ?mr ?gs ?top ?lf ?cf ?lc ?v2 ?fi ?lx ?ln ?ga ?gg ?sb ?kl ?sp ?tg ?mo ?kp ?no
      (case aC => k_is)
      (case exi => kx_is)
      (case over => kx_is)
      (case sa => k_is)
      (case tk => k_is)
      (case hd => k_is)
      (case iC => k_is)
      (case iF => k_is)
      (case op => k_is)
      (case su => ks_is)
      (case sB => k_is)
      (case mr => k_is)
      (case gs => k_is)
      (case top => decide +kernel)
      (case lf => k_is)
      (case cf => k_is)
      (case lc => k_is)
      (case v2 => rfl)
      (case fi => decide +kernel)
      (case lx => k_is)
      (case ln => rfl)
      (case ga => k_is)
      (case gg => k_is)
      (case sb => k_is)
      (case kl => k_is)
      (case sp => k_is)
      (case tg => k_is)
      (case mo => k_is)
      (case kp => k_is)
      (case no => k_is)
    )
    (case xBadNumber =>
      refine' Pl.cf_mk KX G PySem.F.excBase_ValueError PySem.W.kxs_ValueError PySem.F.store_ValueError (.inr (.inl rfl)) ?aC ?exi ?over ?sa ?tk ?hd ?iC ?iF ?op ?su ?sB ?mr ?gs ?top ?lf ?cf ?lc ?v2 ?fi ?lx ?ln ?ga ?gg ?sb ?kl ?sp ?tg ?mo ?kp ?no
      (case aC => k_is)
      (case exi => kx_is)
      (case over => kx_is)
      (case sa => k_is)
      (case tk => k_is)
      (case hd => k_is)
      (case iC => k_is)
      (case iF => k_is)
      (case op => k_is)
      (case su => ks_is)
      (case sB => k_is)
      (case mr => k_is)
      (case gs => k_is)
      (case top => decide +kernel)
      (case lf => k_is)
      (case cf => k_is)
      (case lc => k_is)
      (case v2 => rfl)
      (case fi => decide +kernel)
      (case lx => k_is)
      (case ln => rfl)
      (case ga => k_is)
      (case gg => k_is)
      (case sb => k_is)
      (case kl => k_is)
      (case sp => k_is)
      (case tg => k_is)
      (case mo => k_is)
      (case kp => k_is)
      (case no => k_is)
    )
    (case xSeveralDoors =>
      refine' Pl.cf_mk KX G PySem.F.excBase_LookupError PySem.W.kxs_LookupError PySem.F.store_LookupError (.inr (.inr (.inr (.inl rfl)))) ?aC ?exi ?over ?sa ?tk ?hd ?iC ?iF ?op ?su ?sB ?mr ?gs ?top ?lf ?cf ?lc ?v2 ?fi ?lx ?ln ?ga ?gg ?sb ?kl ?sp ?tg ?mo ?kp ?no
      (case aC => k_is)
      (case exi => kx_is)
      (case over => kx_is)
      (case sa => k_is)
      (case tk => k_is)
      (case hd => k_is)
      (case iC => k_is)
      (case iF => k_is)
      (case op => k_is)
      (case su => ks_is)
      (case sB => k_is)
      (case mr => k_is)
      (case gs => k_is)
      (case top => decide +kernel)
      (case lf => k_is)
      (case cf => k_is)
      (case lc => k_is)
      (case v2 => rfl)
      (case fi => decide +kernel)
      (case lx => k_is)
      (case ln => rfl)
      (case ga => k_is)
      (case gg => k_is)
      (case sb => k_is)
      (case kl => k_is)
      (case sp => k_is)
      (case tg => k_is)
      (case mo => k_is)
      (case kp => k_is)
      (case no => k_is)
    )
    (case xNoCut =>
      refine' Pl.cf_mk KX G PySem.F.excBase_LookupError PySem.W.kxs_LookupError PySem.F.store_LookupError (.inr (.inr (.inr (.inr rfl)))) ?aC ?exi ?over ?sa ?tk ?hd ?iC ?iF ?op ?su ?sB ?mr ?gs ?top ?lf ?cf ?lc ?v2 ?fi ?lx ?ln ?ga ?gg ?sb ?kl ?sp ?tg ?mo ?kp ?no
      (case aC => k_is)
      (case exi => kx_is)
      (case over => kx_is)
      (case sa => k_is)
      (case tk => k_is)
      (case hd => k_is)
      (case iC => k_is)
      (case iF => k_is)
      (case op => k_is)
      (case su => ks_is)
      (case sB => k_is)
      (case mr => k_is)
      (case gs => k_is)
      (case top => decide +kernel)
      (case lf => k_is)
      (case cf => k_is)
      (case lc => k_is)
      (case v2 => rfl)
      (case fi => decide +kernel)
      (case lx => k_is)
      (case ln => rfl)
      (case ga => k_is)
      (case gg => k_is)
      (case sb => k_is)
      (case kl => k_is)
      (case sp => k_is)
      (case tg => k_is)
      (case mo => k_is)
      (case kp => k_is)
      (case no => k_is)
    )
    (case tBadCode => k_is)
    (case tBadLot => k_is)
    (case tBadRun => k_is)
    (case tBadNumber => k_is)
    (case tSeveralDoors => k_is)
    (case tNoCut => k_is)
    (case k00 => kit_is)
    (case k01 => kit_is)
    (case k02 => kit_is)
    (case k03 => kit_is)
    (case k04 => kit_is)
    (case k10 => kit_is)
    (case k11 => kit_is)
    (case k12 => kit_is)
    (case k13 => kit_is)
    (case k14 => kit_is)
    (case k20 => kit_is)
    (case k21 => kit_is)
    (case k22 => kit_is)
    (case k23 => kit_is)
    (case k24 => kit_is)
    (case k30 => kit_is)
    (case k31 => kit_is)
    (case k32 => kit_is)
    (case k33 => kit_is)
    (case k34 => kit_is)
    (case k40 => kit_is)
    (case k41 => kit_is)
    (case k42 => kit_is)
    (case k43 => kit_is)
    (case k44 => kit_is)
    (case aLE => k_is)
    (case m0 => kts_exm)
    (case m1 => kts_exm)
    (case m2 => kts_exm)
    (case m3 => kts_exm)
    (case m4 => kts_exm)
    (case aK => k_is)
    (case Cpg => k_is)
    (case Chd => k_is)
    (case Cpo => k_is)
    (case Csa => k_is)
    (case Cmk => k_is)
    (case Cin => k_is)
    (case Cif => k_is)
    (case Ckp => k_is)
    (case Cnp => k_is)
    (case Cnd => k_is)
    (case Cnj => k_is)
    (case Cln => k_is)
    (case Clf => k_is)
    (case lI => k_is)
    (case cI => k_is)
    (case kI => k_is)
    (case lT => k_is)
    (case lE => k_is)
    (case lL => k_is)
    (case cL => k_is)
    (case kL => k_is)
    (case iLONGEST_WORD => k_is)
    (case iMOST_PLACES => k_is)
    (case iMOST_JUMPS => k_is)
    (case iGREATEST_PRICE => k_is)
    (case iNEVER => k_is)
    (case a0 => k_is)
    (case l0 => k_is)
    (case c_0 => k_is)
    (case kf0 => k_is)
    (case a1 => k_is)
    (case l1 => k_is)
    (case c_1 => k_is)
    (case kf1 => k_is)
    (case a2 => k_is)
    (case l2 => k_is)
    (case c_2 => k_is)
    (case kf2 => k_is)
    (case a3 => k_is)
    (case l3 => k_is)
    (case c_3 => k_is)
    (case kf3 => k_is)
    (case a4 => k_is)
    (case l4 => k_is)
    (case c_4 => k_is)
    (case kf4 => k_is)
    (case a5 => k_is)
    (case l5 => k_is)
    (case c_5 => k_is)
    (case kf5 => k_is)
    (case a6 => k_is)
    (case l6 => k_is)
    (case c_6 => k_is)
    (case kf6 => k_is)
    (case a7 => k_is)
    (case l7 => k_is)
    (case c_7 => k_is)
    (case kf7 => k_is)
    (case a8 => k_is)
    (case l8 => k_is)
    (case c_8 => k_is)
    (case kf8 => k_is)
    (case a9 => k_is)
    (case l9 => k_is)
    (case c_9 => k_is)
    (case kf9 => k_is)
    (case a10 => k_is)
    (case l10 => k_is)
    (case c_10 => k_is)
    (case kf10 => k_is)
    (case a11 => k_is)
    (case l11 => k_is)
    (case c_11 => k_is)
    (case kf11 => k_is)
    (case a12 => k_is)
    (case l12 => k_is)
    (case c_12 => k_is)
    (case kf12 => k_is)
    (case a13 => k_is)
    (case l13 => k_is)
    (case c_13 => k_is)
    (case kf13 => k_is)
    (case a14 => k_is)
    (case l14 => k_is)
    (case c_14 => k_is)
    (case kf14 => k_is)
    (case a15 => k_is)
    (case l15 => k_is)
    (case c_15 => k_is)
    (case kf15 => k_is)
    (case a16 => k_is)
    (case l16 => k_is)
    (case c_16 => k_is)
    (case kf16 => k_is)
    (case a17 => k_is)
    (case l17 => k_is)
    (case c_17 => k_is)
    (case kf17 => k_is)
    (case a18 => k_is)
    (case l18 => k_is)
    (case c_18 => k_is)
    (case kf18 => k_is)
    (case a19 => k_is)
    (case l19 => k_is)
    (case c_19 => k_is)
    (case kf19 => k_is)
    (case a20 => k_is)
    (case l20 => k_is)
    (case c_20 => k_is)
    (case kf20 => k_is)
    (case a21 => k_is)
    (case l21 => k_is)
    (case c_21 => k_is)
    (case kf21 => k_is)
    (case a22 => k_is)
    (case l22 => k_is)
    (case c_22 => k_is)
    (case kf22 => k_is)
    (case a23 => k_is)
    (case l23 => k_is)
    (case c_23 => k_is)
    (case kf23 => k_is)
    (case a24 => k_is)
    (case l24 => k_is)
    (case c_24 => k_is)
    (case kf24 => k_is)
    (case a25 => k_is)
    (case l25 => k_is)
    (case c_25 => k_is)
    (case kf25 => k_is)
    (case a26 => k_is)
    (case l26 => k_is)
    (case c_26 => k_is)
    (case kf26 => k_is)
    (case a27 => k_is)
    (case l27 => k_is)
    (case c_27 => k_is)
    (case kf27 => k_is)
    (case a28 => k_is)
    (case l28 => k_is)
    (case c_28 => k_is)
    (case kf28 => k_is)
    (case a29 => k_is)
    (case l29 => k_is)
    (case c_29 => k_is)
    (case kf29 => k_is)
    (case a30 => k_is)
    (case l30 => k_is)
    (case c_30 => k_is)
    (case kf30 => k_is)
    (case z_isi => k_is)
    (case z_int => k_is)
    (case z_bool => k_is)
    (case z_str => k_is)
    (case z_tuple => k_is)
    (case z_list => k_is)
    (case z_len => k_is)
    (case z_all => k_is)
    (case z_any => k_is)
    (case z_zip => k_is)
    (case z_enum => k_is)
    (case z_range => k_is)
    (case z_sorted => k_is)
    (case z_set => k_is)
    (case z_min => k_is)
    (case z_max => k_is)
    (case z_sum => k_is)
    (case z_repr => k_is)
    (case z_dict => k_is)
    (case uu1 => k_is)
    (case vv1 => rfl)
    (case n1 => kernel_rfl)

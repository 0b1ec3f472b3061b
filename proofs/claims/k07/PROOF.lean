import PyProof.Rows.All
import Wide.All
import OpenK.AllK
import Wide.FinOn
import KE.KExcSuper
import HandS.Base
import HandS.Call
import HandS.Exc
import HandS.ExcSuper
import KE.KExcIs
import HandS.Words
import HandS.List
import HandS.Iter
import HandS.Comp
import HandS.Codes
import PySem.Challenge.RW_mendedruns_k07_classes_of_errors
set_option Elab.async false
set_option linter.all false
set_option maxRecDepth 100000
set_option maxHeartbeats 4000000
namespace LX
open PySem PySem.Spec PySem.W PySem.Calls PyProof.Rows
/-- def __init__(self, p): super().__init__(msg); self.p = p -/
def ibody (p msg : Str) (q0 q1 q2 q3 q4 q5 q6 q7 q8 q9 : Pos) (j : Nat) : List Stmt :=
  [.Expr (.Call (.Attribute (.Call (.Name "super" q0) [] [] q1) "__init__" q2) [.Constant (.str msg) j q3] [] q4) q5,
   .Assign [.Attribute (.Name "self" q6) p q7] (.Name p q8) q9]
def isc (p : Str) : Scope := { kind := .function, names := [("self", .local), (p, .local), ("__class__", .free), ("super", .globalImplicit)], isGenerator := false, isCoroutine := false, more := [] }
/-- a built-in error's __init__ -/
structure InF (B initId : String) : Prop where
  kind : builtinKind initId = some .slot
  row : Manifest.signature? initId = some ⟨.positional, "*", B, .self, [⟨"args", .varPos, false⟩]⟩
  star : (B != "*") = true
  plain : plainId initId = true
  entry : entryFor table initId = some Builtin.«BaseException.__init__»
theorem InF.of {B newId initId : String} (F : ExcCallFacts B newId initId) : InF B initId := ⟨F.initKind, F.initRow, F.noStar, F.init.plain, F.initEntry⟩
/-- what stands of the class at C in the written part -/
structure ExF (prog : Program) (K : Frag) (C : Addr) (bm0 : List Value) (B newId initId : String) (bmB : List Value) (cn p : Str) : Prop where
  FB : ∃ (B1 i1 : String) (b1 : List Value), ExcBaseFacts B1 newId i1 b1 ∧ bmB.contains (.type B1) = true
  noA : bmB.contains (.type "AttributeError") = false
  noN : bmB.contains (.type "NameError") = false
  IF : InF B initId
  KF : KxsFacts B initId
  pass : ∀ self : Value, refuseLoop self "__setattr__" bmB = pure ()
  ob : bmB.contains (.type "object") = true
  q : excInitIn K C bmB newId = true
  ov : excOver K C bmB = true
  init : ∃ (fI cc cda : Addr) (par : Arguments) (msg : Str) (q0 q1 q2 q3 q4 q5 q6 q7 q8 q9 : Pos) (j : Nat) (kV doc pm ct : Value) (an : Option Addr) (oc : Value) (od : Option Addr) (osl : Array (Option Value)) (ar a2 : Arg)
      (ccl cl : Value) (cdd cld : Option Addr) (ccs csl : Array (Option Value)) (vs : Array Value) (file : Str) (tf : Tok) (qn : Str),
    findIn K (.ref C) "__init__" = some (some (.ref fI)) ∧ typeIn K (.ref fI) = some (.type "function") ∧
    K.lookup fI = some ⟨oc, od, .func (ksFn "__init__" qn par (ibody p msg q0 q1 q2 q3 q4 q5 q6 q7 q8 q9 j) (isc p) .none kV doc pm an (.ref cda) ct cc), osl⟩ ∧
    codeIn K (.ref cda) qn = true ∧ (par.posonlyargs ++ par.args) = [ar, a2] ∧ ar.arg = ("self" : Str) ∧
    (∀ (u v : Value) , bindArgs (ksFn "__init__" qn par (ibody p msg q0 q1 q2 q3 q4 q5 q6 q7 q8 q9 j) (isc p) .none kV doc pm an (.ref cda) ct cc) ⟨[u, v], []⟩ = pure [(("self" : Str), u), (p, v)]) ∧
    (∀ (u v : Value) , bindArgs (ksFn "__init__" qn par (ibody p msg q0 q1 q2 q3 q4 q5 q6 q7 q8 q9 j) (isc p) .none kV doc pm an (.ref cda) ct cc) ⟨[u], [(p, v)]⟩ = pure [(("self" : Str), u), (p, v)]) ∧
    K.lookup cda = some ⟨ccl, cdd, .fields vs, ccs⟩ ∧ vs[2]? = some (.str file tf) ∧ ((prog.main.file : Str) == file) = true ∧
    K.lookup cc = some ⟨cl, cld, .cell (some (.ref C)), csl⟩ ∧ (q2.endLine == q4.line) = true
  noany : nsIn K cStatics "thirdparty.any" = some none
  sup : ks_superIn K C C "__init__" = some (some (.builtin initId))
  subB : subIn K (.ref C) (.type B) = some true
  subC : mroIn K C (.ref C) = some true
  topS : (prog.main.scope.names.lookup ("super" : Str)).isSome = false
  sa : findIn K (.ref C) "__setattr__" = some (some (.builtin "object.__setattr__"))
  hd : hasDictIn K C = true
  hf : findIn K (.ref C) p = some none
  ps : p ≠ ("self" : Str)
  pc : p ≠ ("__class__" : Str)
  pd : (p == ("__debug__" : Str)) = false
  pu : p ≠ ("super" : Str)
/-- an exception's object, without and with its dict -/
abbrev eo (C t : Addr) (dd : Option Addr) : Obj := { cls := .ref C, dict := dd, data := .fields #[.ref t, .none, .none, .none, .bool false, .none] }
section
variable {prog : Program} {w : World} {A : Around} {R : Result → Shared → Prop} {hp : Heap} {g : Array GenState} {d : Drawn} {t : Nat} {os : OsState}
/-- self.p = v on an exception without a dict, the class's tail any -/
theorem osa_any {K : Frag} {name : Str} {tk : Tok} {v : Value} {x C t0 : Addr} {bmB : List Value} {m : List Value}
    (X : K.In hp) (hx : hp.get? x = some (eo C t0 none)) (hov : excOver K C bmB = true) (hob : bmB.contains (.type "object") = true) (pass : ∀ self : Value, refuseLoop self "__setattr__" bmB = pure ()) (hh : hasDictIn K C = true) (ha : findIn K (.ref C) name = some none)
    (hq : ∀ h' tk' dx, (∀ b o, b ≠ x → hp.get? b = some o → h'.get? b = some o) → hp.objs.size ≤ dx → dx ≠ x → h'.get? x = some (eo C t0 (some dx)) →
      h'.Ns1 dx (fun y => if y = name then some v else none) → R (.ok (.ret .none)) ⟨h', g, d, tk', os⟩) :
    codeAny (model prog w) A (.call (.builtin "object.__setattr__") ⟨[.ref x, .str name tk, v], []⟩) R ⟨hp, g, d, t, os⟩ := by
  obtain ⟨cd, hcd, hdct⟩ := any_some hh
  have hmro : ∃ bm, cd.mro = .ref C :: bm ∧ excTail bmB bm = true := by
    unfold excOver at hov
    rw [hcd] at hov
    simp only [Option.any_some] at hov
    split at hov
    · rename_i C' bm e
      simp only [Bool.and_eq_true, beq_iff_eq] at hov
      obtain ⟨rfl, ht⟩ := hov
      exact ⟨bm, e, ht⟩
    · cases hov
  obtain ⟨bm, hm, ht⟩ := hmro
  have hpass := excTail_pass (.ref x) (pass (.ref x)) bm ht
  have hcon := excTail_contains "object" bm ht
  have I : InstAt hp x (eo C t0 none) C none := ⟨hx, rfl, rfl, trivial⟩
  have SF := F.store_object
  have hxs : x ≠ hp.objs.size := Nat.ne_of_lt (Heap.lt_size hx)
  have sub : Looks (model prog w) hp (isInstance (.ref x) (.type "object")) true := I.type.andThen (looks_mroIn X (by
    unfold mroIn
    rw [hcd, Option.bind_some, hm, if_neg (show ¬ (List.isEmpty (Value.ref C :: bm) = true) from Bool.false_ne_true), List.contains_cons, hcon, hob, Bool.or_true]))
  have hcls : Looks (model prog w) hp (classData C) cd := looks_clsIn X hcd
  have hmr : Looks (model prog w) hp (mroOf (.ref C)) (.ref C :: bm) := by
    rw [← hm]
    exact (looks_clsIn X hcd).andThen .now
  have L3 : Looks (model prog w) hp (Builtin.ObjectAttr.storeTaker? none) none := .now
  refine codeAny_call_builtin SF.slot.plain SF.entry (@check_slot (model prog w) _ _ ⟨hp, g, d, t, os⟩ "object.__setattr__" "object" "__setattr__" (.ref x) [.str name tk, v] [] _ SF.kind SF.split sub (SF.args (.ref x) (.str name tk) v) ?_)
  rw [osa_eq, refuse_eq]
  refine wpAny_bind (wpAny_bind (I.type.at (wpAny_bind (hmr.at ?_))))
  rw [refuseLoop_ref, hpass]
  refine wpAny_pure (wpAny_bind (I.type.at (wpAny_bind ((looks_findIn X ha).at (wpAny_bind (L3.at ?_))))))
  show wpAny _ _ (Builtin.ObjectAttr.storeInOwnDict (.ref x) (.ref C) (.str name tk) name v false) _ _ _
  obtain ⟨nm, bs, mro, ns, qn, hdd, sn, sb, ab, col, del⟩ := cd
  dsimp only at hdct
  subst hdct
  unfold Builtin.ObjectAttr.storeInOwnDict Builtin.ObjectAttr.ownDictForStores
  repeat (first | with_reducible refine HandSPX.store_in_new ?_ ?_ | with_reducible refine wpAny_loadPart_at hx ?_ | with_reducible refine hcls.at ?_ | wp_step)
  · exact ⟨_, #[], _, (Heap.get?_update_ne _ _ _ _ hxs.symm).trans (Heap.get?_push_at rfl rfl), rfl, fun e he => absurd he (by simp), fun _ => rfl⟩
  · intro h' tk' hn' hs
    have hx₁ : (hp.push { cls := .type "dict", data := .dict #[] }).get? x = some (eo C t0 none) := Heap.get?_push_of_some _ hx
    refine hq h' tk' hp.objs.size (fun b o hb ho => ?_) (Nat.le_refl _) hxs.symm ?_ hn'
    · exact (hs.2 b (Nat.ne_of_lt (Heap.lt_size ho))).trans ((Heap.get?_update_ne _ _ _ _ hb).trans (Heap.get?_push_of_some _ ho))
    · exact (hs.2 x hxs).trans (Heap.get?_update_self _ hx₁ rfl)
end
end LX
namespace LX
open PySem PySem.Spec PySem.W PySem.Calls PyProof.Rows
section
variable {prog : Program} {w : World} {K : Frag} {C : Addr} {bm0 bmB : List Value} {B newId initId : String} {cn p : Str}
theorem isc_self : (isc p).names.lookup ("self" : Str) = some .local := rfl
theorem isc_p (h : p ≠ ("self" : Str)) : (isc p).names.lookup p = some .local := by
  have e : (p == ("self" : Str)) = false := beq_eq_false_iff_ne.mpr h
  unfold isc
  simp [List.lookup, e]
theorem isc_cls (h : p ≠ ("__class__" : Str)) : (isc p).names.lookup ("__class__" : Str) = some .free := by
  have e : (("__class__" : Str) == p) = false := beq_eq_false_iff_ne.mpr (Ne.symm h)
  have e1 : (("__class__" : Str) == ("self" : Str)) = false := by decide
  unfold isc
  simp [List.lookup, e, e1]
theorem isc_sup (h : p ≠ ("super" : Str)) : (isc p).names.lookup ("super" : Str) = some .globalImplicit := by
  have e : (("super" : Str) == p) = false := beq_eq_false_iff_ne.mpr (Ne.symm h)
  have e1 : (("super" : Str) == ("self" : Str)) = false := by decide
  have e2 : (("super" : Str) == ("__class__" : Str)) = false := by decide
  unfold isc
  simp [List.lookup, e, e1, e2]
theorem call_shape {o : Expr} {q2 q4 q3 : Pos} {msg : Str} {j : Nat} {env : Env} {n : Str} (h : (q2.endLine == q4.line) = true) : eval (.Call (.Attribute o n q2) [.Constant (.str msg) j q3] [] q4) env = (do
      let ov ← attributeBase o n env (eval o env)
      standAt q2.atName
      let (f, first) ← holding [ov] (getMethod ov n (do return (← importBound o env).getD true))
      callWith q4 f first (backTo q4 (starEach [.Constant (.str msg) j q3] env)) []) := by
  rw [arm_eval_Call]
  have e : methodCallForm ([Expr.Constant (.str msg) j q3].length + ([] : List Keyword).length) (backTo q4 (starEach [.Constant (.str msg) j q3] env)) (backToKw q4 (keywordEach [] env)) = true := rfl
  have e2 : ∀ ov : Value, methodCall o n q2 q4 env ov ([Expr.Constant (.str msg) j q3].length + ([] : List Keyword).length) (backTo q4 (starEach [.Constant (.str msg) j q3] env)) (backToKw q4 (keywordEach [] env)) = (do
      let (f, first) ← holding [ov] (getMethod ov n (do return (← importBound o env).getD true))
      callWith q4 f first (backTo q4 (starEach [.Constant (.str msg) j q3] env)) []) := fun ov => by
    unfold methodCall methodCallPos calleeOf
    rw [e]
    simp only [h, Bool.not_true, Bool.false_or, if_true]
    rfl
  simp only [e2]
theorem check_b {M : Model} {A : Around} {E : Value → Shared → Prop} {h : Heap} {g : Array GenState} {d : Drawn} {t : Nat} {os : OsState} (IF : InF B initId) {nm q : Str} {N e : Addr} {oe : Obj} {bs bm : List Value} {hdct : Bool} {sn : List Str} {sub : List Value} {ab : Bool} {col : Option Bool} {dd : Option Addr} {k0 k1 k2 k3 k5 : Option Value} {rest : List Value} {Q : Unit → Shared → Prop}
    (hC : h.get? C = some (excClassObj nm q C N bs bm hdct sn sub ab col dd k0 k1 k2 k3 k5 newId)) (he : h.get? e = some oe) (hcls : oe.cls = .ref C) (hq : Q () ⟨h, g, d, t, os⟩) : wpAny M A (checkBoundCall initId { pos := .ref e :: rest, kw := [] }) Q E ⟨h, g, d, t, os⟩ := by
  have hstar := IF.star
  simp only [checkBoundCall, IF.kind, IF.row]
  repeat (first
    | (with_reducible refine wpAny_loadPart_at he ?_; rw [hcls])
    | with_reducible refine wpAny_loadPart_at hC ?_
    | wp_step)
  refine wpAny_onRaise ?_
  have e0 : ∀ (x y : String) (n : Nat), Bind.check ⟨.positional, "*", B, .self, [⟨"args", .varPos, false⟩]⟩ x y n (List.map (fun z => z.fst) ({ pos := Value.ref e :: rest } : Args).kw) = pure () := fun x y n => check_star_args _ _ _ _ _ _
  rw [e0]
  exact wpAny_pure hq
/-- the built-in __init__, bound to e, called with these -/
theorem call_bound {A : Around} {E : Value → Shared → Prop} {s : Shared} {u e t0 : Addr} {rest : List Value} {Q : Value → Shared → Prop} (IF : InF B initId) (q : excInitIn K C bmB newId = true) (X : K.In s.heap)
    (hu : s.heap.get? u = some (kxs_mw initId e)) (he : s.heap.get? e = some (eo C t0 none)) (hz : rest.length ≤ sizeLine)
    (h : ∀ h' t1, (∀ b o, b ≠ e → s.heap.get? b = some o → h'.get? b = some o) → h'.get? e = some (eo C t1 none) → Q .none { s with heap := h' }) :
    wpAny (model prog w) A (call (.ref u) rest) Q E s := by
  obtain ⟨nm, N', qn, bs, bm, hdct, sn, sub, ab, col, dd, k0, k1, k2, k3, k5, hC, hT⟩ := excInit_of X q
  obtain ⟨hh, g, d, tk, os⟩ := s
  refine wpAny_call (codeAny_of_tree ?_)
  show wpAny _ A.in1 (callAny (.ref u) { pos := rest, kw := [] }) _ _ _
  simp only [callAny]
  refine wpAny_bind (wpAny_load hu ?_)
  have hb : (Value.type "method-wrapper" == Value.type "method" || Value.type "method-wrapper" == Value.type "builtin_function_or_method" || Value.type "method-wrapper" == Value.type "method-wrapper") = true := by decide
  simp only [kxs_mw, hb, if_true]
  refine KFB.if_so (by decide) (wpAny_bind (check_b IF hC he rfl ?_))
  refine wpAny_bind (wpAny_pure (wpAny_pure ⟨plainId_quiet IF.plain _, codeAny_builtin IF.entry ?_⟩))
  exact exc_init_tree (cls := .ref C) (t0 := t0) (dv := none) (c2 := .none) (c3 := .none) (b4 := .bool false) he hz fun h' k e' _ => h h' _ k e'
/-- the __init__ of such a class, called -/
theorem init_run (T : ExF prog K C bm0 B newId initId bmB cn p) : ∃ fI : Addr, findIn K (.ref C) "__init__" = some (some (.ref fI)) ∧ typeIn K (.ref fI) = some (.type "function") ∧
    ∀ {A : Around} {R : Result → Shared → Prop} {s : Shared} {e t0 : Addr} {v : Value} {args : Args} {mg mb : Str → Option Value} (X : K.In s.heap) (G : s.heap.Ns mainGlobals mg) (hs : mg "super" = none) (Bl : s.heap.Ns builtinsNs mb) (hb : mb "super" = some (.type "super"))
      (lim : s.heap.NoLimit) (hroom : A.depth < recursionLimit) (ke : K.lookup e = none) (he : s.heap.get? e = some (eo C t0 none)) (ha : args = { pos := [.ref e, v], kw := [] } ∨ args = { pos := [.ref e], kw := [(p, v)] })
      (hq : ∀ h' tk' dx t1, (∀ b o, b ≠ e → s.heap.get? b = some o → h'.get? b = some o) → s.heap.objs.size ≤ dx → dx ≠ e → h'.get? e = some (eo C t1 (some dx)) →
        h'.Ns1 dx (fun y => if y = p then some v else none) → R (.ok (.ret .none)) { s with heap := h', toks := tk' }),
      codeAny (model prog w) A (.call (.ref fI) args) R s := by
  obtain ⟨fI, cc, cda, par, msg, q0, q1, q2, q3, q4, q5, q6, q7, q8, q9, j, kV, doc, pm, ct, an, oc, od, osl, ar, a2, ccl, cl, cdd, cld, ccs, csl, vs, file, tf, qn, h1, h2, h3, h4, h5, h6, h7, h8, h9, h10, h11, h12, h13⟩ := T.init
  refine ⟨fI, h1, h2, fun {A R s e t0 v args mg mb} X G hs Bl hb lim hroom ke he ha hq => ?_⟩
  have hbind : bindArgs (ksFn "__init__" qn par (ibody p msg q0 q1 q2 q3 q4 q5 q6 q7 q8 q9 j) (isc p) .none kV doc pm an (.ref cda) ct cc) args = pure [(("self" : Str), .ref e), (p, v)] := by
    rcases ha with rfl | rfl
    · exact h7 _ _
    · exact h8 _ _
  have hl : (fun x => ([(("self" : Str), Value.ref e), (p, v)] : List (Str × Value)).reverse.lookup x) ("self" : Str) = some (.ref e) := by
    have e1 : (("self" : Str) == p) = false := beq_eq_false_iff_ne.mpr (Ne.symm T.ps)
    simp [List.lookup, e1]
  have hl2 : (fun x => ([(("self" : Str), Value.ref e), (p, v)] : List (Str × Value)).reverse.lookup x) p = some v := by simp [List.lookup]
  obtain ⟨cd, hcd, hdct⟩ := any_some T.hd
  obtain ⟨oD, hD1, hD2⟩ : ∃ oD, s.heap.get? C = some oD ∧ oD.data = .cls cd := by
    have hcd' := hcd
    unfold clsIn at hcd'
    split at hcd'
    · rename_i c d cd' sl ho
      cases hcd'
      exact ⟨_, X _ _ ho, rfl⟩
    · cases hcd'
  have hal : alongIn K "__init__" ((cd.mro.dropWhile (· != .ref C)).drop 1) = some (some (.builtin initId)) := by
    have z := T.sup
    unfold ks_superIn at z
    rw [hcd] at z
    exact z
  refine ks_codeAny_call_defAt (fd := ksFn "__init__" qn par (ibody p msg q0 q1 q2 q3 q4 q5 q6 q7 q8 q9 j) (isc p) .none kV doc pm an (.ref cda) ct cc) (binds := [(("self" : Str), .ref e), (p, v)]) hroom (X _ _ h3) rfl lim (codeRec_of X h4) rfl (.of_eq hbind)
    (fun x hx => ?_) (fun x hx => ?_) (fun h₀ hns k0 => ?_)
  · have hx' : x ∈ (isc p).names := hx
    unfold isc at hx'
    simp only [List.mem_cons, List.not_mem_nil, or_false] at hx'
    rcases hx' with rfl | rfl | rfl | rfl <;> exact fun z => nomatch z
  · simp only [List.mem_cons, List.not_mem_nil, or_false] at hx
    rcases hx with rfl | rfl
    · exact isc_self
    · exact isc_p T.ps
  · show PySem.wpAt _ (A.deeper (ksEnv qn (isc p) s.heap.objs.size fI (.ref cda) cc)) (.func (ibody p msg q0 q1 q2 q3 q4 q5 q6 q7 q8 q9 j) (ksEnv qn (isc p) s.heap.objs.size fI (.ref cda) cc)) (execs (ibody p msg q0 q1 q2 q3 q4 q5 q6 q7 q8 q9 j) (ksEnv qn (isc p) s.heap.objs.size fI (.ref cda) cc)) _ _ _
    have X0 : K.In h₀ := X.keeps k0
    have hk : (ksEnv qn (isc p) s.heap.objs.size fI (.ref cda) cc).scope.kind = .function := rfl
    have sz0 : s.heap.objs.size ≤ h₀.objs.size := by
      obtain ⟨oL, _, _, hL, _⟩ := hns
      exact Nat.le_of_lt (Heap.lt_size hL)
    obtain ⟨hh, g, d, t, os⟩ := s
    refine ks_wpAt_execs_cons (ks_wpAt_Expr_any (ks_wpAt_MethodCall ?_ (call_shape h13)))
    refine ks_wpAt_super_base (env := ksEnv qn (isc p) hh.objs.size fI (.ref cda) cc) (isc_sup T.pu) (isc_cls T.pc) (by decide) rfl (X0 _ _ h3) rfl (ar := ar) ?_ rfl (X0 _ _ h9) rfl h10 h11 T.topS ?_
    · show (par.posonlyargs ++ par.args).head? = some ar
      rw [h5]
      rfl
    refine ks_loadName_global hk (isc_sup T.pu) (loadGlobal_builtin (env := ksEnv qn (isc p) hh.objs.size fI (.ref cda) cc) (G.keeps k0) hs (Bl.keeps k0) hb ⟨rfl, ?_⟩)
    refine wpAny_loadName_free hk (isc_cls T.pc) rfl ⟨_, X0 _ _ h12, rfl⟩ ?_
    rw [h6]
    refine wpAny_loadName_local hk isc_self hns hl ?_
    refine ks_wpAny_isType_cls (k0 _ _ hD1) hD2 ⟨rfl, ?_⟩
    refine ks_wpAny_call_super (k0 _ _ hD1) hD2 (k0 _ _ he) rfl (fun c z => nomatch z) (looks_mroIn X0 T.subC) (fun h2 es k2 => ?_)
    have X2 : K.In h2 := X0.keeps k2
    have he2 : h2.get? e = some (eo C t0 none) := k2 _ _ (k0 _ _ he)
    have I2 : InstAt h2 e (eo C t0 none) C none := ⟨he2, rfl, rfl, trivial⟩
    have neC : e ≠ C := by
      rintro rfl
      rw [he] at hD1
      cases hD1
      cases hD2
    refine kxs_getMethod T.KF es (looks_opaque X2 T.noany) (l₀ := cd.mro) ((looks_clsIn X2 hcd).andThen .now) rfl X2 hal (I2.type.andThen (looks_subIn X2 T.subB)) neC (by decide) ?_
    have k3 : ∀ b o, h2.get? b = some o → (h2.push (kxs_mw initId e)).get? b = some o := fun b o z => Heap.get?_push_of_some _ z
    have hu3 : (h2.push (kxs_mw initId e)).get? h2.objs.size = some (kxs_mw initId e) := Heap.get?_push_at rfl rfl
    refine kxs_callWith (i := initId) (x := e) (by rfl) (evalArgs_plain ?_)
    show wpAny _ _ (spliced ((false, eval (.Constant (.str msg) j q3) (ksEnv qn (isc p) hh.objs.size fI (.ref cda) cc)) :: [])) _ _ _
    refine spliced_cons (Constant_str (spliced_nil ⟨hu3, ?_⟩))
    refine call_bound T.IF T.q (X2.keeps k3) hu3 (k3 _ _ he2) (by show 1 ≤ sizeLine; rw [sizeLine_eq]; omega) (fun h4' t1 k4 e4 => ?_)
    -- the field
    have kA : ∀ b o, b ≠ e → hh.get? b = some o → h4'.get? b = some o := fun b o n z => k4 b o n (k3 _ _ (k2 _ _ (k0 _ _ z)))
    have kB : ∀ b o, b ≠ e → h₀.get? b = some o → h4'.get? b = some o := fun b o n z => k4 b o n (k3 _ _ (k2 _ _ z))
    have eL : hh.objs.size ≠ e := Nat.ne_of_gt (Heap.lt_size he)
    have ns4 : h4'.Ns hh.objs.size (fun x => ([(("self" : Str), Value.ref e), (p, v)] : List (Str × Value)).reverse.lookup x) := by
      obtain ⟨oL, es', ep, hL, r⟩ := hns
      exact ⟨oL, es', ep, kB _ _ eL hL, r⟩
    have X4 : K.In h4' := fun b o z => by
      refine kA b o (fun y => ?_) (X b o z)
      rw [y] at z
      exact absurd (show K.lookup e = some o from z) (by rw [ke]; exact fun y => nomatch y)
    show PySem.wpAt _ _ _ (execs [.Assign [.Attribute (.Name "self" q6) p q7] (.Name p q8) q9] _) _ _ _
    refine ks_wpAt_execs_cons (ks_wpAt_Assign_Attr ?_)
    refine wpAt_of_wpAny (wpAny_Name ?_ T.pd)
    refine wpAny_loadName_local (m := fun x => ([(("self" : Str), Value.ref e), (p, v)] : List (Str × Value)).reverse.lookup x) hk (isc_p T.ps) ns4 hl2 ?_
    refine wpAny_Name ?_ (by decide)
    refine wpAny_loadName_local (m := fun x => ([(("self" : Str), Value.ref e), (p, v)] : List (Str × Value)).reverse.lookup x) hk isc_self ns4 hl ?_
    have I4 : InstAt h4' e (eo C t1 none) C none := ⟨e4, rfl, rfl, trivial⟩
    refine set_plain (od := none) X4 I4 T.sa ?_
    refine osa_any (m := []) X4 e4 T.ov T.ob T.pass T.hd T.hf fun h5' tk' dx k5 hdx dne e5 ns5 => ?_
    have sz4 : hh.objs.size ≤ h4'.objs.size := by
      obtain ⟨oL, es', ep, hL, r⟩ := ns4
      exact Nat.le_of_lt (Heap.lt_size hL)
    show PySem.wpAt _ _ _ (execs [] _) _ _ _
    exact wpAt_of_wpAny (wpAny_pure (hq h5' _ dx t1 (fun b o n z => k5 b o n (kA b o n z)) (Nat.le_trans sz4 hdx) dne e5 ns5))
end
end LX
namespace LX
open PySem PySem.Spec PySem.W PySem.Calls PyProof.Rows
section
variable {prog : Program} {w : World} {A : Around} {E : Value → Shared → Prop} {R : Result → Shared → Prop} {h : Heap} {g : Array GenState} {d : Drawn} {t : Nat} {os : OsState}
variable {nm q : Str} {C N : Addr} {bs bm bmB : List Value} {hdct : Bool} {sn : List Str} {sub : List Value} {ab : Bool} {col : Option Bool} {dd : Option Addr} {k0 k1 k2 k3 k5 : Option Value} {B newId initId : String}
theorem kcheck_new {M : Model} (F : ExcBaseFacts B newId initId bmB) (hB : bm.contains (.type B) = true) (hA : bm.contains (.type "AttributeError") = false) (hN : bm.contains (.type "NameError") = false) {rest : List Value} {kw : List (Str × Value)} {Q : Unit → Shared → Prop}
    (hC : h.get? C = some (excClassObj nm q C N bs bm hdct sn sub ab col dd k0 k1 k2 k3 k5 newId)) (hq : Q () ⟨h, g, d, t, os⟩) : wpAny M A (checkBuiltinCall newId { pos := .ref C :: rest, kw := kw }) Q E ⟨h, g, d, t, os⟩ := by
  have c1 : (Value.ref C :: bm).contains (.type B) = true := by
    rw [List.contains_cons, hB]
    exact Bool.or_true _
  have c2 := F.noStar
  simp only [checkBuiltinCall, F.newKind, F.newSplit, F.newRow]
  repeat (first
    | refine wpAny_loadPart_at hC ?_
    | (refine wpAny_isSubtype_exc hC ?_; rw [c1])
    | refine wpAny_staticBase_exc hC ?_
    | refine wpAny_madeBy_exc hC ?_
    | simp only [bne_self_eq_false, Bool.false_eq_true, if_false]
    | wp_step)
  exact hq
theorem knew (F : ExcBaseFacts B newId initId bmB) (hB : bm.contains (.type B) = true) (hA : bm.contains (.type "AttributeError") = false) (hN : bm.contains (.type "NameError") = false) {rest : List Value} {kw : List (Str × Value)} (hz : rest.length ≤ sizeLine)
    (hC : h.get? C = some (excClassObj nm q C N bs bm hdct sn sub ab col dd k0 k1 k2 k3 k5 newId))
    (hq : R (.ok (.ret (.ref (h.objs.size + 1)))) ⟨(h.push (kdv_tup rest)).push (eo C h.objs.size none), g, d, t, os⟩) :
    codeAny (model prog w) A (.builtin newId { pos := .ref C :: rest, kw := kw }) R ⟨h, g, d, t, os⟩ := by
  have c0 := F.ends
  have c1 : (Value.ref C :: bm).contains (.type B) = true := by
    rw [List.contains_cons, hB]
    exact Bool.or_true _
  have c2 : (Value.ref C :: bm).contains (.type "AttributeError") = false := by
    rw [List.contains_cons, hA]
    exact rfl
  have c3 : (Value.ref C :: bm).contains (.type "NameError") = false := by
    rw [List.contains_cons, hN]
    exact rfl
  refine codeAny_builtinAt F.entry ?_
  unfold Builtin.«BaseException.__new__»
  refine PySem.wpAt_bind ?_
  show PySem.wpAt _ _ _ (stack >>= _) _ _ _
  refine PySem.wpAt_bind (PySem.wpAt_stack fun p below => wpAt_of_wpAny ?_)
  wp_walk
  refine wpAt_of_wpAny ?_
  rw [F.owner]
  repeat (first
    | with_reducible refine wpAny_madeHere_exc F.canon hC ?_
    | with_reducible refine wpAny_loadPart_at hC ?_
    | (with_reducible refine wpAny_isSubtype_exc hC ?_; first | rw [c1] | rw [c2] | rw [c3])
    | wp_step)
  show R _ _
  rw [Heap.size_push]
  exact hq
theorem ktype (F : ExcBaseFacts B newId initId bmB) (hB : bm.contains (.type B) = true) (hA : bm.contains (.type "AttributeError") = false) (hN : bm.contains (.type "NameError") = false) {rest : List Value} {kw : List (Str × Value)} (hz : rest.length ≤ sizeLine) {fI : Addr} {Q : Fin → Shared → Prop}
    (hC : h.get? C = some (excClassObj nm q C N bs bm hdct sn sub ab col dd k0 k1 k2 k3 k5 newId))
    (hi : Looks (model prog w) h (typeLookup (.ref C) "__init__") (some (.ref fI))) (hb : ∀ self, Looks (model prog w) h (bindSpecial (.ref fI) self) (.ref fI, [self]))
    (hq : codeAny (model prog w) A (.call (.ref fI) { pos := .ref (h.objs.size + 1) :: rest, kw := kw })
      (fun r s' => match r with | .ok (.ret v) => v = .none ∧ Q (.done (.ret (.ref (h.objs.size + 1)))) s' | .ok _ => False | .error e => E e s')
      ⟨(h.push (kdv_tup rest)).push (eo C h.objs.size none), g, d, t, os⟩) :
    wpAny (model prog w) A (Builtin.«type.__call__» { pos := .ref C :: rest, kw := kw }) Q E ⟨h, g, d, t, os⟩ := by
  repeat (first
    | with_reducible refine wpAny_loadPart_at hC ?_
    | with_reducible refine wpAny_madeBy_exc hC ?_
    | wp_step)
  refine codeAny_call_builtin_code (Code.quiet_builtin _ F.quiet) (kcheck_new F hB hA hN hC (knew F hB hA hN hz hC ?_))
  show wpAny _ _ _ _ _ _
  have k : ∀ b o, h.get? b = some o → ((h.push (kdv_tup rest)).push (eo C h.objs.size none)).get? b = some o := fun b o e => Heap.get?_push_of_some _ (Heap.get?_push_of_some _ e)
  have hC1 := k _ _ hC
  have hget : ((h.push (kdv_tup rest)).push (eo C h.objs.size none)).get? (h.objs.size + 1) = some (eo C h.objs.size none) := by heap_get
  have c1 : (Value.ref C :: bm).contains (.ref C) = true := by simp
  have i1 := hi.keeps k
  have b1 := (hb (.ref (h.objs.size + 1))).keeps k
  unfold isInstance
  repeat (first
    | with_reducible refine wpAny_loadPart_at hget ?_
    | (with_reducible refine wpAny_isSubtype_exc hC1 ?_; rw [c1])
    | wp_step)
  show wpAny _ _ (typeLookup (.ref C) _) _ _ _
  refine i1.at (wpAny_holding (wpAny_bind (b1.at (wpAny_bind (wpAny_call (codeAny_mono hq fun r s' z => ?_))))))
  rcases r with e | (v | _ | _ | _) <;> first | exact z | exact z.elim | skip
  obtain ⟨rfl, z⟩ := z
  first
    | exact wpAny_pure (wpAny_pure z)
    | (wp_walk; exact z)
theorem kcall (F : ExcBaseFacts B newId initId bmB) (hB : bm.contains (.type B) = true) (hA : bm.contains (.type "AttributeError") = false) (hN : bm.contains (.type "NameError") = false) {rest : List Value} {kw : List (Str × Value)} (hz : rest.length ≤ sizeLine) {fI : Addr}
    (hC : h.get? C = some (excClassObj nm q C N bs bm hdct sn sub ab col dd k0 k1 k2 k3 k5 newId))
    (hi : Looks (model prog w) h (typeLookup (.ref C) "__init__") (some (.ref fI))) (hb : ∀ self, Looks (model prog w) h (bindSpecial (.ref fI) self) (.ref fI, [self]))
    (hq : codeAny (model prog w) (A.under (.builtin "type.__call__" { pos := .ref C :: rest, kw := kw })) (.call (.ref fI) { pos := .ref (h.objs.size + 1) :: rest, kw := kw }) (InitBack (h.objs.size + 1) R)
      ⟨(h.push (kdv_tup rest)).push (eo C h.objs.size none), g, d, t, os⟩) :
    codeAny (model prog w) A (.call (.ref C) { pos := rest, kw := kw }) R ⟨h, g, d, t, os⟩ := by
  have f1 := PySem.tc_lookup
  have f2 := PySem.tc_bind (.ref C)
  have hTy : (⟨h, g, d, t, os⟩ : Shared).TypeIs (.ref C) "type" := ⟨_, hC, rfl⟩
  refine codeAny_of_tree ?_
  show wpAny _ _ (callAny (.ref C) _) _ _ _
  repeat (any_goals (first | assumption | with_reducible refine wpAny_loadPart_at hC ?_ | wp_step))
  refine ⟨rfl, codeAny_call_builtin_at (Code.quiet_builtin _ (by decide +kernel)) entry_typeCall (wpAny_check_type_call_sub hC (ktype F hB hA hN hz hC hi hb ?_))⟩
  refine codeAny_mono hq fun r s' z => ?_
  rcases r with e | (v | _ | _ | _) <;> exact z
end
end LX
namespace LX
open PySem PySem.Spec PyProof.Rows L2
/-- at a: an error of the class at C, its dict at d -/
def er (a C d : Addr) : HO := .ext fun h => ∃ t1 : Addr, h.get? a = some (eo C t1 (some d))
theorem er_ok {P : Program} {w : World} {H : Hp} {h : Heap} {a C d t1 : Addr} (e : h.get? a = some (eo C t1 (some d))) : ObjOk P w H h a (er a C d) :=
  ⟨⟨t1, e⟩, ⟨_, e⟩, fun h1 h2 z k => by
    obtain ⟨t, q⟩ := z
    exact ⟨t, k _ q⟩⟩
theorem er_at {P : Program} {w : World} {H : Hp} {h : Heap} {a C d : Addr} (hok : HOk P w H h) (e : H a = some (er a C d)) : ∃ t1 : Addr, h.get? a = some (eo C t1 (some d)) := by
  have x : ObjOk P w H h a (.ext fun h => ∃ t1 : Addr, h.get? a = some (eo C t1 (some d))) := hok a _ e
  exact x.1
section
variable {X : Cx} {pins : List (Addr × Obj)} {σ : L2.St} {H : Hp} {s : Shared}
/-- two new objects laid and tracked -/
theorem laid2 {h' : Heap} {a d : Addr} {oa od : HO} {t' : Nat} (I : Inv X pins σ H s) (k : ∀ b u, s.heap.get? b = some u → h'.get? b = some u) (pa : s.heap.objs.size ≤ a) (pd : s.heap.objs.size ≤ d) (ne : d ≠ a)
    (na : ObjOk X.prog X.w (upd (upd H d od) a oa) h' a oa) (nd : ObjOk X.prog X.w (upd (upd H d od) a oa) h' d od) : Inv X pins σ (upd (upd H d od) a oa) { s with heap := h', toks := t' } := by
  have ha : H a = none := I.hok.fresh pa
  have hd : H d = none := I.hok.fresh pd
  have xa : ∀ {b : Addr} {u : Obj}, s.heap.get? b = some u → b ≠ a := fun {b u} q => Nat.ne_of_lt (Nat.lt_of_lt_of_le (Heap.lt_size q) pa)
  have xd : ∀ {b : Addr} {u : Obj}, s.heap.get? b = some u → b ≠ d := fun {b u} q => Nat.ne_of_lt (Nat.lt_of_lt_of_le (Heap.lt_size q) pd)
  have ya : ∀ {b : Addr} {u : HO}, H b = some u → b ≠ a := fun {b u} q => ne_of_none q ha
  have yd : ∀ {b : Addr} {u : HO}, H b = some u → b ≠ d := fun {b u} q => ne_of_none q hd
  refine I.un { keep := fun b u q _ _ _ => k b u q, slot := fun b u q _ _ _ => ⟨u.slots, k b u q⟩, free := fun b u q n _ => ?_, there := fun b u q _ => ⟨u, k b u q⟩, tups := fun b xs q => ?_, frzs := fun b u xs q => ?_, tbls := fun b ps q => ⟨#[], ?_⟩ } (fun b u e => ?_)
  · rw [upd_ne (xa q), upd_ne (xd q)]
    exact n
  · rw [upd_ne (ya q), upd_ne (yd q)]
    exact q
  · rw [upd_ne (ya q), upd_ne (yd q)]
    exact q
  · rw [upd_ne (ya q), upd_ne (yd q), q]
    simp
  · by_cases hb : b = a
    · subst hb
      rw [upd_same] at e
      cases e
      exact na
    · rw [upd_ne hb] at e
      by_cases hb2 : b = d
      · subst hb2
        rw [upd_same] at e
        cases e
        exact nd
      · rw [upd_ne hb2] at e
        exact (I.hok b u e).stay (fun c v _ q => k c v q) (fun c q => by rw [upd_ne (ya q), upd_ne (yd q)]; exact q) fun c xs q => by rw [upd_ne (ya q), upd_ne (yd q)]; exact q
/-- the reading of a new error with this field -/
def rNew (C : Addr) (p : Str) (y : V) (H : Hp) (Q : VK) : Prop := ∀ a d, H a = none → H d = none → d ≠ a → Q (.ref a) (upd (upd H d (.xd [(p, y)])) a (er a C d))
variable {C : Addr} {bm0 bmB : List Value} {B newId initId : String} {cn p : Str}
theorem new_run (T : ExF X.prog X.K C bm0 B newId initId bmB cn p) (hr : Room 2 X.A) (hs : X.mg "super" = none) (I : Inv X pins σ H s) {y : V} {u : Value} {us : List Value} {kw : List (Str × Value)} {Q : VK}
    (ha : (us = [u] ∧ kw = []) ∨ (us = [] ∧ kw = [(p, u)])) (ry : RelV y u) (h : rNew C p y H Q) :
    wpAny (model X.prog X.w) X.A (call (.ref C) us kw) (EP X pins σ Q) X.xe s := by
  obtain ⟨fI, i1, i2, run⟩ := init_run (w := X.w) T
  have KX := I.kIn
  obtain ⟨nm, N', qn, bs, bm, hdct, sn, sub, ab, col, dd, k0, k1, k2, k3, k5, hC, hT⟩ := PySem.W.excInit_of KX T.q
  obtain ⟨mb, b1, b2⟩ := I.mod.blt
  have hz : us.length ≤ sizeLine := by
    rcases ha with ⟨rfl, _⟩ | ⟨rfl, _⟩ <;> (rw [sizeLine_eq]; simp)
  have lim := I.nolimit
  have glob := I.mod.glob.keeps I.bk
  have blt := b1.keeps I.bk
  have ke : X.K.lookup (s.heap.objs.size + 1) = none := by
    cases z : X.K.lookup (s.heap.objs.size + 1) with
    | none => rfl
    | some o => exact absurd (Heap.lt_size (KX _ _ z)) (Nat.not_lt_of_le (Nat.le_succ _))
  obtain ⟨hp, g, dr, tk, os⟩ := s
  obtain ⟨B1, i1', b1', FB, hcB⟩ := T.FB
  refine wpAny_call (kcall FB ((hT _).trans hcB) ((hT _).trans T.noA) ((hT _).trans T.noN) hz hC (PySem.W.looks_findIn KX i1) (fun self => PySem.W.bind_fn KX self i2) ?_)
  have kk : ∀ b o, hp.get? b = some o → ((hp.push (PySem.W.kdv_tup us)).push (eo C hp.objs.size none)).get? b = some o := fun b o e => Heap.get?_push_of_some _ (Heap.get?_push_of_some _ e)
  have hget : ((hp.push (PySem.W.kdv_tup us)).push (eo C hp.objs.size none)).get? (hp.objs.size + 1) = some (eo C hp.objs.size none) := by heap_get
  have hsz : ((hp.push (PySem.W.kdv_tup us)).push (eo C hp.objs.size none)).objs.size = hp.objs.size + 2 := by rw [Heap.size_push, Heap.size_push]
  refine run (v := u) (s := ⟨(hp.push (PySem.W.kdv_tup us)).push (eo C hp.objs.size none), g, dr, tk, os⟩) (KX.keeps kk) (glob.keeps kk) hs (blt.keeps kk) ((b2 "super" (by decide)).trans (by first | rfl | kernel_rfl)) (lim.keeps kk) (hr.make C us kw).depth ke hget ?_ (fun h' tk' dx t1 k3 hdx dne e5 ns5 => ?_)
  · rcases ha with ⟨rfl, rfl⟩ | ⟨rfl, rfl⟩
    · exact .inl rfl
    · exact .inr rfl
  · have pa : hp.objs.size ≤ hp.objs.size + 1 := Nat.le_succ _
    have pd : hp.objs.size ≤ dx := by
      rw [hsz] at hdx
      omega
    have kf : ∀ b o, hp.get? b = some o → h'.get? b = some o := fun b o z => k3 b o (Nat.ne_of_lt (Nat.lt_succ_of_lt (Heap.lt_size z))) (kk b o z)
    have J := laid2 (t' := tk') (oa := er (hp.objs.size + 1) C dx) (od := .xd [(p, y)]) I kf pa pd dne (er_ok e5) ⟨_, ns5, fun f => ?_⟩
    · exact ⟨rfl, .ref (hp.objs.size + 1), _, J, rfl, h _ _ (I.hok.fresh pa) (I.hok.fresh pd) dne⟩
    · by_cases e : f = p
      · subst e
        simp [List.lookup]
        exact ry
      · have e' : (f == p) = false := beq_eq_false_iff_ne.mpr e
        simp [List.lookup, e', e]
        trivial
end
end LX
namespace LX
open PySem PySem.Spec PyProof.Rows L2
section
variable {X : Cx} {C : Addr} {bm0 bmB : List Value} {B newId initId : String} {cn p x : Str} {e : Expr} {te : TE} {q pos kpos : Pos}
/-- C(e) -/
def tNw (C : Addr) (p : Str) (te : TE) : TE := fun σ H Q => te σ H fun y H1 => rNew C p y H1 Q
theorem pe_nw (T : ExF X.prog X.K C bm0 B newId initId bmB cn p) (hr : Room 2 X.A) (hs : X.mg "super" = none) (gC : X.mg x = some (.ref C)) (kC : PySem.W.keepIn X.K (.ref C) = true) (hg : Gl X x) (he : PE X e te)
    (hst : starEach [e] X.env = (false, eval e X.env) :: starEach [] X.env := by rfl) (hdb : (x == ("__debug__" : Str)) = false := by decide) : PE X (.Call (.Name x q) [e] [] pos) (tNw C p te) := by
  refine ⟨fun pins s σ H Q I h => wpAny_Call_Name_kw (ld_glob I hg gC ?_ hdb)⟩
  refine PySem.W.callWith_K (h₀ := X.base) I.ok.mod.kin kC ?_ hst (by rfl)
  rw [hst]
  show wpAny _ _ (spliced ((false, eval e X.env) :: backTo pos (starEach [] X.env))) _ _ s
  refine Calls.spliced_cons (thn (he.run pins s σ H _ I h) fun u s1 hu => ?_)
  obtain ⟨y, H1, I1, r1, q1⟩ := hu
  exact Calls.spliced_nil ⟨I1.kIn, new_run (us := [u]) (kw := []) T hr hs I1 (.inl ⟨rfl, rfl⟩) r1 q1⟩
/-- C(p=e) -/
theorem pe_nwK (T : ExF X.prog X.K C bm0 B newId initId bmB cn p) (hr : Room 2 X.A) (hs : X.mg "super" = none) (gC : X.mg x = some (.ref C)) (kC : PySem.W.keepIn X.K (.ref C) = true) (hg : Gl X x) (he : PE X e te)
    (hdb : (x == ("__debug__" : Str)) = false := by decide) (hpl : ((backTo pos (starEach [] X.env)).any (·.1) || (backToKw pos (keywordEach [⟨some p, e, kpos⟩] X.env)).any (·.1.isNone)) = false := by rfl) :
    PE X (.Call (.Name x q) [] [⟨some p, e, kpos⟩] pos) (tNw C p te) := by
  refine ⟨fun pins s σ H Q I h => wpAny_Call_Name_kw (ld_glob I hg gC ?_ hdb)⟩
  refine PySem.W.callWith_KW0 (h₀ := X.base) I.ok.mod.kin kC rfl ?_ hpl
  show wpAny _ _ (evalAll [(do
    let v ← eval e X.env
    standAt pos
    pure v)]) _ _ s
  refine wpAny_evalAll_cons (wpAny_bind (thn (he.run pins s σ H _ I h) fun u s1 hu => wpAny_bind (wpAny_standAt (wpAny_pure ?_))))
  obtain ⟨y, H1, I1, r1, q1⟩ := hu
  exact wpAny_evalAll_nil ⟨I1.kIn, new_run (us := []) (kw := [(p, u)]) T hr hs I1 (.inr ⟨rfl, rfl⟩) r1 q1⟩
/-- e.p, e an error -/
def tFld (C : Addr) (p : Str) (te : TE) : TE := fun σ H Q => te σ H fun x H1 => ∃ a d y, x = .ref a ∧ H1 a = some (er a C d) ∧ H1 d = some (.xd [(p, y)]) ∧ Q y H1
structure FlC (K : PySem.W.Frag) (C : Addr) (p : Str) : Prop where
  ga : PySem.W.findIn K (.ref C) "__getattribute__" = some (some (.builtin "BaseException.__getattribute__"))
  gg : PySem.W.findIn K (.ref C) "__getattr__" = some none
  exC : PySem.W.subIn K (.ref C) (.type "BaseException") = some true
  hdC : PySem.W.hasDictIn K C = true
  no : PySem.W.findIn K (.ref C) p = some none
theorem pe_fld (F : FlC X.K C p) (he : PE X e te) (hb : attributeBase e p X.env (eval e X.env) = eval e X.env := by rfl) :
    PE X (.Attribute e p pos) (tFld C p te) := by
  refine ⟨fun pins s σ H Q I h => attr_of hb (thn (he.run pins s σ H _ I h) fun u s1 hh => ?_)⟩
  obtain ⟨x, H1, I1, rx, a, d, y, ex, ha, hd, q⟩ := hh
  subst ex
  obtain rfl : u = Value.ref a := rx
  obtain ⟨t1, ho⟩ := er_at I1.hok ha
  have hx : ObjOk X.prog X.w H1 s1.heap d (.xd [(p, y)]) := I1.hok d _ hd
  obtain ⟨mA, hns, hr⟩ := hx
  obtain ⟨od, ho2, hl⟩ := lookIn_ns hns
  obtain ⟨v, hv, rv⟩ := RelO.some_of (v := y) (o := mA p) (by have z := hr p; simpa [List.lookup] using z)
  exact HandSPX.exc_get I1.kIn (od := some od) ⟨ho, rfl, rfl, ho2⟩ F.ga F.gg F.exC (PySem.W.findObj_own F.hdC F.no rfl (by rw [hl, hv])) (handed_of rv) ⟨y, H1, I1.tok _, rv, q⟩
end
end LX
namespace LX
open PySem PySem.Spec PyProof.Rows L2
/-- what isinstance asks of an error's class -/
structure IsC (K : PySem.W.Frag) (C : Addr) : Prop where
  ga : PySem.W.findIn K (.ref C) "__getattribute__" = some (some (.builtin "BaseException.__getattribute__"))
  gg : PySem.W.findIn K (.ref C) "__getattr__" = some none
  exC : PySem.W.subIn K (.ref C) (.type "BaseException") = some true
  hdC : PySem.W.hasDictIn K C = true
  cl : PySem.W.findIn K (.ref C) "__class__" = some (some (.builtin "object.__class__"))
  obj : PySem.W.mroIn K C (.type "object") = some true
structure IsG (K : PySem.W.Frag) : Prop where
  sp : PySem.W.specialIn K (.builtin "object.__class__") "__get__" = some (some (.builtin "getset_descriptor.__get__"))
  tk : PySem.W.takesIn K (.builtin "object.__class__") = some true
/-- isinstance(e, c), e an error -/
def rIsX (K : PySem.W.Frag) : List V → Hp → VK → Prop := fun xs H Q => ∃ (a C d : Addr) (fs : List (Str × V)) (c : V) (cv : Value) (b : Bool), xs = [.ref a, c] ∧ H a = some (er a C d) ∧ H d = some (.xd fs) ∧ IsC K C ∧ (∀ u, RelV c u → u = cv) ∧ PySem.W.kitOne K (.ref C) cv = some b ∧ Q (.bl b) H
theorem call_isX {X : Cx} (G : IsG X.K) : CallR X (.builtin "isinstance") (rIsX X.K) := by
  intro pins s σ H xs us Q I r h
  obtain ⟨a, C, d, fs, c, cv, b, rfl, ha, hd, T, hcv, e, q⟩ := h
  obtain ⟨u, v, rfl, ru, rv⟩ := vals2 r
  obtain rfl : u = Value.ref a := ru
  have ec := hcv _ rv
  subst ec
  obtain ⟨t1, ho⟩ := er_at I.hok ha
  have hx : ObjOk X.prog X.w H s.heap d (.xd fs) := I.hok d _ hd
  obtain ⟨mA, hns, _⟩ := hx
  obtain ⟨od, ho2, _⟩ := lookIn_ns hns
  have J : PySem.W.InstAt s.heap a (eo C t1 (some d)) C (some od) := ⟨ho, rfl, rfl, ho2⟩
  obtain ⟨cd, hc, _⟩ := PySem.W.any_some T.hdC
  exact PySem.W.kia_one (PySem.W.kitx_exc (by rw [hc]; rfl) T.ga T.gg T.exC T.cl G.sp G.tk T.obj) I.kIn J e (fun z => nomatch z) fun tk => ⟨.bl b, H, I.kept (t' := tk) fun _ _ z => z, rfl, q⟩
end LX
namespace LX
open PySem PySem.Spec PyProof.Rows L2
open PySem.W (KxsFacts)
abbrev keMro : List Value := [.type "KeyError", .type "LookupError", .type "Exception", .type "BaseException", .type "object"]
theorem ke_kxs : KxsFacts "KeyError" "KeyError.__init__" := by
  constructor
  · show builtinType _ = _
    rw [builtinType_eq_fast]
    kernel_rfl
  · first
      | kernel_rfl
      | rfl
theorem ke_pass (self : Value) : refuseLoop self "__setattr__" keMro = pure () := by kernel_rfl
theorem ke_slot : Slot "KeyError" "__init__" "KeyError.__init__" :=
  .of (owner := "KeyError") (n := "__init__") (by (rw [typeLookup_type, builtinLookup_eq_fast]; kernel_rfl)) (by first | rfl | decide +kernel) (by first | rfl | decide +kernel) (by first | rfl | decide +kernel) (by first | exact .inl (by first | rfl | decide +kernel) | exact .inr (by first | rfl | decide +kernel)) (by (rw [isSubtype_type]; kernel_rfl))
theorem ke_in : InF "KeyError" "KeyError.__init__" :=
  ⟨by kernel_rfl, by kernel_rfl, by first | rfl | decide +kernel, ke_slot.plain, entryFor_alias (id' := "BaseException.__init__") (by (rw [fastTable_eq_tree]; kernel_rfl)) (by first | rfl | decide +kernel) (by first | rfl | decide +kernel) (by (rw [fastTable_eq_tree]; kernel_rfl))⟩
end LX
namespace My
open PySem PySem.Spec PyProof.Rows L2 LX
/-! ### the text -/
def top (i : Nat) : Stmt := PySem.Challenge.pw_mendedruns_k07_classes_of_errors.main.body.getD i (.Pass ⟨0, 0, 0, 0⟩)
abbrev sPool : Stmt := top 17
abbrev sDraw : Stmt := top 18
abbrev sOwn : Stmt := top 19
abbrev sUnder : Stmt := top 20
abbrev sFields : Stmt := top 21
abbrev sLaw : Stmt := top 22
theorem scPool : FnScope ["_law_script", "_law_k", "_law_cell", "_law_great", "_law_mixed"] ["_law_script", "_law_k"] (defScope sPool) := ⟨rfl, rfl, rfl, by decide +kernel, rfl, by decide +kernel, by decide +kernel⟩
theorem scDraw : FnScope ["_law_pool_here", "_law_many", "_law_found"] ["_law_pool_here", "_law_many"] (defScope sDraw) := ⟨rfl, rfl, rfl, by decide +kernel, rfl, by decide +kernel, by decide +kernel⟩

/-! ### heaps -/
theorem same_upd {H : Hp} {p : Addr} {o : HO} (h : H p = none) : Same H (upd H p o) := fun b x e => by
  rw [upd_ne (ne_of_none e h)]
  exact e
/-- all that stands elsewhere than at p stays -/
def Off (p : Addr) (H H' : Hp) : Prop := ∀ b o, b ≠ p → H b = some o → H' b = some o
theorem Off.refl (p : Addr) (H : Hp) : Off p H H := fun _ _ _ e => e
theorem Off.trans {p : Addr} {H H1 H2 : Hp} (a : Off p H H1) (b : Off p H1 H2) : Off p H H2 := fun c o n e => b c o n (a c o n e)
theorem Off.of_same {p : Addr} {H H' : Hp} (s : Same H H') : Off p H H' := fun b o _ e => s b o e
theorem Off.upd {p : Addr} {H : Hp} {o : HO} : Off p H (upd H p o) := fun b u n e => by
  rw [upd_ne n]
  exact e
/-- a pool: two numbers -/
def PoolAt (H : Hp) (p : Addr) : Prop := ∃ g m : Int, H p = some (.lst [.int g, .int m]) ∧ 0 ≤ g ∧ 0 ≤ m ∧ m < 2147483647
theorem PoolAt.same {H H' : Hp} {p : Addr} (P : PoolAt H p) (s : Same H H') : PoolAt H' p := by
  obtain ⟨g, m, e, h⟩ := P
  exact ⟨g, m, s _ _ e, h⟩
theorem cut63 {ns : List Int} (h : ns.length ≤ 63) : cutV (ns.map V.int) none (some 63) = ns.map V.int := by
  unfold cutV
  rw [HT.sIx_none, show HT.sIx (ns.map V.int).length (ns.map V.int).length (some 63) = min 63 (ns.map V.int).length from HT.sIx_nat _ _ 63]
  rw [List.drop_zero, List.length_map, Nat.min_eq_right h, Nat.sub_zero]
  exact List.take_of_length_le (by rw [List.length_map]; exact Nat.le_refl _)

structure TxtP (mg : Str → Option Value) : Prop where
  sum : mg "sum" = none
  len : mg "len" = none
  abs : mg "abs" = none
  int : mg "int" = none

def spPool (K : PySem.W.Frag) : Sp := fun vs H Q _ => ∃ (a : Addr) (ns : List Int) (k : Nat), vs = [.ref a, .int (k : Int)] ∧ SqL K H a (ns.map V.int) ∧ ns.length ≤ 63 ∧ k < 64 ∧
  ∀ H' p, Same H H' → H p = none → PoolAt H' p → Q (.ref p) H'
def spDraw : Sp := fun vs H Q _ => ∃ (p : Addr) (n : Int), vs = [.ref p, .int n] ∧ 0 < n ∧ n < 1000 ∧ PoolAt H p ∧
  ∀ (r : Int) (g m : Int), 0 ≤ r → r < n → 0 ≤ g → 0 ≤ m → m < 2147483647 → Q (.int r) (upd H p (.lst [.int g, .int m]))
section
variable {P : Program} {w : World} {K : PySem.W.Frag} {mg : Str → Option Value} {base : Heap}
theorem ok_pool {f : Addr} {fd : FuncData} (F : Fun K "_law_pool" "_law_pool" sPool f fd) (T : TxtP mg) : FnOk P w K mg base CX0 1 f fd ["_law_script", "_law_k"] (spPool K) := by
  refine F.ok scPool (fun vs H Q E h => ?_) (fun cdv A outer s H vs Q E hr h => ?_)
  · obtain ⟨a, ns, k, rfl, _⟩ := h
    rfl
  · obtain ⟨a, ns, k, rfl, hS, hlen, hk, q⟩ := h
    refine ⟨_, pss_cons (ps_set (i := 2) scPool.nd rfl (.inl rfl) (pe_op op_add (pe_op op_mul pe_int (pe_callB (cr_sum rfl) (by rfl) T.sum (by decide +kernel) (pa_cons (pe_slice sl_list (pv 0) po_none (po_some pe_int)) pa_nil))) (pv 1)))
      (C8.pss_cut (ps_if (pt_cmpR op_lt (pv 1) (pe_callB call_len_seq (by rfl) T.len PySem.boot_len (pa_cons (pv 0) pa_nil)) (nomark _)) (pss_one (ps_set (i := 2) scPool.nd rfl (.inl rfl) (pe_ix ix_list (pv 0) (pv 1) (fun _ _ => rfl)))) pss_nil)
      (pss_cons (ps_set (i := 3) scPool.nd rfl (.inl rfl) (pe_callB call_abs (by rfl) T.abs (by decide +kernel) (pa_cons (pv 2) pa_nil)))
      (pss_cons (ps_set (i := 4) scPool.nd rfl (.inl rfl) (pe_op op_mod (pe_op op_mul (pe_op op_add (pe_op op_add (pe_op op_add (pe_op op_mod (pv 3) pe_int) (pe_op op_mul (pe_op op_mul pe_int (pv 1)) (pv 1))) (pe_op op_mul pe_int (pv 1))) pe_int) pe_int) pe_int))
      (pss_one (ps_ret (pe_lst (pa_cons (pe_op op_mul (pv 3) (pe_callTy call_int1 (by rfl) T.int (by decide +kernel) (pa_cons (pe_cmpR op_ge (pv 3) (pe_op op_pow pe_int pe_int) (nomark _)) pa_nil))) (pa_cons (pe_op op_mod (pe_op op_mul (pv 4) (pv 4)) pe_int) pa_nil)))))))), ?_⟩
    refine ⟨.ref a, rfl, 63, rfl, a, _, rfl, hS, fun p np => ?_⟩
    rw [cut63 hlen]
    have s1 : Same H (upd H p (.lst (ns.map V.int))) := same_upd np
    refine ⟨p, ns, rfl, .inl (.inl upd_same), _, _, rfl, rfl, .inl ⟨by decide, by decide⟩, _, rfl, _, _, rfl, rfl, ?_⟩
    refine ⟨fun σ H' => H' = upd H p (.lst (ns.map V.int)) ∧ ∃ c : Int, σ = [some (.ref a), some (.int k), some (.int c), none, none], ?_, ?_⟩
    · refine ⟨_, rfl, _, rfl, a, _, rfl, .inl (s1.seq hS), _, _, rfl, rfl, _, rfl, ?_⟩
      refine ite2 (fun hc => ?_) (fun _ => ?_)
      · have hc' := of_decide_eq_true hc
        rw [List.length_map] at hc'
        have hkn : k < ns.length := by omega
        refine ⟨_, rfl, _, rfl, a, _, _, .int ns[k], rfl, rfl, s1.seq hS, atI_nat ?_, ?_⟩
        · rw [List.getElem?_map, List.getElem?_eq_getElem hkn]
          rfl
        · exact ⟨rfl, ns[k], rfl⟩
      · exact ⟨rfl, _, rfl⟩
    · rintro σ' H' ⟨rfl, c, rfl⟩
      refine ⟨_, rfl, c, rfl, ?_⟩
      have hg : ∃ g : Int, (if c < 0 then -c else c) = g ∧ 0 ≤ g := ⟨_, rfl, by split <;> omega⟩
      obtain ⟨g, eg, hg⟩ := hg
      rw [eg]
      refine ⟨_, rfl, _, _, rfl, rfl, by show (0 : Int) < 2147483629; decide, ?_⟩
      refine ⟨_, rfl, _, _, rfl, rfl, .inl ⟨by decide, by decide⟩, _, rfl, _, _, rfl, rfl, .inr ⟨by omega, by omega⟩, _, _, rfl, rfl, ?_⟩
      refine ⟨_, rfl, _, _, rfl, rfl, .inl ⟨by decide, by decide⟩, _, _, rfl, rfl, _, _, rfl, rfl, _, _, rfl, rfl, .inr ⟨by decide, by decide⟩, _, _, rfl, rfl, by show (0 : Int) < 2147483647; decide, ?_⟩
      have hm := Int.emod_nonneg ((g % 2147483629 + 7919 * (k : Int) * (k : Int) + 31 * (k : Int) + 17) * 48271) (show (2147483647 : Int) ≠ 0 by decide)
      have hm2 := Int.emod_lt_of_pos ((g % 2147483629 + 7919 * (k : Int) * (k : Int) + 31 * (k : Int) + 17) * 48271) (show (0 : Int) < 2147483647 by decide)
      generalize em : (g % 2147483629 + 7919 * (k : Int) * (k : Int) + 31 * (k : Int) + 17) * 48271 % 2147483647 = m at hm hm2
      refine ⟨_, rfl, _, rfl, _, _, rfl, rfl, ⟨by decide, by decide, by decide⟩, _, _, rfl, rfl, .inr ⟨_, rfl, _, _, rfl, rfl, .inr ?_, ?_⟩⟩
      · split <;> exact ⟨by decide, by decide⟩
      refine ⟨_, rfl, _, rfl, _, _, rfl, rfl, .inl ⟨by omega, by omega⟩, _, _, rfl, rfl, by show (0 : Int) < 2147483629; decide, ?_⟩
      refine ⟨by show 2 ≤ sizeLine; decide, fun p2 np2 => ?_⟩
      have np2' : H p2 = none := s1.free np2
      refine q _ p2 (s1.trans (same_upd np2)) np2' ⟨_, _, upd_same, ?_, Int.emod_nonneg _ (by decide), ?_⟩
      · exact Int.mul_nonneg hg (by split <;> decide)
      · have h3 := Int.emod_lt_of_pos (m * m) (show (0 : Int) < 2147483629 by decide)
        omega
theorem ok_draw {f : Addr} {fd : FuncData} (F : Fun K "_law_draw" "_law_draw" sDraw f fd) : FnOk P w K mg base CX0 1 f fd ["_law_pool_here", "_law_many"] spDraw := by
  refine F.ok scDraw (fun vs H Q E h => ?_) (fun cdv A outer s H vs Q E hr h => ?_)
  · obtain ⟨p, n, rfl, _⟩ := h
    rfl
  · obtain ⟨p, n, rfl, hn, hn2, ⟨g, m, hp, hg, hm, hm2⟩, q⟩ := h
    refine ⟨_, pss_cons (ps_if (pt_cmpR op_gt (pe_ix ix_list (pv 0) pe_int (fun _ _ => rfl)) pe_int (nomark _))
        (pss_cons (ps_set (i := 2) scDraw.nd rfl (.inl rfl) (pe_op op_mod (pe_ix ix_list (pv 0) pe_int (fun _ _ => rfl)) (pv 1)))
        (pss_cons (ps_asg (pe_op op_fdiv (pe_ix ix_list (pv 0) pe_int (fun _ _ => rfl)) (pv 1)) (pg_sub (pv 0) pe_int set_list))
        (pss_one (ps_ret (pv 2))))) pss_nil)
      (pss_cons (ps_asg (pe_op op_mod (pe_op op_add (pe_op op_mul (pe_ix ix_list (pv 0) pe_int (fun _ _ => rfl)) pe_int) pe_int) pe_int) (pg_sub (pv 0) pe_int set_list))
      (pss_one (ps_ret (pe_op op_mod (pe_op op_fdiv (pe_op op_mod (pe_op op_mul (pe_ix ix_list (pv 0) pe_int (fun _ _ => rfl)) (pe_ix ix_list (pv 0) pe_int (fun _ _ => rfl))) pe_int) pe_int) (pv 1))))), ?_⟩
    have at0 : atI [V.int g, V.int m] 0 = some (.int g) := rfl
    have at1 : atI [V.int g, V.int m] 1 = some (.int m) := rfl
    have hS : SqL K H p [V.int g, V.int m] := SqL.of hp
    refine ⟨_, rfl, p, _, _, _, rfl, rfl, hS, at0, _, _, rfl, rfl, _, rfl, ?_⟩
    refine ite2 (fun hc => ?_) (fun _ => ?_)
    · refine ⟨_, rfl, p, _, _, _, rfl, rfl, hS, at0, _, rfl, _, _, rfl, rfl, hn, ?_⟩
      refine ⟨_, rfl, p, _, _, _, rfl, rfl, hS, at0, _, rfl, _, _, rfl, rfl, ⟨hn, by omega⟩, ?_⟩
      refine ⟨_, rfl, p, _, _, 0, rfl, rfl, hp, rfl, ?_⟩
      refine ⟨_, rfl, ?_⟩
      exact q _ _ _ (Int.emod_nonneg _ (by omega)) (Int.emod_lt_of_pos _ hn) (Int.ediv_nonneg hg (by omega)) hm hm2
    · refine ⟨_, rfl, p, _, _, _, rfl, rfl, hS, at1, _, _, rfl, rfl, .inr ⟨by decide, by decide⟩, _, _, rfl, rfl, _, _, rfl, rfl, by show (0 : Int) < 2147483647; decide, ?_⟩
      refine ⟨_, rfl, p, _, _, 1, rfl, rfl, hp, rfl, ?_⟩
      have hy := Int.emod_nonneg (m * 48271 + 11) (show (2147483647 : Int) ≠ 0 by decide)
      have hy2 := Int.emod_lt_of_pos (m * 48271 + 11) (show (0 : Int) < 2147483647 by decide)
      have hS2 : SqL K (upd H p (.lst [V.int g, V.int ((m * 48271 + 11) % 2147483647)])) p [V.int g, V.int ((m * 48271 + 11) % 2147483647)] := SqL.of upd_same
      have at2 : atI [V.int g, V.int ((m * 48271 + 11) % 2147483647)] 1 = some (.int ((m * 48271 + 11) % 2147483647)) := rfl
      refine ⟨_, rfl, p, _, _, _, rfl, rfl, hS2, at2, _, rfl, p, _, _, _, rfl, rfl, hS2, at2, _, _, rfl, rfl, .inl ⟨by omega, by omega⟩, _, _, rfl, rfl, by show (0 : Int) < 2147483629; decide, _, _, rfl, rfl, ⟨by decide, by decide⟩, _, rfl, _, _, rfl, rfl, hn, ?_⟩
      exact q _ _ _ (Int.emod_nonneg _ (by omega)) (Int.emod_lt_of_pos _ hn) hg hy hy2
end
end My
namespace My
open PySem PySem.Spec PyProof.Rows L2 LX
theorem scOwn : FnScope ["_law_error", "_law_found"] ["_law_error"] (defScope sOwn) := ⟨rfl, rfl, rfl, by decide +kernel, rfl, by decide +kernel, by decide +kernel⟩
theorem scUnder : FnScope ["_law_error", "_law_found"] ["_law_error"] (defScope sUnder) := ⟨rfl, rfl, rfl, by decide +kernel, rfl, by decide +kernel, by decide +kernel⟩
theorem scFields : FnScope ["_law_a", "_law_found", "_law_named"] ["_law_a"] (defScope sFields) := ⟨rfl, rfl, rfl, by decide +kernel, rfl, by decide +kernel, by decide +kernel⟩
/-- one of the fourteen classes -/
structure EK (prog : Program) (K : PySem.W.Frag) (mg : Str → Option Value) (x p : Str) (C : Addr) : Prop where
  T : ∃ (bm0 : List Value) (B newId initId : String) (bmB : List Value), ExF prog K C bm0 B newId initId bmB x p
  g : mg x = some (.ref C)
  k : PySem.W.keepIn K (.ref C) = true
  F : FlC K C p
  I : IsC K C
/-- the fourteen, their order in the law -/
structure Errs (prog : Program) (K : PySem.W.Frag) (mg : Str → Option Value) (c0 c1 c2 c3 c4 c5 c6 c7 c8 c9 c10 c11 c12 c13 r : Addr) : Prop where
  sup : mg "super" = none
  G : IsG K
  e0 : EK prog K mg "InvalidProgram" "place" c0
  e1 : EK prog K mg "InvalidState" "value" c1
  e2 : EK prog K mg "InvalidArguments" "value" c2
  e3 : EK prog K mg "InvalidExpression" "value" c3
  e4 : EK prog K mg "InvalidTrace" "value" c4
  e5 : EK prog K mg "InvalidCount" "value" c5
  e6 : EK prog K mg "InvalidName" "value" c6
  e7 : EK prog K mg "InvalidCommand" "line" c7
  e8 : EK prog K mg "ParseError" "text" c8
  e9 : EK prog K mg "Broken" "index" c9
  e10 : EK prog K mg "UnknownName" "name" c10
  e11 : EK prog K mg "NameTaken" "name" c11
  e12 : EK prog K mg "UnknownMoment" "value" c12
  e13 : EK prog K mg "LimitExceeded" "count" c13
  gr : mg "RunError" = some (.ref r)
  own : ∀ (i j : Nat) (Ci Cj : Addr), [c0, c1, c2, c3, c4, c5, c6, c7, c8, c9, c10, c11, c12, c13][i]? = some Ci → [c0, c1, c2, c3, c4, c5, c6, c7, c8, c9, c10, c11, c12, c13][j]? = some Cj → PySem.W.kitOne K (.ref Cj) (.ref Ci) = some (decide (i = j))
  und : ∀ (i j : Nat) (v : Value) (Cj : Addr), [.ref r, .type "ValueError", .type "LookupError", .type "KeyError", .type "IndexError", .type "OverflowError"][i]? = some v → [c0, c1, c2, c3, c4, c5, c6, c7, c8, c9, c10, c11, c12, c13][j]? = some Cj → PySem.W.kitOne K (.ref Cj) v =
    some (([[decide (j < 10)], [decide (j < 10)], [decide (10 ≤ j && j < 13)], [decide (j = 10)], [decide (j = 12)], [decide (j = 13)]].flatten).getD i false)
structure TxtB (mg : Str → Option Value) : Prop where
  isi : mg "isinstance" = none
  ve : mg "ValueError" = none
  le : mg "LookupError" = none
  ke : mg "KeyError" = none
  ie : mg "IndexError" = none
  oe : mg "OverflowError" = none
/-- an error, the j-th of these classes -/
def ErAt (K : PySem.W.Frag) (cs : List Addr) (H : Hp) (v : V) (j : Nat) : Prop := ∃ (a C d : Addr) (fs : List (Str × V)), v = .ref a ∧ cs[j]? = some C ∧ H a = some (er a C d) ∧ H d = some (.xd fs) ∧ IsC K C
theorem ErAt.same {K : PySem.W.Frag} {cs : List Addr} {H H' : Hp} {v : V} {j : Nat} (e : ErAt K cs H v j) (s : Same H H') : ErAt K cs H' v j := by
  obtain ⟨a, C, d, fs, e1, e2, e3, e4, e5⟩ := e
  exact ⟨a, C, d, fs, e1, e2, s _ _ e3, s _ _ e4, e5⟩
theorem none_of {H H' : Hp} {r : Addr} (s : Same H H') (h : H' r = none) : H r = none := by
  cases e : H r with
  | none => rfl
  | some o =>
    have z := s r o e
    rw [h] at z
    cases z
def ownL (j : Nat) : List V := (List.range 14).map fun i => V.bl (decide (i = j))
def undL (j : Nat) : List V := [.bl (decide (j < 10)), .bl (decide (j < 10)), .bl (decide (10 ≤ j && j < 13)), .bl (decide (j = 10)), .bl (decide (j = 12)), .bl (decide (j = 13))]
def spOwn (K : PySem.W.Frag) (cs : List Addr) : Sp := fun vs H Q _ => ∃ (v : V) (j : Nat), vs = [v] ∧ ErAt K cs H v j ∧ ∀ H' r, Same H H' → H r = none → H' r = some (.lst (ownL j)) → Q (.ref r) H'
def spUnder (K : PySem.W.Frag) (cs : List Addr) : Sp := fun vs H Q _ => ∃ (v : V) (j : Nat), vs = [v] ∧ ErAt K cs H v j ∧ ∀ H' r, Same H H' → H r = none → H' r = some (.lst (undL j)) → Q (.ref r) H'
section
variable {P : Program} {w : World} {K : PySem.W.Frag} {mg : Str → Option Value} {base : Heap} {c0 c1 c2 c3 c4 c5 c6 c7 c8 c9 c10 c11 c12 c13 r : Addr}
theorem ok_own {f : Addr} {fd : FuncData} (F : Fun K "_law_own" "_law_own" sOwn f fd) (T : TxtB mg) (ES : Errs P K mg c0 c1 c2 c3 c4 c5 c6 c7 c8 c9 c10 c11 c12 c13 r) : FnOk P w K mg base CX0 1 f fd ["_law_error"] (spOwn K [c0, c1, c2, c3, c4, c5, c6, c7, c8, c9, c10, c11, c12, c13]) := by
  refine F.ok scOwn (fun vs H Q E h => ?_) (fun cdv A outer s H vs Q E hr h => ?_)
  · obtain ⟨v, j, rfl, _⟩ := h
    rfl
  · obtain ⟨v, j, rfl, ⟨a, C, d, fs, rfl, hj, ha, hd, IC⟩, q⟩ := h
    refine ⟨_, (pss_cons (ps_set (i := 1) scOwn.nd rfl (.inl rfl) (pe_lst (pa_cons (pe_callB (call_isX ES.G) (by rfl) T.isi PyProof.Rows.boot_isinstance (pa_cons (pv 0) (pa_cons (pe_glob (v := .ref c0) (by rfl) ES.e0.g rfl) pa_nil))) (pa_cons (pe_callB (call_isX ES.G) (by rfl) T.isi PyProof.Rows.boot_isinstance (pa_cons (pv 0) (pa_cons (pe_glob (v := .ref c1) (by rfl) ES.e1.g rfl) pa_nil))) (pa_cons (pe_callB (call_isX ES.G) (by rfl) T.isi PyProof.Rows.boot_isinstance (pa_cons (pv 0) (pa_cons (pe_glob (v := .ref c2) (by rfl) ES.e2.g rfl) pa_nil))) pa_nil)))))
      (pss_cons (ps_set (i := 1) scOwn.nd rfl (.inl rfl) (pe_op op_cat (pv 1) (pe_lst (pa_cons (pe_callB (call_isX ES.G) (by rfl) T.isi PyProof.Rows.boot_isinstance (pa_cons (pv 0) (pa_cons (pe_glob (v := .ref c3) (by rfl) ES.e3.g rfl) pa_nil))) (pa_cons (pe_callB (call_isX ES.G) (by rfl) T.isi PyProof.Rows.boot_isinstance (pa_cons (pv 0) (pa_cons (pe_glob (v := .ref c4) (by rfl) ES.e4.g rfl) pa_nil))) pa_nil)))))
      (pss_cons (ps_set (i := 1) scOwn.nd rfl (.inl rfl) (pe_op op_cat (pv 1) (pe_lst (pa_cons (pe_callB (call_isX ES.G) (by rfl) T.isi PyProof.Rows.boot_isinstance (pa_cons (pv 0) (pa_cons (pe_glob (v := .ref c5) (by rfl) ES.e5.g rfl) pa_nil))) (pa_cons (pe_callB (call_isX ES.G) (by rfl) T.isi PyProof.Rows.boot_isinstance (pa_cons (pv 0) (pa_cons (pe_glob (v := .ref c6) (by rfl) ES.e6.g rfl) pa_nil))) pa_nil)))))
      (pss_cons (ps_set (i := 1) scOwn.nd rfl (.inl rfl) (pe_op op_cat (pv 1) (pe_lst (pa_cons (pe_callB (call_isX ES.G) (by rfl) T.isi PyProof.Rows.boot_isinstance (pa_cons (pv 0) (pa_cons (pe_glob (v := .ref c7) (by rfl) ES.e7.g rfl) pa_nil))) (pa_cons (pe_callB (call_isX ES.G) (by rfl) T.isi PyProof.Rows.boot_isinstance (pa_cons (pv 0) (pa_cons (pe_glob (v := .ref c8) (by rfl) ES.e8.g rfl) pa_nil))) (pa_cons (pe_callB (call_isX ES.G) (by rfl) T.isi PyProof.Rows.boot_isinstance (pa_cons (pv 0) (pa_cons (pe_glob (v := .ref c9) (by rfl) ES.e9.g rfl) pa_nil))) pa_nil))))))
      (pss_cons (ps_set (i := 1) scOwn.nd rfl (.inl rfl) (pe_op op_cat (pv 1) (pe_lst (pa_cons (pe_callB (call_isX ES.G) (by rfl) T.isi PyProof.Rows.boot_isinstance (pa_cons (pv 0) (pa_cons (pe_glob (v := .ref c10) (by rfl) ES.e10.g rfl) pa_nil))) (pa_cons (pe_callB (call_isX ES.G) (by rfl) T.isi PyProof.Rows.boot_isinstance (pa_cons (pv 0) (pa_cons (pe_glob (v := .ref c11) (by rfl) ES.e11.g rfl) pa_nil))) pa_nil)))))
      (pss_one (ps_ret (pe_op op_cat (pv 1) (pe_lst (pa_cons (pe_callB (call_isX ES.G) (by rfl) T.isi PyProof.Rows.boot_isinstance (pa_cons (pv 0) (pa_cons (pe_glob (v := .ref c12) (by rfl) ES.e12.g rfl) pa_nil))) (pa_cons (pe_callB (call_isX ES.G) (by rfl) T.isi PyProof.Rows.boot_isinstance (pa_cons (pv 0) (pa_cons (pe_glob (v := .ref c13) (by rfl) ES.e13.g rfl) pa_nil))) pa_nil))))))))))), ?_⟩
    have s0 : Same H H := Same.refl H
    refine ⟨_, rfl, a, C, d, fs, _, _, _, rfl, s0 _ _ ha, s0 _ _ hd, IC, fun u e => e, ES.own 0 j _ _ rfl hj, ?_⟩
    refine ⟨_, rfl, a, C, d, fs, _, _, _, rfl, s0 _ _ ha, s0 _ _ hd, IC, fun u e => e, ES.own 1 j _ _ rfl hj, ?_⟩
    refine ⟨_, rfl, a, C, d, fs, _, _, _, rfl, s0 _ _ ha, s0 _ _ hd, IC, fun u e => e, ES.own 2 j _ _ rfl hj, ?_⟩
    refine ⟨by show 3 ≤ sizeLine; decide, fun p1 np1 => ?_⟩
    have t1 := s0.trans (same_upd (o := .lst [V.bl (decide (0 = j)), V.bl (decide (1 = j)), V.bl (decide (2 = j))]) np1)
    refine ⟨_, rfl, ?_⟩
    refine ⟨_, rfl, a, C, d, fs, _, _, _, rfl, t1 _ _ ha, t1 _ _ hd, IC, fun u e => e, ES.own 3 j _ _ rfl hj, ?_⟩
    refine ⟨_, rfl, a, C, d, fs, _, _, _, rfl, t1 _ _ ha, t1 _ _ hd, IC, fun u e => e, ES.own 4 j _ _ rfl hj, ?_⟩
    refine ⟨by show 2 ≤ sizeLine; decide, fun p2 np2 => ?_⟩
    have t2 := t1.trans (same_upd (o := .lst [V.bl (decide (3 = j)), V.bl (decide (4 = j))]) np2)
    refine ⟨_, _, _, _, rfl, rfl, same_upd (o := .lst [V.bl (decide (3 = j)), V.bl (decide (4 = j))]) np2 _ _ upd_same, upd_same, by show 5 ≤ sizeLine; decide, fun r2 nr2 => ?_⟩
    have u2 := t2.trans (same_upd (o := .lst [V.bl (decide (0 = j)), V.bl (decide (1 = j)), V.bl (decide (2 = j)), V.bl (decide (3 = j)), V.bl (decide (4 = j))]) nr2)
    refine ⟨_, rfl, ?_⟩
    refine ⟨_, rfl, a, C, d, fs, _, _, _, rfl, u2 _ _ ha, u2 _ _ hd, IC, fun u e => e, ES.own 5 j _ _ rfl hj, ?_⟩
    refine ⟨_, rfl, a, C, d, fs, _, _, _, rfl, u2 _ _ ha, u2 _ _ hd, IC, fun u e => e, ES.own 6 j _ _ rfl hj, ?_⟩
    refine ⟨by show 2 ≤ sizeLine; decide, fun p3 np3 => ?_⟩
    have t3 := u2.trans (same_upd (o := .lst [V.bl (decide (5 = j)), V.bl (decide (6 = j))]) np3)
    refine ⟨_, _, _, _, rfl, rfl, same_upd (o := .lst [V.bl (decide (5 = j)), V.bl (decide (6 = j))]) np3 _ _ upd_same, upd_same, by show 7 ≤ sizeLine; decide, fun r3 nr3 => ?_⟩
    have u3 := t3.trans (same_upd (o := .lst [V.bl (decide (0 = j)), V.bl (decide (1 = j)), V.bl (decide (2 = j)), V.bl (decide (3 = j)), V.bl (decide (4 = j)), V.bl (decide (5 = j)), V.bl (decide (6 = j))]) nr3)
    refine ⟨_, rfl, ?_⟩
    refine ⟨_, rfl, a, C, d, fs, _, _, _, rfl, u3 _ _ ha, u3 _ _ hd, IC, fun u e => e, ES.own 7 j _ _ rfl hj, ?_⟩
    refine ⟨_, rfl, a, C, d, fs, _, _, _, rfl, u3 _ _ ha, u3 _ _ hd, IC, fun u e => e, ES.own 8 j _ _ rfl hj, ?_⟩
    refine ⟨_, rfl, a, C, d, fs, _, _, _, rfl, u3 _ _ ha, u3 _ _ hd, IC, fun u e => e, ES.own 9 j _ _ rfl hj, ?_⟩
    refine ⟨by show 3 ≤ sizeLine; decide, fun p4 np4 => ?_⟩
    have t4 := u3.trans (same_upd (o := .lst [V.bl (decide (7 = j)), V.bl (decide (8 = j)), V.bl (decide (9 = j))]) np4)
    refine ⟨_, _, _, _, rfl, rfl, same_upd (o := .lst [V.bl (decide (7 = j)), V.bl (decide (8 = j)), V.bl (decide (9 = j))]) np4 _ _ upd_same, upd_same, by show 10 ≤ sizeLine; decide, fun r4 nr4 => ?_⟩
    have u4 := t4.trans (same_upd (o := .lst [V.bl (decide (0 = j)), V.bl (decide (1 = j)), V.bl (decide (2 = j)), V.bl (decide (3 = j)), V.bl (decide (4 = j)), V.bl (decide (5 = j)), V.bl (decide (6 = j)), V.bl (decide (7 = j)), V.bl (decide (8 = j)), V.bl (decide (9 = j))]) nr4)
    refine ⟨_, rfl, ?_⟩
    refine ⟨_, rfl, a, C, d, fs, _, _, _, rfl, u4 _ _ ha, u4 _ _ hd, IC, fun u e => e, ES.own 10 j _ _ rfl hj, ?_⟩
    refine ⟨_, rfl, a, C, d, fs, _, _, _, rfl, u4 _ _ ha, u4 _ _ hd, IC, fun u e => e, ES.own 11 j _ _ rfl hj, ?_⟩
    refine ⟨by show 2 ≤ sizeLine; decide, fun p5 np5 => ?_⟩
    have t5 := u4.trans (same_upd (o := .lst [V.bl (decide (10 = j)), V.bl (decide (11 = j))]) np5)
    refine ⟨_, _, _, _, rfl, rfl, same_upd (o := .lst [V.bl (decide (10 = j)), V.bl (decide (11 = j))]) np5 _ _ upd_same, upd_same, by show 12 ≤ sizeLine; decide, fun r5 nr5 => ?_⟩
    have u5 := t5.trans (same_upd (o := .lst [V.bl (decide (0 = j)), V.bl (decide (1 = j)), V.bl (decide (2 = j)), V.bl (decide (3 = j)), V.bl (decide (4 = j)), V.bl (decide (5 = j)), V.bl (decide (6 = j)), V.bl (decide (7 = j)), V.bl (decide (8 = j)), V.bl (decide (9 = j)), V.bl (decide (10 = j)), V.bl (decide (11 = j))]) nr5)
    refine ⟨_, rfl, ?_⟩
    refine ⟨_, rfl, a, C, d, fs, _, _, _, rfl, u5 _ _ ha, u5 _ _ hd, IC, fun u e => e, ES.own 12 j _ _ rfl hj, ?_⟩
    refine ⟨_, rfl, a, C, d, fs, _, _, _, rfl, u5 _ _ ha, u5 _ _ hd, IC, fun u e => e, ES.own 13 j _ _ rfl hj, ?_⟩
    refine ⟨by show 2 ≤ sizeLine; decide, fun p6 np6 => ?_⟩
    have t6 := u5.trans (same_upd (o := .lst [V.bl (decide (12 = j)), V.bl (decide (13 = j))]) np6)
    refine ⟨_, _, _, _, rfl, rfl, same_upd (o := .lst [V.bl (decide (12 = j)), V.bl (decide (13 = j))]) np6 _ _ upd_same, upd_same, by show 14 ≤ sizeLine; decide, fun r6 nr6 => ?_⟩
    have u6 := t6.trans (same_upd (o := .lst [V.bl (decide (0 = j)), V.bl (decide (1 = j)), V.bl (decide (2 = j)), V.bl (decide (3 = j)), V.bl (decide (4 = j)), V.bl (decide (5 = j)), V.bl (decide (6 = j)), V.bl (decide (7 = j)), V.bl (decide (8 = j)), V.bl (decide (9 = j)), V.bl (decide (10 = j)), V.bl (decide (11 = j)), V.bl (decide (12 = j)), V.bl (decide (13 = j))]) nr6)
    exact q _ _ u6 (none_of t6 nr6) upd_same
theorem ok_under {f : Addr} {fd : FuncData} (F : Fun K "_law_under" "_law_under" sUnder f fd) (T : TxtB mg) (ES : Errs P K mg c0 c1 c2 c3 c4 c5 c6 c7 c8 c9 c10 c11 c12 c13 r) : FnOk P w K mg base CX0 1 f fd ["_law_error"] (spUnder K [c0, c1, c2, c3, c4, c5, c6, c7, c8, c9, c10, c11, c12, c13]) := by
  refine F.ok scUnder (fun vs H Q E h => ?_) (fun cdv A outer s H vs Q E hr h => ?_)
  · obtain ⟨v, j, rfl, _⟩ := h
    rfl
  · obtain ⟨v, j, rfl, ⟨a, C, d, fs, rfl, hj, ha, hd, IC⟩, q⟩ := h
    refine ⟨_, (pss_cons (ps_set (i := 1) scUnder.nd rfl (.inl rfl) (pe_lst (pa_cons (pe_callB (call_isX ES.G) (by rfl) T.isi PyProof.Rows.boot_isinstance (pa_cons (pv 0) (pa_cons (pe_glob (v := .ref r) (by rfl) ES.gr rfl) pa_nil))) (pa_cons (pe_callB (call_isX ES.G) (by rfl) T.isi PyProof.Rows.boot_isinstance (pa_cons (pv 0) (pa_cons (pe_bltn (v := .ty "ValueError") (by rfl) T.ve (by decide +kernel) rfl) pa_nil))) (pa_cons (pe_callB (call_isX ES.G) (by rfl) T.isi PyProof.Rows.boot_isinstance (pa_cons (pv 0) (pa_cons (pe_bltn (v := .ty "LookupError") (by rfl) T.le (by decide +kernel) rfl) pa_nil))) pa_nil)))))
      (pss_one (ps_ret (pe_op op_cat (pv 1) (pe_lst (pa_cons (pe_callB (call_isX ES.G) (by rfl) T.isi PyProof.Rows.boot_isinstance (pa_cons (pv 0) (pa_cons (pe_bltn (v := .ty "KeyError") (by rfl) T.ke (by decide +kernel) rfl) pa_nil))) (pa_cons (pe_callB (call_isX ES.G) (by rfl) T.isi PyProof.Rows.boot_isinstance (pa_cons (pv 0) (pa_cons (pe_bltn (v := .ty "IndexError") (by rfl) T.ie (by decide +kernel) rfl) pa_nil))) (pa_cons (pe_callB (call_isX ES.G) (by rfl) T.isi PyProof.Rows.boot_isinstance (pa_cons (pv 0) (pa_cons (pe_bltn (v := .ty "OverflowError") (by rfl) T.oe (by decide +kernel) rfl) pa_nil))) pa_nil)))))))), ?_⟩
    have s0 : Same H H := Same.refl H
    refine ⟨_, rfl, a, C, d, fs, _, _, _, rfl, s0 _ _ ha, s0 _ _ hd, IC, fun u e => e, ES.und 0 j _ _ rfl hj, ?_⟩
    refine ⟨_, rfl, a, C, d, fs, _, _, _, rfl, s0 _ _ ha, s0 _ _ hd, IC, fun u e => e, ES.und 1 j _ _ rfl hj, ?_⟩
    refine ⟨_, rfl, a, C, d, fs, _, _, _, rfl, s0 _ _ ha, s0 _ _ hd, IC, fun u e => e, ES.und 2 j _ _ rfl hj, ?_⟩
    refine ⟨by show 3 ≤ sizeLine; decide, fun p1 np1 => ?_⟩
    have t1 := s0.trans (same_upd (o := .lst [V.bl (decide (j < 10)), V.bl (decide (j < 10)), V.bl (decide (10 ≤ j && j < 13))]) np1)
    refine ⟨_, rfl, ?_⟩
    refine ⟨_, rfl, a, C, d, fs, _, _, _, rfl, t1 _ _ ha, t1 _ _ hd, IC, fun u e => e, ES.und 3 j _ _ rfl hj, ?_⟩
    refine ⟨_, rfl, a, C, d, fs, _, _, _, rfl, t1 _ _ ha, t1 _ _ hd, IC, fun u e => e, ES.und 4 j _ _ rfl hj, ?_⟩
    refine ⟨_, rfl, a, C, d, fs, _, _, _, rfl, t1 _ _ ha, t1 _ _ hd, IC, fun u e => e, ES.und 5 j _ _ rfl hj, ?_⟩
    refine ⟨by show 3 ≤ sizeLine; decide, fun p2 np2 => ?_⟩
    have t2 := t1.trans (same_upd (o := .lst [V.bl (decide (j = 10)), V.bl (decide (j = 12)), V.bl (decide (j = 13))]) np2)
    refine ⟨_, _, _, _, rfl, rfl, same_upd (o := .lst [V.bl (decide (j = 10)), V.bl (decide (j = 12)), V.bl (decide (j = 13))]) np2 _ _ upd_same, upd_same, by show 6 ≤ sizeLine; decide, fun r2 nr2 => ?_⟩
    have u2 := t2.trans (same_upd (o := .lst [V.bl (decide (j < 10)), V.bl (decide (j < 10)), V.bl (decide (10 ≤ j && j < 13)), V.bl (decide (j = 10)), V.bl (decide (j = 12)), V.bl (decide (j = 13))]) nr2)
    exact q _ _ u2 (none_of t2 nr2) upd_same
end
end My
namespace My
open PySem PySem.Spec PyProof.Rows L2 LX
theorem same2 {H : Hp} {a d : Addr} {oa od : HO} (na : H a = none) (nd : H d = none) (ne : d ≠ a) : Same H (upd (upd H d od) a oa) :=
  (same_upd nd).trans (same_upd (by rw [upd_ne (Ne.symm ne)]; exact na))
/-- x, with its data, wherever the heap grows -/
def Av (K : PySem.W.Frag) (H : Hp) (x : V) (dx : PyData) : Prop := ∀ H', Same H H' → Dp K H' x dx
theorem Av.same {K : PySem.W.Frag} {H H' : Hp} {x : V} {dx : PyData} (a : Av K H x dx) (s : Same H H') : Av K H' x dx := fun H2 s2 => a H2 (s.trans s2)
theorem dp_rep {K : PySem.W.Frag} {H : Hp} {x : V} {dx : PyData} (a : Dp K H x dx) : ∀ n : Nat, DpAll K H (List.replicate n x) (List.replicate n dx)
  | 0 => .nil
  | n + 1 => .cons a (dp_rep a n)
def spFields (K : PySem.W.Frag) : Sp := fun vs H Q _ => ∃ (x : V) (dx : PyData), vs = [x] ∧ Av K H x dx ∧ SeqAt.shaped (.list (List.replicate 14 dx)) = true ∧ PyData.eqv (.list (List.replicate 14 dx)) (.list (List.replicate 14 dx)) = true ∧
  ∀ H', Same H H' → Q (.bl true) H'
section
variable {P : Program} {w : World} {K : PySem.W.Frag} {mg : Str → Option Value} {base : Heap} {c0 c1 c2 c3 c4 c5 c6 c7 c8 c9 c10 c11 c12 c13 r : Addr}
theorem ok_fields {f : Addr} {fd : FuncData} (F : Fun K "_law_fields_hold" "_law_fields_hold" sFields f fd) (ES : Errs P K mg c0 c1 c2 c3 c4 c5 c6 c7 c8 c9 c10 c11 c12 c13 r) : FnOk P w K mg base CX0 3 f fd ["_law_a"] (spFields K) := by
  refine F.ok scFields (fun vs H Q E h => ?_) (fun cdv A outer s H vs Q E hr h => ?_)
  · obtain ⟨x, dx, rfl, _⟩ := h
    rfl
  · obtain ⟨x, dx, rfl, av, sh, eq, q⟩ := h
    obtain ⟨b0, B0, n0, i0, m0, T0⟩ := ES.e0.T
    obtain ⟨b1, B1, n1, i1, m1, T1⟩ := ES.e1.T
    obtain ⟨b2, B2, n2, i2, m2, T2⟩ := ES.e2.T
    obtain ⟨b3, B3, n3, i3, m3, T3⟩ := ES.e3.T
    obtain ⟨b4, B4, n4, i4, m4, T4⟩ := ES.e4.T
    obtain ⟨b5, B5, n5, i5, m5, T5⟩ := ES.e5.T
    obtain ⟨b6, B6, n6, i6, m6, T6⟩ := ES.e6.T
    obtain ⟨b7, B7, n7, i7, m7, T7⟩ := ES.e7.T
    obtain ⟨b8, B8, n8, i8, m8, T8⟩ := ES.e8.T
    obtain ⟨b9, B9, n9, i9, m9, T9⟩ := ES.e9.T
    obtain ⟨b10, B10, n10, i10, m10, T10⟩ := ES.e10.T
    obtain ⟨b11, B11, n11, i11, m11, T11⟩ := ES.e11.T
    obtain ⟨b12, B12, n12, i12, m12, T12⟩ := ES.e12.T
    obtain ⟨b13, B13, n13, i13, m13, T13⟩ := ES.e13.T
    refine ⟨_, (pss_cons (ps_set (i := 1) scFields.nd rfl (.inl rfl) (pe_lst (pa_cons (pe_fld ES.e0.F (pe_nw T0 hr ES.sup ES.e0.g ES.e0.k (by rfl) (pv 0))) (pa_cons (pe_fld ES.e1.F (pe_nw T1 hr ES.sup ES.e1.g ES.e1.k (by rfl) (pv 0))) (pa_cons (pe_fld ES.e2.F (pe_nw T2 hr ES.sup ES.e2.g ES.e2.k (by rfl) (pv 0))) (pa_cons (pe_fld ES.e3.F (pe_nw T3 hr ES.sup ES.e3.g ES.e3.k (by rfl) (pv 0))) pa_nil))))))
      (pss_cons (ps_set (i := 1) scFields.nd rfl (.inl rfl) (pe_op op_cat (pv 1) (pe_lst (pa_cons (pe_fld ES.e4.F (pe_nw T4 hr ES.sup ES.e4.g ES.e4.k (by rfl) (pv 0))) (pa_cons (pe_fld ES.e5.F (pe_nw T5 hr ES.sup ES.e5.g ES.e5.k (by rfl) (pv 0))) (pa_cons (pe_fld ES.e6.F (pe_nw T6 hr ES.sup ES.e6.g ES.e6.k (by rfl) (pv 0))) (pa_cons (pe_fld ES.e7.F (pe_nw T7 hr ES.sup ES.e7.g ES.e7.k (by rfl) (pv 0))) pa_nil)))))))
      (pss_cons (ps_set (i := 1) scFields.nd rfl (.inl rfl) (pe_op op_cat (pv 1) (pe_lst (pa_cons (pe_fld ES.e8.F (pe_nw T8 hr ES.sup ES.e8.g ES.e8.k (by rfl) (pv 0))) (pa_cons (pe_fld ES.e9.F (pe_nw T9 hr ES.sup ES.e9.g ES.e9.k (by rfl) (pv 0))) (pa_cons (pe_fld ES.e10.F (pe_nw T10 hr ES.sup ES.e10.g ES.e10.k (by rfl) (pv 0))) (pa_cons (pe_fld ES.e11.F (pe_nw T11 hr ES.sup ES.e11.g ES.e11.k (by rfl) (pv 0))) pa_nil)))))))
      (pss_cons (ps_set (i := 1) scFields.nd rfl (.inl rfl) (pe_op op_cat (pv 1) (pe_lst (pa_cons (pe_fld ES.e12.F (pe_nw T12 hr ES.sup ES.e12.g ES.e12.k (by rfl) (pv 0))) (pa_cons (pe_fld ES.e13.F (pe_nw T13 hr ES.sup ES.e13.g ES.e13.k (by rfl) (pv 0))) pa_nil)))))
      (pss_cons (ps_set (i := 2) scFields.nd rfl (.inl rfl) (pe_lst (pa_cons (pe_fld ES.e0.F (pe_nwK T0 hr ES.sup ES.e0.g ES.e0.k (by rfl) (pv 0))) (pa_cons (pe_fld ES.e1.F (pe_nwK T1 hr ES.sup ES.e1.g ES.e1.k (by rfl) (pv 0))) (pa_cons (pe_fld ES.e2.F (pe_nwK T2 hr ES.sup ES.e2.g ES.e2.k (by rfl) (pv 0))) pa_nil)))))
      (pss_cons (ps_set (i := 2) scFields.nd rfl (.inl rfl) (pe_op op_cat (pv 2) (pe_lst (pa_cons (pe_fld ES.e3.F (pe_nwK T3 hr ES.sup ES.e3.g ES.e3.k (by rfl) (pv 0))) (pa_cons (pe_fld ES.e4.F (pe_nwK T4 hr ES.sup ES.e4.g ES.e4.k (by rfl) (pv 0))) (pa_cons (pe_fld ES.e5.F (pe_nwK T5 hr ES.sup ES.e5.g ES.e5.k (by rfl) (pv 0))) pa_nil))))))
      (pss_cons (ps_set (i := 2) scFields.nd rfl (.inl rfl) (pe_op op_cat (pv 2) (pe_lst (pa_cons (pe_fld ES.e6.F (pe_nwK T6 hr ES.sup ES.e6.g ES.e6.k (by rfl) (pv 0))) (pa_cons (pe_fld ES.e7.F (pe_nwK T7 hr ES.sup ES.e7.g ES.e7.k (by rfl) (pv 0))) (pa_cons (pe_fld ES.e8.F (pe_nwK T8 hr ES.sup ES.e8.g ES.e8.k (by rfl) (pv 0))) pa_nil))))))
      (pss_cons (ps_set (i := 2) scFields.nd rfl (.inl rfl) (pe_op op_cat (pv 2) (pe_lst (pa_cons (pe_fld ES.e9.F (pe_nwK T9 hr ES.sup ES.e9.g ES.e9.k (by rfl) (pv 0))) (pa_cons (pe_fld ES.e10.F (pe_nwK T10 hr ES.sup ES.e10.g ES.e10.k (by rfl) (pv 0))) (pa_cons (pe_fld ES.e11.F (pe_nwK T11 hr ES.sup ES.e11.g ES.e11.k (by rfl) (pv 0))) pa_nil))))))
      (pss_cons (ps_set (i := 2) scFields.nd rfl (.inl rfl) (pe_op op_cat (pv 2) (pe_lst (pa_cons (pe_fld ES.e12.F (pe_nwK T12 hr ES.sup ES.e12.g ES.e12.k (by rfl) (pv 0))) (pa_cons (pe_fld ES.e13.F (pe_nwK T13 hr ES.sup ES.e13.g ES.e13.k (by rfl) (pv 0))) pa_nil)))))
      (pss_one (ps_ret (pe_and (pe_cmpR (op_eqD hr.units) (pv 1) (pe_op op_rep (pe_lst (pa_cons (pv 0) pa_nil)) pe_int) (nomark _)) (pe_one (pe_cmpR (op_eqD hr.units) (pv 2) (pv 1) (nomark _))))))))))))))), ?_⟩
    have s0 : Same H H := Same.refl H
    refine ⟨_, rfl, fun a1 d1 na1 nd1 ne1 => ⟨a1, d1, x, rfl, upd_same, (upd_ne ne1).trans upd_same, ?_⟩⟩
    have t1 := same2 (oa := er a1 c0 d1) (od := .xd [("place", x)]) na1 nd1 ne1
    refine ⟨_, rfl, fun a2 d2 na2 nd2 ne2 => ⟨a2, d2, x, rfl, upd_same, (upd_ne ne2).trans upd_same, ?_⟩⟩
    have t2 := same2 (oa := er a2 c1 d2) (od := .xd [("value", x)]) na2 nd2 ne2
    refine ⟨_, rfl, fun a3 d3 na3 nd3 ne3 => ⟨a3, d3, x, rfl, upd_same, (upd_ne ne3).trans upd_same, ?_⟩⟩
    have t3 := same2 (oa := er a3 c2 d3) (od := .xd [("value", x)]) na3 nd3 ne3
    refine ⟨_, rfl, fun a4 d4 na4 nd4 ne4 => ⟨a4, d4, x, rfl, upd_same, (upd_ne ne4).trans upd_same, ?_⟩⟩
    have t4 := same2 (oa := er a4 c3 d4) (od := .xd [("value", x)]) na4 nd4 ne4
    refine ⟨by show 4 ≤ sizeLine; decide, fun p5 np5 => ?_⟩
    have t5 := same_upd (o := .lst [x, x, x, x]) np5
    have g5 := ((((t1).trans t2).trans t3).trans t4).trans t5
    have s5 := s0.trans g5
    refine ⟨_, rfl, ?_⟩
    refine ⟨_, rfl, fun a6 d6 na6 nd6 ne6 => ⟨a6, d6, x, rfl, upd_same, (upd_ne ne6).trans upd_same, ?_⟩⟩
    have t6 := same2 (oa := er a6 c4 d6) (od := .xd [("value", x)]) na6 nd6 ne6
    refine ⟨_, rfl, fun a7 d7 na7 nd7 ne7 => ⟨a7, d7, x, rfl, upd_same, (upd_ne ne7).trans upd_same, ?_⟩⟩
    have t7 := same2 (oa := er a7 c5 d7) (od := .xd [("value", x)]) na7 nd7 ne7
    refine ⟨_, rfl, fun a8 d8 na8 nd8 ne8 => ⟨a8, d8, x, rfl, upd_same, (upd_ne ne8).trans upd_same, ?_⟩⟩
    have t8 := same2 (oa := er a8 c6 d8) (od := .xd [("value", x)]) na8 nd8 ne8
    refine ⟨_, rfl, fun a9 d9 na9 nd9 ne9 => ⟨a9, d9, x, rfl, upd_same, (upd_ne ne9).trans upd_same, ?_⟩⟩
    have t9 := same2 (oa := er a9 c7 d9) (od := .xd [("line", x)]) na9 nd9 ne9
    refine ⟨by show 4 ≤ sizeLine; decide, fun p10 np10 => ?_⟩
    have t10 := same_upd (o := .lst [x, x, x, x]) np10
    have g10 := ((((t6).trans t7).trans t8).trans t9).trans t10
    refine ⟨_, _, _, _, rfl, rfl, g10 _ _ upd_same, upd_same, by show 8 ≤ sizeLine; decide, fun p11 np11 => ?_⟩
    have t11 := same_upd (o := .lst [x, x, x, x, x, x, x, x]) np11
    have g11 := g10.trans t11
    have s11 := s5.trans g11
    refine ⟨_, rfl, ?_⟩
    refine ⟨_, rfl, fun a12 d12 na12 nd12 ne12 => ⟨a12, d12, x, rfl, upd_same, (upd_ne ne12).trans upd_same, ?_⟩⟩
    have t12 := same2 (oa := er a12 c8 d12) (od := .xd [("text", x)]) na12 nd12 ne12
    refine ⟨_, rfl, fun a13 d13 na13 nd13 ne13 => ⟨a13, d13, x, rfl, upd_same, (upd_ne ne13).trans upd_same, ?_⟩⟩
    have t13 := same2 (oa := er a13 c9 d13) (od := .xd [("index", x)]) na13 nd13 ne13
    refine ⟨_, rfl, fun a14 d14 na14 nd14 ne14 => ⟨a14, d14, x, rfl, upd_same, (upd_ne ne14).trans upd_same, ?_⟩⟩
    have t14 := same2 (oa := er a14 c10 d14) (od := .xd [("name", x)]) na14 nd14 ne14
    refine ⟨_, rfl, fun a15 d15 na15 nd15 ne15 => ⟨a15, d15, x, rfl, upd_same, (upd_ne ne15).trans upd_same, ?_⟩⟩
    have t15 := same2 (oa := er a15 c11 d15) (od := .xd [("name", x)]) na15 nd15 ne15
    refine ⟨by show 4 ≤ sizeLine; decide, fun p16 np16 => ?_⟩
    have t16 := same_upd (o := .lst [x, x, x, x]) np16
    have g16 := ((((t12).trans t13).trans t14).trans t15).trans t16
    refine ⟨_, _, _, _, rfl, rfl, g16 _ _ upd_same, upd_same, by show 12 ≤ sizeLine; decide, fun p17 np17 => ?_⟩
    have t17 := same_upd (o := .lst [x, x, x, x, x, x, x, x, x, x, x, x]) np17
    have g17 := g16.trans t17
    have s17 := s11.trans g17
    refine ⟨_, rfl, ?_⟩
    refine ⟨_, rfl, fun a18 d18 na18 nd18 ne18 => ⟨a18, d18, x, rfl, upd_same, (upd_ne ne18).trans upd_same, ?_⟩⟩
    have t18 := same2 (oa := er a18 c12 d18) (od := .xd [("value", x)]) na18 nd18 ne18
    refine ⟨_, rfl, fun a19 d19 na19 nd19 ne19 => ⟨a19, d19, x, rfl, upd_same, (upd_ne ne19).trans upd_same, ?_⟩⟩
    have t19 := same2 (oa := er a19 c13 d19) (od := .xd [("count", x)]) na19 nd19 ne19
    refine ⟨by show 2 ≤ sizeLine; decide, fun p20 np20 => ?_⟩
    have t20 := same_upd (o := .lst [x, x]) np20
    have g20 := ((t18).trans t19).trans t20
    refine ⟨_, _, _, _, rfl, rfl, g20 _ _ upd_same, upd_same, by show 14 ≤ sizeLine; decide, fun p21 np21 => ?_⟩
    have t21 := same_upd (o := .lst [x, x, x, x, x, x, x, x, x, x, x, x, x, x]) np21
    have g21 := g20.trans t21
    have s21 := s17.trans g21
    refine ⟨_, rfl, fun a22 d22 na22 nd22 ne22 => ⟨a22, d22, x, rfl, upd_same, (upd_ne ne22).trans upd_same, ?_⟩⟩
    have t22 := same2 (oa := er a22 c0 d22) (od := .xd [("place", x)]) na22 nd22 ne22
    refine ⟨_, rfl, fun a23 d23 na23 nd23 ne23 => ⟨a23, d23, x, rfl, upd_same, (upd_ne ne23).trans upd_same, ?_⟩⟩
    have t23 := same2 (oa := er a23 c1 d23) (od := .xd [("value", x)]) na23 nd23 ne23
    refine ⟨_, rfl, fun a24 d24 na24 nd24 ne24 => ⟨a24, d24, x, rfl, upd_same, (upd_ne ne24).trans upd_same, ?_⟩⟩
    have t24 := same2 (oa := er a24 c2 d24) (od := .xd [("value", x)]) na24 nd24 ne24
    refine ⟨by show 3 ≤ sizeLine; decide, fun p25 np25 => ?_⟩
    have t25 := same_upd (o := .lst [x, x, x]) np25
    have g25 := (((t22).trans t23).trans t24).trans t25
    have s25 := s21.trans g25
    have f25 := g25
    refine ⟨_, rfl, ?_⟩
    refine ⟨_, rfl, fun a26 d26 na26 nd26 ne26 => ⟨a26, d26, x, rfl, upd_same, (upd_ne ne26).trans upd_same, ?_⟩⟩
    have t26 := same2 (oa := er a26 c3 d26) (od := .xd [("value", x)]) na26 nd26 ne26
    refine ⟨_, rfl, fun a27 d27 na27 nd27 ne27 => ⟨a27, d27, x, rfl, upd_same, (upd_ne ne27).trans upd_same, ?_⟩⟩
    have t27 := same2 (oa := er a27 c4 d27) (od := .xd [("value", x)]) na27 nd27 ne27
    refine ⟨_, rfl, fun a28 d28 na28 nd28 ne28 => ⟨a28, d28, x, rfl, upd_same, (upd_ne ne28).trans upd_same, ?_⟩⟩
    have t28 := same2 (oa := er a28 c5 d28) (od := .xd [("value", x)]) na28 nd28 ne28
    refine ⟨by show 3 ≤ sizeLine; decide, fun p29 np29 => ?_⟩
    have t29 := same_upd (o := .lst [x, x, x]) np29
    have g29 := (((t26).trans t27).trans t28).trans t29
    refine ⟨_, _, _, _, rfl, rfl, g29 _ _ upd_same, upd_same, by show 6 ≤ sizeLine; decide, fun p30 np30 => ?_⟩
    have t30 := same_upd (o := .lst [x, x, x, x, x, x]) np30
    have g30 := g29.trans t30
    have s30 := s25.trans g30
    have f30 := f25.trans g30
    refine ⟨_, rfl, ?_⟩
    refine ⟨_, rfl, fun a31 d31 na31 nd31 ne31 => ⟨a31, d31, x, rfl, upd_same, (upd_ne ne31).trans upd_same, ?_⟩⟩
    have t31 := same2 (oa := er a31 c6 d31) (od := .xd [("value", x)]) na31 nd31 ne31
    refine ⟨_, rfl, fun a32 d32 na32 nd32 ne32 => ⟨a32, d32, x, rfl, upd_same, (upd_ne ne32).trans upd_same, ?_⟩⟩
    have t32 := same2 (oa := er a32 c7 d32) (od := .xd [("line", x)]) na32 nd32 ne32
    refine ⟨_, rfl, fun a33 d33 na33 nd33 ne33 => ⟨a33, d33, x, rfl, upd_same, (upd_ne ne33).trans upd_same, ?_⟩⟩
    have t33 := same2 (oa := er a33 c8 d33) (od := .xd [("text", x)]) na33 nd33 ne33
    refine ⟨by show 3 ≤ sizeLine; decide, fun p34 np34 => ?_⟩
    have t34 := same_upd (o := .lst [x, x, x]) np34
    have g34 := (((t31).trans t32).trans t33).trans t34
    refine ⟨_, _, _, _, rfl, rfl, g34 _ _ upd_same, upd_same, by show 9 ≤ sizeLine; decide, fun p35 np35 => ?_⟩
    have t35 := same_upd (o := .lst [x, x, x, x, x, x, x, x, x]) np35
    have g35 := g34.trans t35
    have s35 := s30.trans g35
    have f35 := f30.trans g35
    refine ⟨_, rfl, ?_⟩
    refine ⟨_, rfl, fun a36 d36 na36 nd36 ne36 => ⟨a36, d36, x, rfl, upd_same, (upd_ne ne36).trans upd_same, ?_⟩⟩
    have t36 := same2 (oa := er a36 c9 d36) (od := .xd [("index", x)]) na36 nd36 ne36
    refine ⟨_, rfl, fun a37 d37 na37 nd37 ne37 => ⟨a37, d37, x, rfl, upd_same, (upd_ne ne37).trans upd_same, ?_⟩⟩
    have t37 := same2 (oa := er a37 c10 d37) (od := .xd [("name", x)]) na37 nd37 ne37
    refine ⟨_, rfl, fun a38 d38 na38 nd38 ne38 => ⟨a38, d38, x, rfl, upd_same, (upd_ne ne38).trans upd_same, ?_⟩⟩
    have t38 := same2 (oa := er a38 c11 d38) (od := .xd [("name", x)]) na38 nd38 ne38
    refine ⟨by show 3 ≤ sizeLine; decide, fun p39 np39 => ?_⟩
    have t39 := same_upd (o := .lst [x, x, x]) np39
    have g39 := (((t36).trans t37).trans t38).trans t39
    refine ⟨_, _, _, _, rfl, rfl, g39 _ _ upd_same, upd_same, by show 12 ≤ sizeLine; decide, fun p40 np40 => ?_⟩
    have t40 := same_upd (o := .lst [x, x, x, x, x, x, x, x, x, x, x, x]) np40
    have g40 := g39.trans t40
    have s40 := s35.trans g40
    have f40 := f35.trans g40
    refine ⟨_, rfl, ?_⟩
    refine ⟨_, rfl, fun a41 d41 na41 nd41 ne41 => ⟨a41, d41, x, rfl, upd_same, (upd_ne ne41).trans upd_same, ?_⟩⟩
    have t41 := same2 (oa := er a41 c12 d41) (od := .xd [("value", x)]) na41 nd41 ne41
    refine ⟨_, rfl, fun a42 d42 na42 nd42 ne42 => ⟨a42, d42, x, rfl, upd_same, (upd_ne ne42).trans upd_same, ?_⟩⟩
    have t42 := same2 (oa := er a42 c13 d42) (od := .xd [("count", x)]) na42 nd42 ne42
    refine ⟨by show 2 ≤ sizeLine; decide, fun p43 np43 => ?_⟩
    have t43 := same_upd (o := .lst [x, x]) np43
    have g43 := ((t41).trans t42).trans t43
    refine ⟨_, _, _, _, rfl, rfl, g43 _ _ upd_same, upd_same, by show 14 ≤ sizeLine; decide, fun p44 np44 => ?_⟩
    have t44 := same_upd (o := .lst [x, x, x, x, x, x, x, x, x, x, x, x, x, x]) np44
    have g44 := g43.trans t44
    have s44 := s40.trans g44
    have f44 := f40.trans g44
    refine ⟨_, rfl, _, rfl, by show 1 ≤ sizeLine; decide, fun y1 ny1 => ?_⟩
    have h1 := same_upd (o := .lst [x]) ny1
    refine ⟨y1, 14, [x], rfl, rfl, upd_same, by decide, by decide, by show 1 * 14 ≤ sizeLine; decide, fun y2 ny2 => ?_⟩
    have h2 := h1.trans (same_upd (o := .lst (List.replicate ((14 : Int)).toNat [x]).flatten) ny2)
    have k0 := s44.trans h2
    have m1 : _ = some (HO.lst (List.replicate 14 x)) := (f44.trans h2) _ _ (upd_same (a := p21) (o := .lst (List.replicate 14 x)))
    have m2 : _ = some (HO.lst (List.replicate 14 x)) := h2 _ _ (upd_same (a := p44) (o := .lst (List.replicate 14 x)))
    have dd := dp_rep (av _ k0) 14
    refine ⟨.list (List.replicate 14 dx), .list (List.replicate 14 dx), .lst (SqL.of m1) dd, .lst (SqL.of (upd_same (o := .lst (List.replicate 14 x)))) dd, sh, sh, _, rfl, ?_⟩
    rw [eq, if_pos rfl]
    refine ⟨_, rfl, _, rfl, .list (List.replicate 14 dx), .list (List.replicate 14 dx), .lst (SqL.of m2) dd, .lst (SqL.of m1) dd, sh, sh, ?_⟩
    rw [eq]
    exact q _ k0
end
end My
namespace My
open PySem PySem.Spec PyProof.Rows L2 LX
theorem scLaw : FnScope ["_law_script", "_law_k", "_law_pool_here", "_law_a", "_law_some", "_law_at", "_law_error", "_law_no", "_law_expected", "_law_other"] ["_law_script"] (defScope sLaw) := ⟨rfl, rfl, rfl, by decide +kernel, rfl, by decide +kernel, by decide +kernel⟩
structure TxtL (mg : Str → Option Value) : Prop where
  range : mg "range" = none
  max : mg "max" = none
  min : mg "min" = none
  len : mg "len" = none
  enum : mg "enumerate" = none
def spLaw (K : PySem.W.Frag) : Sp := fun vs H Q _ => ∃ (a : Addr) (ns : List Int), vs = [.ref a] ∧ SqL K H a (ns.map V.int) ∧ ns.length ≤ 63 ∧ ∀ H', Q (.bl true) H'
/-- for i, x in enumerate(xs) -/
theorem for_enum {K : PySem.W.Frag} {a : Addr} {xs : List V} {g : TG} {tb : TS} {D : Ends} {σ : L2.St} {H : Hp} (Pv : Nat → L2.St → Hp → Prop) (h0 : Pv 0 σ H) (hl : ∀ i σ H, i ≤ xs.length → Pv i σ H → SqL K H a xs)
    (hs : ∀ i x σ H T, xs[i]? = some x → Pv i σ H → H T = none → g (.ref T) σ (upd H T (.tup [.int (i : Nat), x])) fun σ2 H2 => tb { D with nx := Pv (i + 1), ct := Pv (i + 1), bk := D.nx } σ2 H2) (hd : ∀ σ H, Pv xs.length σ H → D.nx σ H) :
    ∃ W : Nat → Nat → L2.St → Hp → Prop, (∃ m, W 0 m σ H) ∧ ∀ i m σ H, W i m σ H →
      ((Ite K a).stop i H ∧ D.nx σ H) ∨ ((Ite K a).go i H ∧ ∃ N : L2.St → Hp → Prop, (∀ σ' H', N σ' H' → ∃ m', m' < m ∧ W (i + 1) m' σ' H') ∧ ∀ x H', (Ite K a).yld i H x H' → g x σ H' fun σ2 H2 => tb { D with nx := N, ct := N, bk := D.nx } σ2 H2) := by
  refine ⟨fun i m σ H => (m + i = xs.length) ∧ Pv i σ H, ⟨xs.length, rfl, h0⟩, fun i m σ H hw => ?_⟩
  obtain ⟨hm, p⟩ := hw
  have q := hl i σ H (by omega) p
  by_cases hlt : i < xs.length
  · right
    refine ⟨⟨xs, xs[i], q, by simp [hlt]⟩, Pv (i + 1), fun σ' H' p' => ⟨m - 1, by omega, by omega, p'⟩, fun x H' y => ?_⟩
    obtain ⟨T, x', e1, e2, e3, e4⟩ := y
    subst e1 e3
    exact hs i x' σ H T (e4 xs q) p e2
  · left
    have e : i = xs.length := by omega
    subst e
    exact ⟨⟨xs, q, Nat.le_refl _⟩, hd σ H p⟩
theorem tYes_if {σ : L2.St} {H : Hp} {A B : Hp → Prop} (h : A H) : tYes σ H (fun b H3 => if b = true then A H3 else B H3) := by
  show if true = true then A H else B H
  rw [if_pos rfl]
  exact h
/-- the errors, each one of its class -/
def Good (K : PySem.W.Frag) (cs : List Addr) (Hb : Hp) (l : Addr) (refs : List V) (H : Hp) : Prop := Same Hb H ∧ SqL K H l refs ∧ ∀ (i : Nat) (x : V), refs[i]? = some x → ErAt K cs H x i
theorem Good.same {K : PySem.W.Frag} {cs : List Addr} {Hb H H' : Hp} {l : Addr} {refs : List V} (g : Good K cs Hb l refs H) (s : Same H H') : Good K cs Hb l refs H' :=
  ⟨g.1.trans s, s.seq g.2.1, fun i x e => (g.2.2 i x e).same s⟩
theorem er_new {K : PySem.W.Frag} {cs : List Addr} {H : Hp} {a C d : Addr} {p : Str} {v : V} {j : Nat} (na : H a = none) (ne : d ≠ a) (hj : cs[j]? = some C) (I : IsC K C) : ErAt K cs (upd (upd H d (.xd [(p, v)])) a (er a C d)) (.ref a) j :=
  ⟨a, C, d, _, rfl, hj, upd_same, (upd_ne ne).trans upd_same, I⟩
theorem sq_new {K : PySem.W.Frag} {H : Hp} {p : Addr} {xs : List V} (_ : H p = none) : SqL K (upd H p (.lst xs)) p xs := SqL.of upd_same
theorem at_new {H : Hp} {p : Addr} {o : HO} (_ : H p = none) : (upd H p o) p = some o := upd_same
theorem dp_bls {K : PySem.W.Frag} {H : Hp} (f : Nat → Bool) : ∀ l : List Nat, DpAll K H (l.map fun i => V.bl (f i)) (l.map fun i => PyData.bool (f i))
  | [] => .nil
  | _ :: l => .cons (.bl _) (dp_bls f l)
def ownD (j : Nat) : PyData := .list ((List.range 14).map fun i => .bool (decide (i = j)))
theorem ownD_ok : ∀ j, j < 14 → SeqAt.shaped (ownD j) = true ∧ PyData.eqv (ownD j) (ownD j) = true := by decide +kernel
def undD (j : Nat) : PyData := .list [.bool (decide (j < 10)), .bool (decide (j < 10)), .bool (decide (10 ≤ j && j < 13)), .bool (decide (j = 10)), .bool (decide (j = 12)), .bool (decide (j = 13))]
def tab (f : Nat → PyData) : Nat → Nat → List PyData
  | _, 0 => []
  | s, n + 1 => f s :: tab f (s + 1) n
theorem dp_tab {K : PySem.W.Frag} {H : Hp} (f : Nat → PyData) : ∀ (us : List V) (s : Nat), (∀ m u, us[m]? = some u → Dp K H u (f (s + m))) → DpAll K H us (tab f s us.length)
  | [], _, _ => .nil
  | u :: us, s, h => .cons (h 0 u rfl) (dp_tab f us (s + 1) fun m v e => by
      have z := h (m + 1) v e
      rwa [show s + (m + 1) = s + 1 + m by omega] at z)
theorem dp_und {K : PySem.W.Frag} {H : Hp} {r : Addr} {j : Nat} (h : H r = some (.lst (undL j))) : Dp K H (.ref r) (undD j) :=
  .lst (SqL.of h) (.cons (.bl _) (.cons (.bl _) (.cons (.bl _) (.cons (.bl _) (.cons (.bl _) (.cons (.bl _) .nil))))))
theorem dec_rng {i j : Nat} : decide (V.int ((0 : Int) + (i : Int)) = V.int (j : Int)) = decide (i = j) := by
  rw [decide_eq_decide]
  constructor
  · intro h
    injection h with h
    omega
  · intro h
    rw [h, Int.zero_add]
theorem cut_to (xs : List V) (k : Nat) : cutV xs none (some (k : Int)) = xs.take k := by
  unfold cutV
  rw [HT.sIx_none, HT.sIx_nat, List.drop_zero, Nat.sub_zero]
  by_cases h : k ≤ xs.length
  · rw [Nat.min_eq_left h]
  · rw [Nat.min_eq_right (by omega), List.take_length, List.take_of_length_le (by omega)]
theorem cut_from (xs : List V) (k : Nat) : cutV xs (some (k : Int)) none = xs.drop k := by
  unfold cutV
  rw [HT.sIx_none, HT.sIx_nat]
  by_cases h : k ≤ xs.length
  · rw [Nat.min_eq_left h]
    exact List.take_of_length_le (by rw [List.length_drop]; exact Nat.le_refl _)
  · rw [Nat.min_eq_right (by omega), Nat.sub_self, List.take_zero, List.drop_of_length_le (by omega)]
section
variable {P : Program} {w : World} {K : PySem.W.Frag} {mg : Str → Option Value} {base : Heap} {c0 c1 c2 c3 c4 c5 c6 c7 c8 c9 c10 c11 c12 c13 r : Addr}
theorem ok_law {f fP fD fO fU fF : Addr} {fd fdP fdD fdO fdU fdF : FuncData} (F : Fun K "law" "law" sLaw f fd) (ES : Errs P K mg c0 c1 c2 c3 c4 c5 c6 c7 c8 c9 c10 c11 c12 c13 r) (TL : TxtL mg)
    (FP : Fun K "_law_pool" "_law_pool" sPool fP fdP) (bP : Binds K fdP ["_law_script", "_law_k"] []) (gP : mg "_law_pool" = some (.ref fP)) (GP : FnOk P w K mg base CX0 1 fP fdP ["_law_script", "_law_k"] (spPool K))
    (FD : Fun K "_law_draw" "_law_draw" sDraw fD fdD) (bD : Binds K fdD ["_law_pool_here", "_law_many"] []) (gD : mg "_law_draw" = some (.ref fD)) (GD : FnOk P w K mg base CX0 1 fD fdD ["_law_pool_here", "_law_many"] spDraw)
    (FO : Fun K "_law_own" "_law_own" sOwn fO fdO) (bO : Binds K fdO ["_law_error"] []) (gO : mg "_law_own" = some (.ref fO)) (GO : FnOk P w K mg base CX0 1 fO fdO ["_law_error"] (spOwn K [c0, c1, c2, c3, c4, c5, c6, c7, c8, c9, c10, c11, c12, c13]))
    (FU : Fun K "_law_under" "_law_under" sUnder fU fdU) (bU : Binds K fdU ["_law_error"] []) (gU : mg "_law_under" = some (.ref fU)) (GU : FnOk P w K mg base CX0 1 fU fdU ["_law_error"] (spUnder K [c0, c1, c2, c3, c4, c5, c6, c7, c8, c9, c10, c11, c12, c13]))
    (FF : Fun K "_law_fields_hold" "_law_fields_hold" sFields fF fdF) (bF : Binds K fdF ["_law_a"] []) (gF : mg "_law_fields_hold" = some (.ref fF)) (GF : FnOk P w K mg base CX0 3 fF fdF ["_law_a"] (spFields K)) :
    FnOk P w K mg base CX0 4 f fd ["_law_script"] (spLaw K) := by
  refine F.ok scLaw (fun vs H Q E h => ?_) (fun cdv A outer s H vs Q E hr h => ?_)
  · obtain ⟨a, ns, rfl, _⟩ := h
    rfl
  · obtain ⟨a, ns, rfl, hS, hlen, q⟩ := h
    have hr1 : Room 1 _ := hr.mono (by decide)
    have hr2 : Room 2 _ := hr.mono (by decide)
    obtain ⟨b0, B0, n0, i0, m0, T0⟩ := ES.e0.T
    obtain ⟨b1, B1, n1, i1, m1, T1⟩ := ES.e1.T
    obtain ⟨b2, B2, n2, i2, m2, T2⟩ := ES.e2.T
    obtain ⟨b3, B3, n3, i3, m3, T3⟩ := ES.e3.T
    obtain ⟨b4, B4, n4, i4, m4, T4⟩ := ES.e4.T
    obtain ⟨b5, B5, n5, i5, m5, T5⟩ := ES.e5.T
    obtain ⟨b6, B6, n6, i6, m6, T6⟩ := ES.e6.T
    obtain ⟨b7, B7, n7, i7, m7, T7⟩ := ES.e7.T
    obtain ⟨b8, B8, n8, i8, m8, T8⟩ := ES.e8.T
    obtain ⟨b9, B9, n9, i9, m9, T9⟩ := ES.e9.T
    obtain ⟨b10, B10, n10, i10, m10, T10⟩ := ES.e10.T
    obtain ⟨b11, B11, n11, i11, m11, T11⟩ := ES.e11.T
    obtain ⟨b12, B12, n12, i12, m12, T12⟩ := ES.e12.T
    obtain ⟨b13, B13, n13, i13, m13, T13⟩ := ES.e13.T
    refine ⟨_, pss_cons (ps_for PassesOwn.never rfl (pi_range1 rfl TL.range (pa_cons (pe_callB (call_max2 rfl) (by rfl) TL.max PyProof.Rows.boot_max (pa_cons pe_int (pa_cons (pe_callB (call_min2 rfl) (by rfl) TL.min PyProof.Rows.boot_min
            (pa_cons (pe_callB call_len_seq (by rfl) TL.len PySem.boot_len (pa_cons (pv 0) pa_nil)) (pa_cons pe_int pa_nil))) pa_nil))) pa_nil)) (pg_name (i := 1) scLaw.nd rfl (.inl rfl))
        (pss_cons (ps_set (i := 2) scLaw.nd rfl (.inl rfl) (pe_call GP hr1 rfl gP FP.kp bP .nil pass0 (pa_cons (pv 0) (pa_cons (pv 1) pa_nil))))
        (pss_cons (ps_set (i := 3) scLaw.nd rfl (.inl rfl) (pe_ix ix_list (pe_lst (pa_cons pe_non (pa_cons (pe_call GD hr1 rfl gD FD.kp bD .nil pass0 (pa_cons (pv 2) (pa_cons pe_int pa_nil))) (pa_cons pe_str (pa_cons (pe_tup (pa_cons pe_int (pa_cons pe_str (pa_cons pe_int pa_nil)))) pa_nil))))) (pe_call GD hr1 rfl gD FD.kp bD .nil pass0 (pa_cons (pv 2) (pa_cons pe_int pa_nil))) (fun _ _ => rfl)))
        (pss_cons (ps_if (pt_not (pt_val (pe_call GF hr rfl gF FF.kp bF .nil pass0 (pa_cons (pv 3) pa_nil)))) (pss_one (ps_ret pe_bl)) pss_nil)
        (pss_cons (ps_set (i := 4) scLaw.nd rfl (.inl rfl) (pe_lst (pa_cons (pe_nw T0 hr2 ES.sup ES.e0.g ES.e0.k (by rfl) (pv 3)) (pa_cons (pe_nw T1 hr2 ES.sup ES.e1.g ES.e1.k (by rfl) (pv 3)) (pa_cons (pe_nw T2 hr2 ES.sup ES.e2.g ES.e2.k (by rfl) (pv 3)) (pa_cons (pe_nw T3 hr2 ES.sup ES.e3.g ES.e3.k (by rfl) (pv 3)) (pa_cons (pe_nw T4 hr2 ES.sup ES.e4.g ES.e4.k (by rfl) (pv 3)) pa_nil)))))))
        (pss_cons (ps_set (i := 4) scLaw.nd rfl (.inl rfl) (pe_op op_cat (pv 4) (pe_lst (pa_cons (pe_nw T5 hr2 ES.sup ES.e5.g ES.e5.k (by rfl) (pv 3)) (pa_cons (pe_nw T6 hr2 ES.sup ES.e6.g ES.e6.k (by rfl) (pv 3)) (pa_cons (pe_nw T7 hr2 ES.sup ES.e7.g ES.e7.k (by rfl) (pv 3)) (pa_cons (pe_nw T8 hr2 ES.sup ES.e8.g ES.e8.k (by rfl) (pv 3)) (pa_cons (pe_nw T9 hr2 ES.sup ES.e9.g ES.e9.k (by rfl) (pv 3)) pa_nil))))))))
        (pss_cons (ps_set (i := 4) scLaw.nd rfl (.inl rfl) (pe_op op_cat (pv 4) (pe_lst (pa_cons (pe_nw T10 hr2 ES.sup ES.e10.g ES.e10.k (by rfl) (pv 3)) (pa_cons (pe_nw T11 hr2 ES.sup ES.e11.g ES.e11.k (by rfl) (pv 3)) (pa_cons (pe_nw T12 hr2 ES.sup ES.e12.g ES.e12.k (by rfl) (pv 3)) (pa_cons (pe_nw T13 hr2 ES.sup ES.e13.g ES.e13.k (by rfl) (pv 3)) pa_nil)))))))
        (pss_cons (ps_for PassesOwn.never rfl (pi_enum (by rfl) TL.enum (pa_cons (pv 4) pa_nil)) (pg_tup (by rfl) (pgs_cons (pg_name (i := 5) scLaw.nd rfl (.inr rfl)) (pgs_cons (pg_name (i := 6) scLaw.nd rfl (.inl rfl)) pgs_nil)))
        (pss_one (ps_if (pt_cmpR (op_neD hr.units) (pe_call GO hr1 rfl gO FO.kp bO .nil pass0 (pa_cons (pv 6) pa_nil)) (pe_lc (own := [("_law_other", 9)]) (g := gName 9) (tt := tYes) rfl scLaw.nd (pi_range1 rfl TL.range (pa_cons pe_int pa_nil)) (blkOk_by (own := [("_law_other", 9)]) (N := ["_law_script", "_law_k", "_law_pool_here", "_law_a", "_law_some", "_law_at", "_law_error", "_law_no", "_law_expected", "_law_other"]) (sc := defScope sLaw) (by decide +kernel)) (fun _ _ _ _ _ => pg_name (i := 9) scLaw.nd rfl (Or.inl rfl)) (fun _ _ _ _ _ => pts_nil) (fun _ _ _ _ _ => pe_cmpR op_eq (pv 9) (pv 5) (nomark _))) (nomark _)) (pss_one (ps_ret pe_bl)) pss_nil)))
        (pss_cons (ps_set (i := 7) scLaw.nd rfl (.inl rfl) (pe_op op_rep (pe_lst (pa_cons pe_bl pa_nil)) pe_int))
        (pss_cons (ps_if (pt_cmpR (op_neD hr.units) (pe_lc (own := [("_law_error", 6)]) (g := gName 6) (tt := tYes) rfl scLaw.nd (pi_list (pe_slice sl_list (pv 4) po_none (po_some pe_int))) (blkOk_by (own := [("_law_error", 6)]) (N := ["_law_script", "_law_k", "_law_pool_here", "_law_a", "_law_some", "_law_at", "_law_error", "_law_no", "_law_expected", "_law_other"]) (sc := defScope sLaw) (by decide +kernel)) (fun _ _ _ _ _ => pg_name (i := 6) scLaw.nd rfl (Or.inl rfl)) (fun _ _ _ _ _ => pts_nil) (fun _ _ _ _ _ => (pe_call GU hr1 rfl gU FU.kp bU .nil pass0 (pa_cons (pv 6) pa_nil)))) (pe_op op_rep (pe_lst (pa_cons (pe_op op_cat (pe_lst (pa_cons pe_bl (pa_cons pe_bl pa_nil))) (pe_slice sl_list (pv 7) (po_some pe_int) po_none)) pa_nil)) pe_int) (nomark _)) (pss_one (ps_ret pe_bl)) pss_nil)
        (pss_cons (ps_set (i := 8) scLaw.nd rfl (.inl rfl) (pe_lst (pa_cons (pe_op op_cat (pe_slice sl_list (pv 7) po_none (po_some pe_int)) (pe_lst (pa_cons pe_bl (pa_cons pe_bl (pa_cons pe_bl (pa_cons pe_bl pa_nil)))))) (pa_cons (pe_op op_cat (pe_slice sl_list (pv 7) po_none (po_some pe_int)) (pe_lst (pa_cons pe_bl (pa_cons pe_bl (pa_cons pe_bl (pa_cons pe_bl pa_nil)))))) pa_nil))))
        (pss_cons (ps_set (i := 8) scLaw.nd rfl (.inl rfl) (pe_op op_cat (pv 8) (pe_lst (pa_cons (pe_op op_cat (pe_slice sl_list (pv 7) po_none (po_some pe_int)) (pe_lst (pa_cons pe_bl (pa_cons pe_bl (pa_cons pe_bl (pa_cons pe_bl pa_nil)))))) (pa_cons (pe_op op_cat (pe_slice sl_list (pv 7) po_none (po_some pe_int)) (pe_lst (pa_cons pe_bl pa_nil))) pa_nil)))))
        (pss_one (ps_if (pt_cmpR (op_neD hr.units) (pe_lc (own := [("_law_error", 6)]) (g := gName 6) (tt := tYes) rfl scLaw.nd (pi_list (pe_slice sl_list (pv 4) (po_some pe_int) po_none)) (blkOk_by (own := [("_law_error", 6)]) (N := ["_law_script", "_law_k", "_law_pool_here", "_law_a", "_law_some", "_law_at", "_law_error", "_law_no", "_law_expected", "_law_other"]) (sc := defScope sLaw) (by decide +kernel)) (fun _ _ _ _ _ => pg_name (i := 6) scLaw.nd rfl (Or.inl rfl)) (fun _ _ _ _ _ => pts_nil) (fun _ _ _ _ _ => (pe_call GU hr1 rfl gU FU.kp bU .nil pass0 (pa_cons (pv 6) pa_nil)))) (pv 8) (nomark _)) (pss_one (ps_ret pe_bl)) pss_nil))))))))))))))
      (pss_one (ps_ret pe_bl)), ?_⟩
    -- for k in range(max(1, min(len(script), 4)))
    refine ⟨_, rfl, a, _, rfl, .inl hS, _, _, rfl, _, _, rfl, _, rfl, ?_⟩
    have hN : ∃ N : Nat, (if (if (4 : Int) < ((ns.map V.int).length : Nat) then (4 : Int) else ((ns.map V.int).length : Nat)) > 1 then (if (4 : Int) < ((ns.map V.int).length : Nat) then (4 : Int) else ((ns.map V.int).length : Nat)) else 1) = (N : Int) ∧ N ≤ 4 := by
      refine ⟨(if (if (4 : Int) < ((ns.map V.int).length : Nat) then (4 : Int) else ((ns.map V.int).length : Nat)) > 1 then (if (4 : Int) < ((ns.map V.int).length : Nat) then (4 : Int) else ((ns.map V.int).length : Nat)) else 1).toNat, ?_, ?_⟩
      · split <;> split <;> omega
      · split <;> split <;> omega
    obtain ⟨N, eN, hN4⟩ := hN
    rw [eN]
    refine ⟨by omega, by omega, ?_⟩
    refine for_range (lo := 0) (n := N) (fun i σ H' => ∃ z1 z2 z3 z4 z5 z6 z7 z8 z9 : Option V, σ = [some (.ref a), z1, z2, z3, z4, z5, z6, z7, z8, z9] ∧ SqL K H' a (ns.map V.int)) ⟨_, _, _, _, _, _, _, _, _, rfl, hS⟩ (fun i σ Hk hi hPv => ?_) (fun σ Hk _ => q _)
    obtain ⟨z1, z2, z3, z4, z5, z6, z7, z8, z9, rfl, hSk⟩ := hPv
    -- pool
    refine ⟨_, rfl, _, rfl, a, ns, i, congrArg (fun z => [V.ref a, V.int z]) (show (0 : Int) + (i : Int) = (i : Int) by omega), hSk, hlen, by omega, fun Hp p smp np hp => ?_⟩
    -- [None, draw, "x", (..)][draw]
    refine ⟨_, rfl, p, 99, rfl, by decide, by decide, hp, fun r1 g1 m1 l1 u1 gg1 mm1 mm1' => ?_⟩
    refine ⟨by show 3 ≤ sizeLine; decide, fun tt nt => ?_⟩
    have st := same_upd (o := .tup [V.int 0, .str "then", .int 1]) nt
    refine ⟨by show 4 ≤ sizeLine; decide, fun L nL => ?_⟩
    have sL := same_upd (o := .lst [V.non, .int r1, .str "x", .ref tt]) nL
    have hp2 : PoolAt (upd (upd (upd Hp p (.lst [.int g1, .int m1])) tt (.tup [V.int 0, .str "then", .int 1])) L (.lst [V.non, .int r1, .str "x", .ref tt])) p :=
      ⟨g1, m1, (st.trans sL) _ _ upd_same, gg1, mm1, mm1'⟩
    have ntp : tt ≠ p := fun z => by
      rw [z, upd_same] at nt
      cases nt
    have nLp : L ≠ p := fun z => by
      rw [z] at nL
      have y := st p _ (upd_same (H := Hp) (o := .lst [.int g1, .int m1]))
      rw [y] at nL
      cases nL
    refine ⟨_, rfl, p, 4, rfl, by decide, by decide, hp2, fun r2 g2 m2 l2 u2 _ _ _ => ?_⟩
    have smB : Same Hk (upd (upd (upd (upd Hp p (.lst [.int g1, .int m1])) tt (.tup [V.int 0, .str "then", .int 1])) L (.lst [V.non, .int r1, .str "x", .ref tt])) p (.lst [.int g2, .int m2])) := fun b o eb => by
      have nb : b ≠ p := ne_of_none eb np
      rw [upd_ne nb]
      refine (st.trans sL) b o ?_
      rw [upd_ne nb]
      exact smp b o eb
    have etB : (upd (upd (upd (upd Hp p (.lst [.int g1, .int m1])) tt (.tup [V.int 0, .str "then", .int 1])) L (.lst [V.non, .int r1, .str "x", .ref tt])) p (.lst [.int g2, .int m2])) tt = some (.tup [V.int 0, .str "then", .int 1]) := by
      rw [upd_ne ntp]
      exact sL _ _ upd_same
    have eLB : (upd (upd (upd (upd Hp p (.lst [.int g1, .int m1])) tt (.tup [V.int 0, .str "then", .int 1])) L (.lst [V.non, .int r1, .str "x", .ref tt])) p (.lst [.int g2, .int m2])) L = some (.lst [V.non, .int r1, .str "x", .ref tt]) := by
      rw [upd_ne nLp]
      exact upd_same
    generalize upd (upd (upd (upd Hp p (.lst [.int g1, .int m1])) tt (.tup [V.int 0, .str "then", .int 1])) L (.lst [V.non, .int r1, .str "x", .ref tt])) p (.lst [.int g2, .int m2]) = Hb at smB etB eLB
    have hv : ∃ (v : V) (dx : PyData), atI [V.non, .int r1, .str "x", .ref tt] r2 = some v ∧ Av K Hb v dx ∧ SeqAt.shaped (.list (List.replicate 14 dx)) = true ∧ PyData.eqv (.list (List.replicate 14 dx)) (.list (List.replicate 14 dx)) = true := by
      have h4 : r2 = 0 ∨ r2 = 1 ∨ r2 = 2 ∨ r2 = 3 := by omega
      rcases h4 with rfl | rfl | rfl | rfl
      · exact ⟨.non, .none, rfl, fun _ _ => .non, by decide +kernel, by decide +kernel⟩
      · exact ⟨.int r1, .int r1, rfl, fun _ _ => .int r1, by rfl, by simp [PyData.eqv, PyData.eqvAll, List.replicate]⟩
      · exact ⟨.str "x", .str "x", rfl, fun _ _ => .str _, by decide +kernel, by decide +kernel⟩
      · exact ⟨.ref tt, .tuple [.int 0, .str "then", .int 1], rfl, fun H2 s2 => .tup (.inl (.inl (s2 _ _ etB))) (.cons (.int 0) (.cons (.str _) (.cons (.int 1) .nil))), by decide +kernel, by decide +kernel⟩
    obtain ⟨v, dx, hat, av, sh, eq⟩ := hv
    refine ⟨L, _, r2, v, rfl, rfl, SqL.of eLB, hat, ?_⟩
    -- if not fields_hold(a)
    refine ⟨_, rfl, v, dx, rfl, av, sh, eq, fun Hf s1 => ⟨true, rfl, iteF ?_⟩⟩
    refine ⟨_, rfl, fun a0 d0 na0 nd0 ne0 => ?_⟩
    have t0 := same2 (oa := er a0 c0 d0) (od := .xd [("place", v)]) na0 nd0 ne0
    have x0 := er_new (K := K) (cs := [c0, c1, c2, c3, c4, c5, c6, c7, c8, c9, c10, c11, c12, c13]) (p := "place") (v := v) (j := 0) na0 ne0 rfl ES.e0.I
    refine ⟨_, rfl, fun a1 d1 na1 nd1 ne1 => ?_⟩
    have t1 := same2 (oa := er a1 c1 d1) (od := .xd [("value", v)]) na1 nd1 ne1
    have x1 := er_new (K := K) (cs := [c0, c1, c2, c3, c4, c5, c6, c7, c8, c9, c10, c11, c12, c13]) (p := "value") (v := v) (j := 1) na1 ne1 rfl ES.e1.I
    refine ⟨_, rfl, fun a2 d2 na2 nd2 ne2 => ?_⟩
    have t2 := same2 (oa := er a2 c2 d2) (od := .xd [("value", v)]) na2 nd2 ne2
    have x2 := er_new (K := K) (cs := [c0, c1, c2, c3, c4, c5, c6, c7, c8, c9, c10, c11, c12, c13]) (p := "value") (v := v) (j := 2) na2 ne2 rfl ES.e2.I
    refine ⟨_, rfl, fun a3 d3 na3 nd3 ne3 => ?_⟩
    have t3 := same2 (oa := er a3 c3 d3) (od := .xd [("value", v)]) na3 nd3 ne3
    have x3 := er_new (K := K) (cs := [c0, c1, c2, c3, c4, c5, c6, c7, c8, c9, c10, c11, c12, c13]) (p := "value") (v := v) (j := 3) na3 ne3 rfl ES.e3.I
    refine ⟨_, rfl, fun a4 d4 na4 nd4 ne4 => ?_⟩
    have t4 := same2 (oa := er a4 c4 d4) (od := .xd [("value", v)]) na4 nd4 ne4
    have x4 := er_new (K := K) (cs := [c0, c1, c2, c3, c4, c5, c6, c7, c8, c9, c10, c11, c12, c13]) (p := "value") (v := v) (j := 4) na4 ne4 rfl ES.e4.I
    refine ⟨by show 5 ≤ sizeLine; decide, fun p0 np0 => ?_⟩
    have u0 := same_upd (o := .lst [V.ref a0, V.ref a1, V.ref a2, V.ref a3, V.ref a4]) np0
    refine ⟨_, rfl, ?_⟩
    refine ⟨_, rfl, fun a5 d5 na5 nd5 ne5 => ?_⟩
    have t5 := same2 (oa := er a5 c5 d5) (od := .xd [("value", v)]) na5 nd5 ne5
    have x5 := er_new (K := K) (cs := [c0, c1, c2, c3, c4, c5, c6, c7, c8, c9, c10, c11, c12, c13]) (p := "value") (v := v) (j := 5) na5 ne5 rfl ES.e5.I
    refine ⟨_, rfl, fun a6 d6 na6 nd6 ne6 => ?_⟩
    have t6 := same2 (oa := er a6 c6 d6) (od := .xd [("value", v)]) na6 nd6 ne6
    have x6 := er_new (K := K) (cs := [c0, c1, c2, c3, c4, c5, c6, c7, c8, c9, c10, c11, c12, c13]) (p := "value") (v := v) (j := 6) na6 ne6 rfl ES.e6.I
    refine ⟨_, rfl, fun a7 d7 na7 nd7 ne7 => ?_⟩
    have t7 := same2 (oa := er a7 c7 d7) (od := .xd [("line", v)]) na7 nd7 ne7
    have x7 := er_new (K := K) (cs := [c0, c1, c2, c3, c4, c5, c6, c7, c8, c9, c10, c11, c12, c13]) (p := "line") (v := v) (j := 7) na7 ne7 rfl ES.e7.I
    refine ⟨_, rfl, fun a8 d8 na8 nd8 ne8 => ?_⟩
    have t8 := same2 (oa := er a8 c8 d8) (od := .xd [("text", v)]) na8 nd8 ne8
    have x8 := er_new (K := K) (cs := [c0, c1, c2, c3, c4, c5, c6, c7, c8, c9, c10, c11, c12, c13]) (p := "text") (v := v) (j := 8) na8 ne8 rfl ES.e8.I
    refine ⟨_, rfl, fun a9 d9 na9 nd9 ne9 => ?_⟩
    have t9 := same2 (oa := er a9 c9 d9) (od := .xd [("index", v)]) na9 nd9 ne9
    have x9 := er_new (K := K) (cs := [c0, c1, c2, c3, c4, c5, c6, c7, c8, c9, c10, c11, c12, c13]) (p := "index") (v := v) (j := 9) na9 ne9 rfl ES.e9.I
    refine ⟨by show 5 ≤ sizeLine; decide, fun p1 np1 => ?_⟩
    have u1 := same_upd (o := .lst [V.ref a5, V.ref a6, V.ref a7, V.ref a8, V.ref a9]) np1
    refine ⟨_, _, _, _, rfl, rfl, ((((((t5).trans t6).trans t7).trans t8).trans t9).trans u1) _ _ upd_same, upd_same, by show 10 ≤ sizeLine; decide, fun l1 nl1 => ?_⟩
    have w1 := same_upd (o := .lst [V.ref a0, V.ref a1, V.ref a2, V.ref a3, V.ref a4, V.ref a5, V.ref a6, V.ref a7, V.ref a8, V.ref a9]) nl1
    refine ⟨_, rfl, ?_⟩
    refine ⟨_, rfl, fun a10 d10 na10 nd10 ne10 => ?_⟩
    have t10 := same2 (oa := er a10 c10 d10) (od := .xd [("name", v)]) na10 nd10 ne10
    have x10 := er_new (K := K) (cs := [c0, c1, c2, c3, c4, c5, c6, c7, c8, c9, c10, c11, c12, c13]) (p := "name") (v := v) (j := 10) na10 ne10 rfl ES.e10.I
    refine ⟨_, rfl, fun a11 d11 na11 nd11 ne11 => ?_⟩
    have t11 := same2 (oa := er a11 c11 d11) (od := .xd [("name", v)]) na11 nd11 ne11
    have x11 := er_new (K := K) (cs := [c0, c1, c2, c3, c4, c5, c6, c7, c8, c9, c10, c11, c12, c13]) (p := "name") (v := v) (j := 11) na11 ne11 rfl ES.e11.I
    refine ⟨_, rfl, fun a12 d12 na12 nd12 ne12 => ?_⟩
    have t12 := same2 (oa := er a12 c12 d12) (od := .xd [("value", v)]) na12 nd12 ne12
    have x12 := er_new (K := K) (cs := [c0, c1, c2, c3, c4, c5, c6, c7, c8, c9, c10, c11, c12, c13]) (p := "value") (v := v) (j := 12) na12 ne12 rfl ES.e12.I
    refine ⟨_, rfl, fun a13 d13 na13 nd13 ne13 => ?_⟩
    have t13 := same2 (oa := er a13 c13 d13) (od := .xd [("count", v)]) na13 nd13 ne13
    have x13 := er_new (K := K) (cs := [c0, c1, c2, c3, c4, c5, c6, c7, c8, c9, c10, c11, c12, c13]) (p := "count") (v := v) (j := 13) na13 ne13 rfl ES.e13.I
    refine ⟨by show 4 ≤ sizeLine; decide, fun p2 np2 => ?_⟩
    have u2 := same_upd (o := .lst [V.ref a10, V.ref a11, V.ref a12, V.ref a13]) np2
    refine ⟨_, _, _, _, rfl, rfl, (((((t10).trans t11).trans t12).trans t13).trans u2) _ _ upd_same, upd_same, by show 14 ≤ sizeLine; decide, fun l2 nl2 => ?_⟩
    have w2 := same_upd (o := .lst [V.ref a0, V.ref a1, V.ref a2, V.ref a3, V.ref a4, V.ref a5, V.ref a6, V.ref a7, V.ref a8, V.ref a9, V.ref a10, V.ref a11, V.ref a12, V.ref a13]) nl2
    have y18 := w2
    have y17 := u2.trans y18
    have y16 := t13.trans y17
    have y15 := t12.trans y16
    have y14 := t11.trans y15
    have y13 := t10.trans y14
    have y12 := w1.trans y13
    have y11 := u1.trans y12
    have y10 := t9.trans y11
    have y9 := t8.trans y10
    have y8 := t7.trans y9
    have y7 := t6.trans y8
    have y6 := t5.trans y7
    have y5 := u0.trans y6
    have y4 := t4.trans y5
    have y3 := t3.trans y4
    have y2 := t2.trans y3
    have y1 := t1.trans y2
    have y0 := t0.trans y1
    have x0 := x0.same y1
    have x1 := x1.same y2
    have x2 := x2.same y3
    have x3 := x3.same y4
    have x4 := x4.same y5
    have x5 := x5.same y7
    have x6 := x6.same y8
    have x7 := x7.same y9
    have x8 := x8.same y10
    have x9 := x9.same y11
    have x10 := x10.same y14
    have x11 := x11.same y15
    have x12 := x12.same y16
    have x13 := x13.same y17
    have sm := s1.trans y0
    have hL := sq_new (K := K) (xs := [V.ref a0, V.ref a1, V.ref a2, V.ref a3, V.ref a4, V.ref a5, V.ref a6, V.ref a7, V.ref a8, V.ref a9, V.ref a10, V.ref a11, V.ref a12, V.ref a13]) nl2
    clear y0 t0 y1 t1 y2 t2 y3 t3 y4 t4 y5 t5 y6 t6 y7 t7 y8 t8 y9 t9 y10 t10 y11 t11 y12 t12 y13 t13 y14 y15 y16 y17 y18 u0 u1 u2 w1 w2
    have items : ∀ (i : Nat) (x : V), [V.ref a0, V.ref a1, V.ref a2, V.ref a3, V.ref a4, V.ref a5, V.ref a6, V.ref a7, V.ref a8, V.ref a9, V.ref a10, V.ref a11, V.ref a12, V.ref a13][i]? = some x → ErAt K [c0, c1, c2, c3, c4, c5, c6, c7, c8, c9, c10, c11, c12, c13] _ x i := fun i x hx => match i, hx with
      | 0, hx => by
        cases (show some (V.ref a0) = some x from hx)
        exact x0
      | 1, hx => by
        cases (show some (V.ref a1) = some x from hx)
        exact x1
      | 2, hx => by
        cases (show some (V.ref a2) = some x from hx)
        exact x2
      | 3, hx => by
        cases (show some (V.ref a3) = some x from hx)
        exact x3
      | 4, hx => by
        cases (show some (V.ref a4) = some x from hx)
        exact x4
      | 5, hx => by
        cases (show some (V.ref a5) = some x from hx)
        exact x5
      | 6, hx => by
        cases (show some (V.ref a6) = some x from hx)
        exact x6
      | 7, hx => by
        cases (show some (V.ref a7) = some x from hx)
        exact x7
      | 8, hx => by
        cases (show some (V.ref a8) = some x from hx)
        exact x8
      | 9, hx => by
        cases (show some (V.ref a9) = some x from hx)
        exact x9
      | 10, hx => by
        cases (show some (V.ref a10) = some x from hx)
        exact x10
      | 11, hx => by
        cases (show some (V.ref a11) = some x from hx)
        exact x11
      | 12, hx => by
        cases (show some (V.ref a12) = some x from hx)
        exact x12
      | 13, hx => by
        cases (show some (V.ref a13) = some x from hx)
        exact x13
      | n + 14, hx => absurd hx (by simp)
    have good : Good K [c0, c1, c2, c3, c4, c5, c6, c7, c8, c9, c10, c11, c12, c13] Hb l2 [V.ref a0, V.ref a1, V.ref a2, V.ref a3, V.ref a4, V.ref a5, V.ref a6, V.ref a7, V.ref a8, V.ref a9, V.ref a10, V.ref a11, V.ref a12, V.ref a13] _ := ⟨sm, hL, items⟩
    -- for at, error in enumerate(some)
    refine ⟨_, rfl, l2, _, rfl, good.2.1, ?_⟩
    refine for_enum (K := K) (a := l2) (xs := [V.ref a0, V.ref a1, V.ref a2, V.ref a3, V.ref a4, V.ref a5, V.ref a6, V.ref a7, V.ref a8, V.ref a9, V.ref a10, V.ref a11, V.ref a12, V.ref a13]) (fun j σ H' => ∃ z5 z6 : Option V, σ = [some (.ref a), some (.int (0 + (i : Int))), some (.ref p), some v, some (.ref l2), z5, z6, z7, z8, z9] ∧ Good K [c0, c1, c2, c3, c4, c5, c6, c7, c8, c9, c10, c11, c12, c13] Hb l2 [V.ref a0, V.ref a1, V.ref a2, V.ref a3, V.ref a4, V.ref a5, V.ref a6, V.ref a7, V.ref a8, V.ref a9, V.ref a10, V.ref a11, V.ref a12, V.ref a13] H')
      ⟨_, _, rfl, good⟩ (fun j σ H' _ ⟨_, _, _, g⟩ => g.2.1) (fun j x σ Hj T hx hPv nT => ?_) (fun σ Hj hPv => ?_)
    · obtain ⟨z5, z6, rfl, gd⟩ := hPv
      have gT := gd.same (same_upd (o := .tup [.int (j : Nat), x]) nT)
      have hj14 : j < 14 := (List.getElem?_eq_some_iff.mp hx).1
      refine ⟨T, _, rfl, .inl (.inl upd_same), rfl, _, _, rfl, _, _, rfl, rfl, ?_⟩
      refine ⟨_, rfl, x, j, rfl, gT.2.2 j x hx, fun H2 rr s2 nrr err => ?_⟩
      refine ⟨14, rfl, by decide, by decide, fun D nD => ?_⟩
      refine lc_range (lo := 0) (n := 14) (fun m H' => H' D = some (.lst ((List.range m).map fun i => V.bl (decide (i = j)))) ∧ Same H2 H') ⟨upd_same, same_upd nD⟩ (fun m H' hm hh => ?_) (fun H' hh => ?_)
      · obtain ⟨hD, s3⟩ := hh
        refine ⟨rfl, tYes_if ?_⟩
        refine ⟨_, rfl, _, rfl, rfl, _, hD, small1000 (by rw [List.length_map, List.length_range]; omega), ?_, fun b o eb => ?_⟩
        · rw [upd_same, dec_rng, List.range_succ, List.map_append]
          rfl
        · rw [upd_ne (ne_of_none eb nD)]
          exact s3 _ _ eb
      · obtain ⟨hD, s3⟩ := hh
        obtain ⟨sh1, eq1⟩ := ownD_ok j hj14
        refine ⟨ownD j, ownD j, .lst (SqL.of (s3 _ _ err)) (dp_bls (fun i => decide (i = j)) (List.range 14)), .lst (SqL.of hD) (dp_bls (fun i => decide (i = j)) (List.range 14)), sh1, sh1, _, rfl, ?_⟩
        rw [eq1]
        exact iteF ⟨_, _, rfl, gT.same (s2.trans s3)⟩
    · obtain ⟨z5, z6, rfl, gd⟩ := hPv
      -- [False] * 6
      refine ⟨by show 1 ≤ sizeLine; decide, fun p4 np4 => ?_⟩
      have k4 := same_upd (o := .lst [V.bl false]) np4
      refine ⟨p4, 6, [V.bl false], rfl, rfl, upd_same, by decide, by decide, by show 1 * 6 ≤ sizeLine; decide, fun no nno => ?_⟩
      have k5 := same_upd (o := .lst (List.replicate ((6 : Int)).toNat [V.bl false]).flatten) nno
      have gN := gd.same (k4.trans k5)
      have eNo : (upd (upd Hj p4 (.lst [V.bl false])) no (.lst (List.replicate ((6 : Int)).toNat [V.bl false]).flatten)) no = some (.lst [V.bl false, .bl false, .bl false, .bl false, .bl false, .bl false]) := upd_same
      generalize upd (upd Hj p4 (.lst [V.bl false])) no (.lst (List.replicate ((6 : Int)).toNat [V.bl false]).flatten) = Hn at gN eNo
      -- [under(e) for e in some[:10]]
      refine ⟨.ref l2, rfl, 10, rfl, l2, _, rfl, gN.2.1, fun slA nslA => ⟨slA, rfl, ⟨_, SqL.of upd_same⟩, fun DA nDA => ?_⟩⟩
      have vA := same_upd (o := .lst [V.ref a0, V.ref a1, V.ref a2, V.ref a3, V.ref a4, V.ref a5, V.ref a6, V.ref a7, V.ref a8, V.ref a9]) nslA
      have qA := sq_new (K := K) (xs := [V.ref a0, V.ref a1, V.ref a2, V.ref a3, V.ref a4, V.ref a5, V.ref a6, V.ref a7, V.ref a8, V.ref a9]) nslA
      have gA := gN.same vA
      refine lc_list (K := K) (a := slA) (xs := [V.ref a0, V.ref a1, V.ref a2, V.ref a3, V.ref a4, V.ref a5, V.ref a6, V.ref a7, V.ref a8, V.ref a9]) (fun m H' => ∃ us : List V, H' DA = some (.lst us) ∧ us.length = m ∧ (∀ k u, us[k]? = some u → ∃ r : Addr, u = .ref r ∧ r ≠ DA ∧ H' r = some (.lst (undL (0 + k)))) ∧ Same _ H')
        ⟨[], upd_same, rfl, fun k u e => absurd e (by simp), same_upd nDA⟩ (fun m H' _ hh => ?_) (fun m x H' hx hh => ?_) (fun H' hh => ?_)
      · obtain ⟨_, _, _, _, s3⟩ := hh
        exact s3.seq qA
      · obtain ⟨us, hD, hl, hall, s3⟩ := hh
        have hm : m < 10 := (List.getElem?_eq_some_iff.mp hx).1
        have hx2 : [V.ref a0, V.ref a1, V.ref a2, V.ref a3, V.ref a4, V.ref a5, V.ref a6, V.ref a7, V.ref a8, V.ref a9, V.ref a10, V.ref a11, V.ref a12, V.ref a13][0 + m]? = some x := by
          rw [Nat.zero_add, ← hx, show [V.ref a0, V.ref a1, V.ref a2, V.ref a3, V.ref a4, V.ref a5, V.ref a6, V.ref a7, V.ref a8, V.ref a9] = [V.ref a0, V.ref a1, V.ref a2, V.ref a3, V.ref a4, V.ref a5, V.ref a6, V.ref a7, V.ref a8, V.ref a9, V.ref a10, V.ref a11, V.ref a12, V.ref a13].take 10 from rfl, List.getElem?_take_of_lt hm]
        refine ⟨rfl, tYes_if ?_⟩
        refine ⟨_, rfl, x, 0 + m, rfl, (gA.same s3).2.2 _ x hx2, fun H4 r s4 nr er => ?_⟩
        refine ⟨us, s4 _ _ hD, small1000 (by omega), us ++ [.ref r], upd_same, by rw [List.length_append, hl]; rfl, fun k u e => ?_, fun b ob eb => ?_⟩
        · by_cases hk : k < us.length
          · rw [List.getElem?_append_left hk] at e
            obtain ⟨r', e1, e2, e3⟩ := hall k u e
            exact ⟨r', e1, e2, by rw [upd_ne e2]; exact s4 _ _ e3⟩
          · have hk2 : k < (us ++ [V.ref r]).length := (List.getElem?_eq_some_iff.mp e).1
            rw [List.length_append, List.length_singleton] at hk2
            have hk3 : k = us.length := by omega
            rw [hk3, List.getElem?_append_right (Nat.le_refl _), Nat.sub_self] at e
            cases (show some (V.ref r) = some u from e)
            have nrD : r ≠ DA := fun z => by
              rw [z, hD] at nr
              cases nr
            exact ⟨r, rfl, nrD, by rw [upd_ne nrD, hk3, hl]; exact er⟩
        · rw [upd_ne (ne_of_none eb nDA)]
          exact s4 _ _ (s3 _ _ eb)
      obtain ⟨us, hD, hl, hall, s3⟩ := hh
      have gM := gA.same s3
      have eM := (vA.trans s3) _ _ eNo
      refine ⟨by show 2 ≤ sizeLine; decide, fun q1 nq1 => ?_⟩
      have e1 := same_upd (o := .lst [V.bl true, V.bl true]) nq1
      refine ⟨.ref no, rfl, 2, rfl, no, _, rfl, SqL.of (e1 _ _ eM), fun q2 nq2 => ?_⟩
      have e2 := same_upd (o := .lst [V.bl false, V.bl false, V.bl false, V.bl false]) nq2
      refine ⟨_, _, _, _, rfl, rfl, e2 _ _ upd_same, upd_same, by show 2 + 4 ≤ sizeLine; decide, fun q3 nq3 => ?_⟩
      have e3 := same_upd (o := .lst [V.bl true, V.bl true, V.bl false, V.bl false, V.bl false, V.bl false]) nq3
      refine ⟨by show 1 ≤ sizeLine; decide, fun q4 nq4 => ?_⟩
      have e4 := same_upd (o := .lst [V.ref q3]) nq4
      refine ⟨q4, 10, [V.ref q3], rfl, rfl, upd_same, by decide, by decide, by show 1 * 10 ≤ sizeLine; decide, fun q5 nq5 => ?_⟩
      have e5 := same_upd (o := .lst (List.replicate 10 (V.ref q3))) nq5
      have sf := e1.trans (e2.trans (e3.trans (e4.trans e5)))
      have dl := dp_tab (K := K) undD us 0 (fun k u e => by
        obtain ⟨r, e1, _, e3⟩ := hall k u e
        subst e1
        exact dp_und (sf _ _ e3))
      rw [hl] at dl
      have hq3 := (e4.trans e5) _ _ (upd_same (a := q3) (o := .lst [V.bl true, V.bl true, V.bl false, V.bl false, V.bl false, V.bl false]))
      refine ⟨.list (tab undD 0 10), .list (List.replicate 10 (.list [.bool true, .bool true, .bool false, .bool false, .bool false, .bool false])), .lst (SqL.of (sf _ _ hD)) dl, .lst (SqL.of (upd_same (o := .lst (List.replicate 10 (V.ref q3))))) (dp_rep (.lst (SqL.of hq3) (.cons (.bl _) (.cons (.bl _) (.cons (.bl _) (.cons (.bl _) (.cons (.bl _) (.cons (.bl _) .nil))))))) 10), by decide +kernel, by decide +kernel, _, rfl, ?_⟩
      rw [show (!PyData.eqv (.list (tab undD 0 10)) (.list (List.replicate 10 (.list [.bool true, .bool true, .bool false, .bool false, .bool false, .bool false])))) = false from by decide +kernel]
      refine iteF ?_
      have g0 := gM.same sf
      have m0 := sf _ _ eM
      clear dl hq3 hall
      refine ⟨.ref no, rfl, 2, rfl, no, _, rfl, SqL.of m0, fun w0 nw0 => ?_⟩
      have f0 := same_upd (o := .lst [V.bl false, V.bl false]) nw0
      refine ⟨by show 4 ≤ sizeLine; decide, fun w1 nw1 => ?_⟩
      have f1 := same_upd (o := .lst [V.bl true, V.bl true, V.bl false, V.bl false]) nw1
      refine ⟨_, _, _, _, rfl, rfl, f1 _ _ upd_same, upd_same, by show 2 + 4 ≤ sizeLine; decide, fun w2 nw2 => ?_⟩
      have f2 := same_upd (o := .lst [V.bl false, V.bl false, V.bl true, V.bl true, V.bl false, V.bl false]) nw2
      refine ⟨.ref no, rfl, 2, rfl, no, _, rfl, SqL.of ((((f0).trans f1).trans f2) _ _ m0), fun w3 nw3 => ?_⟩
      have f3 := same_upd (o := .lst [V.bl false, V.bl false]) nw3
      refine ⟨by show 4 ≤ sizeLine; decide, fun w4 nw4 => ?_⟩
      have f4 := same_upd (o := .lst [V.bl true, V.bl false, V.bl false, V.bl false]) nw4
      refine ⟨_, _, _, _, rfl, rfl, f4 _ _ upd_same, upd_same, by show 2 + 4 ≤ sizeLine; decide, fun w5 nw5 => ?_⟩
      have f5 := same_upd (o := .lst [V.bl false, V.bl false, V.bl true, V.bl false, V.bl false, V.bl false]) nw5
      refine ⟨by show 2 ≤ sizeLine; decide, fun w6 nw6 => ?_⟩
      have f6 := same_upd (o := .lst [V.ref w2, V.ref w5]) nw6
      refine ⟨_, rfl, ?_⟩
      refine ⟨.ref no, rfl, 2, rfl, no, _, rfl, SqL.of ((((((((f0).trans f1).trans f2).trans f3).trans f4).trans f5).trans f6) _ _ m0), fun w7 nw7 => ?_⟩
      have f7 := same_upd (o := .lst [V.bl false, V.bl false]) nw7
      refine ⟨by show 4 ≤ sizeLine; decide, fun w8 nw8 => ?_⟩
      have f8 := same_upd (o := .lst [V.bl true, V.bl false, V.bl true, V.bl false]) nw8
      refine ⟨_, _, _, _, rfl, rfl, f8 _ _ upd_same, upd_same, by show 2 + 4 ≤ sizeLine; decide, fun w9 nw9 => ?_⟩
      have f9 := same_upd (o := .lst [V.bl false, V.bl false, V.bl true, V.bl false, V.bl true, V.bl false]) nw9
      refine ⟨.ref no, rfl, 5, rfl, no, _, rfl, SqL.of (((((((((((f0).trans f1).trans f2).trans f3).trans f4).trans f5).trans f6).trans f7).trans f8).trans f9) _ _ m0), fun w10 nw10 => ?_⟩
      have f10 := same_upd (o := .lst [V.bl false, V.bl false, V.bl false, V.bl false, V.bl false]) nw10
      refine ⟨by show 1 ≤ sizeLine; decide, fun w11 nw11 => ?_⟩
      have f11 := same_upd (o := .lst [V.bl true]) nw11
      refine ⟨_, _, _, _, rfl, rfl, f11 _ _ upd_same, upd_same, by show 5 + 1 ≤ sizeLine; decide, fun w12 nw12 => ?_⟩
      have f12 := same_upd (o := .lst [V.bl false, V.bl false, V.bl false, V.bl false, V.bl false, V.bl true]) nw12
      refine ⟨by show 2 ≤ sizeLine; decide, fun w13 nw13 => ?_⟩
      have f13 := same_upd (o := .lst [V.ref w9, V.ref w12]) nw13
      refine ⟨_, _, _, _, rfl, rfl, (((((((f7).trans f8).trans f9).trans f10).trans f11).trans f12).trans f13) _ _ upd_same, upd_same, by show 2 + 2 ≤ sizeLine; decide, fun w14 nw14 => ?_⟩
      have f14 := same_upd (o := .lst [V.ref w2, V.ref w5, V.ref w9, V.ref w12]) nw14
      have h2 := ((((((((((((f3).trans f4).trans f5).trans f6).trans f7).trans f8).trans f9).trans f10).trans f11).trans f12).trans f13).trans f14) _ _ (upd_same (a := w2) (o := .lst [V.bl false, V.bl false, V.bl true, V.bl true, V.bl false, V.bl false]))
      have h5 := (((((((((f6).trans f7).trans f8).trans f9).trans f10).trans f11).trans f12).trans f13).trans f14) _ _ (upd_same (a := w5) (o := .lst [V.bl false, V.bl false, V.bl true, V.bl false, V.bl false, V.bl false]))
      have h9 := (((((f10).trans f11).trans f12).trans f13).trans f14) _ _ (upd_same (a := w9) (o := .lst [V.bl false, V.bl false, V.bl true, V.bl false, V.bl true, V.bl false]))
      have h12 := ((f13).trans f14) _ _ (upd_same (a := w12) (o := .lst [V.bl false, V.bl false, V.bl false, V.bl false, V.bl false, V.bl true]))
      have hE := at_new (o := .lst [V.ref w2, V.ref w5, V.ref w9, V.ref w12]) nw14
      have g1 := g0.same (((((((((((((((f0).trans f1).trans f2).trans f3).trans f4).trans f5).trans f6).trans f7).trans f8).trans f9).trans f10).trans f11).trans f12).trans f13).trans f14)
      refine ⟨.ref l2, rfl, 10, rfl, l2, _, rfl, g1.2.1, fun slB nslB => ⟨slB, rfl, ⟨_, SqL.of upd_same⟩, fun DB nDB => ?_⟩⟩
      have vB := same_upd (o := .lst [V.ref a10, V.ref a11, V.ref a12, V.ref a13]) nslB
      have qB := sq_new (K := K) (xs := [V.ref a10, V.ref a11, V.ref a12, V.ref a13]) nslB
      have gB := g1.same vB
      refine lc_list (K := K) (a := slB) (xs := [V.ref a10, V.ref a11, V.ref a12, V.ref a13]) (fun m H' => ∃ us : List V, H' DB = some (.lst us) ∧ us.length = m ∧ (∀ k u, us[k]? = some u → ∃ r : Addr, u = .ref r ∧ r ≠ DB ∧ H' r = some (.lst (undL (10 + k)))) ∧ Same _ H')
        ⟨[], upd_same, rfl, fun k u e => absurd e (by simp), same_upd nDB⟩ (fun m H' _ hh => ?_) (fun m x H' hx hh => ?_) (fun H' hh => ?_)
      · obtain ⟨_, _, _, _, s3⟩ := hh
        exact s3.seq qB
      · obtain ⟨us, hD, hl, hall, s3⟩ := hh
        have hm : m < 4 := (List.getElem?_eq_some_iff.mp hx).1
        have hx2 : [V.ref a0, V.ref a1, V.ref a2, V.ref a3, V.ref a4, V.ref a5, V.ref a6, V.ref a7, V.ref a8, V.ref a9, V.ref a10, V.ref a11, V.ref a12, V.ref a13][10 + m]? = some x := by
          have z := hx
          rw [show [V.ref a10, V.ref a11, V.ref a12, V.ref a13] = [V.ref a0, V.ref a1, V.ref a2, V.ref a3, V.ref a4, V.ref a5, V.ref a6, V.ref a7, V.ref a8, V.ref a9, V.ref a10, V.ref a11, V.ref a12, V.ref a13].drop 10 from rfl, List.getElem?_drop] at z
          exact z
        refine ⟨rfl, tYes_if ?_⟩
        refine ⟨_, rfl, x, 10 + m, rfl, (gB.same s3).2.2 _ x hx2, fun H4 r s4 nr er => ?_⟩
        refine ⟨us, s4 _ _ hD, small1000 (by omega), us ++ [.ref r], upd_same, by rw [List.length_append, hl]; rfl, fun k u e => ?_, fun b ob eb => ?_⟩
        · by_cases hk : k < us.length
          · rw [List.getElem?_append_left hk] at e
            obtain ⟨r', e1, e2, e3⟩ := hall k u e
            exact ⟨r', e1, e2, by rw [upd_ne e2]; exact s4 _ _ e3⟩
          · have hk2 : k < (us ++ [V.ref r]).length := (List.getElem?_eq_some_iff.mp e).1
            rw [List.length_append, List.length_singleton] at hk2
            have hk3 : k = us.length := by omega
            rw [hk3, List.getElem?_append_right (Nat.le_refl _), Nat.sub_self] at e
            cases (show some (V.ref r) = some u from e)
            have nrD : r ≠ DB := fun z => by
              rw [z, hD] at nr
              cases nr
            exact ⟨r, rfl, nrD, by rw [upd_ne nrD, hk3, hl]; exact er⟩
        · rw [upd_ne (ne_of_none eb nDB)]
          exact s4 _ _ (s3 _ _ eb)
      obtain ⟨us, hD, hl, hall, s3⟩ := hh
      have sB := vB.trans s3
      have gM2 := gB.same s3
      refine ⟨_, rfl, ?_⟩
      have dl := dp_tab (K := K) undD us 10 (fun k u e => by
        obtain ⟨r, e1, _, e3⟩ := hall k u e
        subst e1
        exact dp_und e3)
      rw [hl] at dl
      refine ⟨.list (tab undD 10 4), .list [.list [.bool false, .bool false, .bool true, .bool true, .bool false, .bool false], .list [.bool false, .bool false, .bool true, .bool false, .bool false, .bool false], .list [.bool false, .bool false, .bool true, .bool false, .bool true, .bool false], .list [.bool false, .bool false, .bool false, .bool false, .bool false, .bool true]], .lst (SqL.of hD) dl, .lst (SqL.of (sB _ _ hE)) (DpAll.cons (.lst (SqL.of (sB _ _ h2)) (.cons (.bl _) (.cons (.bl _) (.cons (.bl _) (.cons (.bl _) (.cons (.bl _) (.cons (.bl _) .nil))))))) (.cons (.lst (SqL.of (sB _ _ h5)) (.cons (.bl _) (.cons (.bl _) (.cons (.bl _) (.cons (.bl _) (.cons (.bl _) (.cons (.bl _) .nil))))))) (.cons (.lst (SqL.of (sB _ _ h9)) (.cons (.bl _) (.cons (.bl _) (.cons (.bl _) (.cons (.bl _) (.cons (.bl _) (.cons (.bl _) .nil))))))) (.cons (.lst (SqL.of (sB _ _ h12)) (.cons (.bl _) (.cons (.bl _) (.cons (.bl _) (.cons (.bl _) (.cons (.bl _) (.cons (.bl _) .nil))))))) .nil)))), by decide +kernel, by decide +kernel, _, rfl, ?_⟩
      rw [show (!PyData.eqv (.list (tab undD 10 4)) (.list [.list [.bool false, .bool false, .bool true, .bool true, .bool false, .bool false], .list [.bool false, .bool false, .bool true, .bool false, .bool false, .bool false], .list [.bool false, .bool false, .bool true, .bool false, .bool true, .bool false], .list [.bool false, .bool false, .bool false, .bool false, .bool false, .bool true]])) = false from by decide +kernel]
      exact iteF ⟨_, _, _, _, _, _, _, _, _, rfl, (smB.trans gM2.1).seq hSk⟩
end
end My
namespace My
open PySem PySem.Spec PyProof.Rows L2 LX
/-- the __init__ of the i-th class -/
def meth (i : Nat) : Stmt := match top i with
  | .ClassDef _ _ _ b _ _ _ _ _ _ _ => b.getD 0 (.Pass ⟨0, 0, 0, 0⟩)
  | s => s
/-- a built-in error class and what it rests on -/
structure Bs (B newId initId : String) (bmB : List Value) : Prop where
  FB : ∃ (B1 i1 : String) (b1 : List Value), ExcBaseFacts B1 newId i1 b1 ∧ bmB.contains (.type B1) = true
  KF : PySem.W.KxsFacts B initId
  IF : InF B initId
  pass : ∀ self : Value, refuseLoop self "__setattr__" bmB = pure ()
  ob : bmB.contains (.type "object") = true
  noA : bmB.contains (.type "AttributeError") = false
  noN : bmB.contains (.type "NameError") = false
abbrev veM : List Value := [.type "ValueError", .type "Exception", .type "BaseException", .type "object"]
abbrev leM : List Value := [.type "LookupError", .type "Exception", .type "BaseException", .type "object"]
abbrev ieM : List Value := [.type "IndexError", .type "LookupError", .type "Exception", .type "BaseException", .type "object"]
abbrev oeM : List Value := [.type "OverflowError", .type "ArithmeticError", .type "Exception", .type "BaseException", .type "object"]
theorem bVE : Bs "ValueError" "ValueError.__new__" "ValueError.__init__" veM :=
  ⟨⟨_, _, _, F.excBase_ValueError, by decide +kernel⟩, PySem.W.kxs_ValueError, .of F.excBase_ValueError.toExcCallFacts, F.store_ValueError.passes, by decide +kernel, by decide +kernel, by decide +kernel⟩
theorem bLE : Bs "LookupError" "LookupError.__new__" "LookupError.__init__" leM :=
  ⟨⟨_, _, _, F.excBase_LookupError, by decide +kernel⟩, PySem.W.kxs_LookupError, .of F.excBase_LookupError.toExcCallFacts, F.store_LookupError.passes, by decide +kernel, by decide +kernel, by decide +kernel⟩
theorem bIE : Bs "IndexError" "IndexError.__new__" "IndexError.__init__" ieM :=
  ⟨⟨_, _, _, F.excBase_IndexError, by decide +kernel⟩, PySem.W.kxs_IndexError, .of F.excBase_IndexError.toExcCallFacts, F.store_IndexError.passes, by decide +kernel, by decide +kernel, by decide +kernel⟩
theorem bOE : Bs "OverflowError" "OverflowError.__new__" "OverflowError.__init__" oeM :=
  ⟨⟨_, _, _, F.excBase_OverflowError, by decide +kernel⟩, PySem.W.kxs_OverflowError, .of F.excBase_OverflowError.toExcCallFacts, F.store_OverflowError.passes, by decide +kernel, by decide +kernel, by decide +kernel⟩
theorem bKE : Bs "KeyError" "LookupError.__new__" "KeyError.__init__" keMro :=
  ⟨⟨_, _, _, F.excBase_LookupError, by decide +kernel⟩, ke_kxs, ke_in, ke_pass, by decide +kernel, by decide +kernel, by decide +kernel⟩
/-- the text of an __init__ -/
structure Txt (st : Stmt) (p : Str) : Prop where
  ex : ∃ (msg : Str) (q0 q1 q2 q3 q4 q5 q6 q7 q8 q9 : Pos) (j : Nat) (ar a2 : Arg), defBody st = ibody p msg q0 q1 q2 q3 q4 q5 q6 q7 q8 q9 j ∧ ((defArgs st).posonlyargs ++ (defArgs st).args) = [ar, a2] ∧ ar.arg = ("self" : Str) ∧ (q2.endLine == q4.line) = true
  sc : defScope st = isc p
  b1 : ∀ (qn : Str) (kV doc pm : Value) (an : Option Addr) (cdv ct : Value) (cc : Addr) (u v : Value), bindArgs (PySem.W.ksFn "__init__" qn (defArgs st) (defBody st) (defScope st) .none kV doc pm an cdv ct cc) ⟨[u, v], []⟩ = pure [(("self" : Str), u), (p, v)]
  b2 : ∀ (qn : Str) (kV doc pm : Value) (an : Option Addr) (cdv ct : Value) (cc : Addr) (u v : Value), bindArgs (PySem.W.ksFn "__init__" qn (defArgs st) (defBody st) (defScope st) .none kV doc pm an cdv ct cc) ⟨[u], [(p, v)]⟩ = pure [(("self" : Str), u), (p, v)]
  ps : p ≠ ("self" : Str)
  pc : p ≠ ("__class__" : Str)
  pd : (p == ("__debug__" : Str)) = false
  pu : p ≠ ("super" : Str)
theorem xt0 : Txt (meth 2) "place" := ⟨⟨_, _, _, _, _, _, _, _, _, _, _, _, _, _, rfl, rfl, rfl, rfl⟩, rfl, fun _ _ _ _ _ _ _ _ _ _ => rfl, fun _ _ _ _ _ _ _ _ _ _ => rfl, by decide, by decide, by decide, by decide⟩
theorem xt1 : Txt (meth 3) "value" := ⟨⟨_, _, _, _, _, _, _, _, _, _, _, _, _, _, rfl, rfl, rfl, rfl⟩, rfl, fun _ _ _ _ _ _ _ _ _ _ => rfl, fun _ _ _ _ _ _ _ _ _ _ => rfl, by decide, by decide, by decide, by decide⟩
theorem xt2 : Txt (meth 4) "value" := ⟨⟨_, _, _, _, _, _, _, _, _, _, _, _, _, _, rfl, rfl, rfl, rfl⟩, rfl, fun _ _ _ _ _ _ _ _ _ _ => rfl, fun _ _ _ _ _ _ _ _ _ _ => rfl, by decide, by decide, by decide, by decide⟩
theorem xt3 : Txt (meth 5) "value" := ⟨⟨_, _, _, _, _, _, _, _, _, _, _, _, _, _, rfl, rfl, rfl, rfl⟩, rfl, fun _ _ _ _ _ _ _ _ _ _ => rfl, fun _ _ _ _ _ _ _ _ _ _ => rfl, by decide, by decide, by decide, by decide⟩
theorem xt4 : Txt (meth 6) "value" := ⟨⟨_, _, _, _, _, _, _, _, _, _, _, _, _, _, rfl, rfl, rfl, rfl⟩, rfl, fun _ _ _ _ _ _ _ _ _ _ => rfl, fun _ _ _ _ _ _ _ _ _ _ => rfl, by decide, by decide, by decide, by decide⟩
theorem xt5 : Txt (meth 7) "value" := ⟨⟨_, _, _, _, _, _, _, _, _, _, _, _, _, _, rfl, rfl, rfl, rfl⟩, rfl, fun _ _ _ _ _ _ _ _ _ _ => rfl, fun _ _ _ _ _ _ _ _ _ _ => rfl, by decide, by decide, by decide, by decide⟩
theorem xt6 : Txt (meth 8) "value" := ⟨⟨_, _, _, _, _, _, _, _, _, _, _, _, _, _, rfl, rfl, rfl, rfl⟩, rfl, fun _ _ _ _ _ _ _ _ _ _ => rfl, fun _ _ _ _ _ _ _ _ _ _ => rfl, by decide, by decide, by decide, by decide⟩
theorem xt7 : Txt (meth 9) "line" := ⟨⟨_, _, _, _, _, _, _, _, _, _, _, _, _, _, rfl, rfl, rfl, rfl⟩, rfl, fun _ _ _ _ _ _ _ _ _ _ => rfl, fun _ _ _ _ _ _ _ _ _ _ => rfl, by decide, by decide, by decide, by decide⟩
theorem xt8 : Txt (meth 10) "text" := ⟨⟨_, _, _, _, _, _, _, _, _, _, _, _, _, _, rfl, rfl, rfl, rfl⟩, rfl, fun _ _ _ _ _ _ _ _ _ _ => rfl, fun _ _ _ _ _ _ _ _ _ _ => rfl, by decide, by decide, by decide, by decide⟩
theorem xt9 : Txt (meth 11) "index" := ⟨⟨_, _, _, _, _, _, _, _, _, _, _, _, _, _, rfl, rfl, rfl, rfl⟩, rfl, fun _ _ _ _ _ _ _ _ _ _ => rfl, fun _ _ _ _ _ _ _ _ _ _ => rfl, by decide, by decide, by decide, by decide⟩
theorem xt10 : Txt (meth 12) "name" := ⟨⟨_, _, _, _, _, _, _, _, _, _, _, _, _, _, rfl, rfl, rfl, rfl⟩, rfl, fun _ _ _ _ _ _ _ _ _ _ => rfl, fun _ _ _ _ _ _ _ _ _ _ => rfl, by decide, by decide, by decide, by decide⟩
theorem xt11 : Txt (meth 13) "name" := ⟨⟨_, _, _, _, _, _, _, _, _, _, _, _, _, _, rfl, rfl, rfl, rfl⟩, rfl, fun _ _ _ _ _ _ _ _ _ _ => rfl, fun _ _ _ _ _ _ _ _ _ _ => rfl, by decide, by decide, by decide, by decide⟩
theorem xt12 : Txt (meth 14) "value" := ⟨⟨_, _, _, _, _, _, _, _, _, _, _, _, _, _, rfl, rfl, rfl, rfl⟩, rfl, fun _ _ _ _ _ _ _ _ _ _ => rfl, fun _ _ _ _ _ _ _ _ _ _ => rfl, by decide, by decide, by decide, by decide⟩
theorem xt13 : Txt (meth 15) "count" := ⟨⟨_, _, _, _, _, _, _, _, _, _, _, _, _, _, rfl, rfl, rfl, rfl⟩, rfl, fun _ _ _ _ _ _ _ _ _ _ => rfl, fun _ _ _ _ _ _ _ _ _ _ => rfl, by decide, by decide, by decide, by decide⟩
theorem ek_mk {P : Program} {K : PySem.W.Frag} {h : Heap} {mg : Str → Option Value} {x p : Str} {C fI cc cda : Addr} {B newId initId : String} {bmB : List Value} {st : Stmt} {kV doc pm ct oc ccl cl : Value} {an od cdd cld : Option Addr} {osl ccs csl : Array (Option Value)} {vs : Array Value} {qn : Str}
    (b : Bs B newId initId bmB) (X : Txt st p) (KX : K.In h) (G : h.Ns mainGlobals mg) (noany : PySem.W.nsIn K cStatics "thirdparty.any" = some none) (topS : (P.main.scope.names.lookup ("super" : Str)).isSome = false)
    (hn : PySem.W.nsIn K mainGlobals x = some (some (.ref C))) (q : PySem.W.excInitIn K C bmB newId = true) (ov : PySem.W.excOver K C bmB = true)
    (i1 : PySem.W.findIn K (.ref C) "__init__" = some (some (.ref fI))) (i2 : PySem.W.typeIn K (.ref fI) = some (.type "function"))
    (l : K.lookup fI = some ⟨oc, od, .func (PySem.W.ksFn "__init__" qn (defArgs st) (defBody st) (defScope st) .none kV doc pm an (.ref cda) ct cc), osl⟩)
    (c : PySem.W.codeIn K (.ref cda) qn = true) (d : K.lookup cda = some ⟨ccl, cdd, .fields vs, ccs⟩) (fl : ∃ (file : Str) (tf : Tok), vs[2]? = some (.str file tf) ∧ ((P.main.file : Str) == file) = true)
    (ce : K.lookup cc = some ⟨cl, cld, .cell (some (.ref C)), csl⟩) (sp : PySem.W.ks_superIn K C C "__init__" = some (some (.builtin initId))) (sB : PySem.W.subIn K (.ref C) (.type B) = some true) (sC : PySem.W.mroIn K C (.ref C) = some true)
    (sa : PySem.W.findIn K (.ref C) "__setattr__" = some (some (.builtin "object.__setattr__"))) (hd : PySem.W.hasDictIn K C = true) (hf : PySem.W.findIn K (.ref C) p = some none)
    (ga : PySem.W.findIn K (.ref C) "__getattribute__" = some (some (.builtin "BaseException.__getattribute__"))) (gg : PySem.W.findIn K (.ref C) "__getattr__" = some none) (eC : PySem.W.subIn K (.ref C) (.type "BaseException") = some true)
    (clz : PySem.W.findIn K (.ref C) "__class__" = some (some (.builtin "object.__class__"))) (obj : PySem.W.mroIn K C (.type "object") = some true) (kp : PySem.W.keepIn K (.ref C) = true) : EK P K mg x p C := by
  obtain ⟨⟨msg, q0, q1, q2, q3, q4, q5, q6, q7, q8, q9, j, ar, a2, hb, hp, ha, hq⟩, hs, b1, b2, ps, pc, pd, pu⟩ := X
  obtain ⟨file, tf, v2, hfile⟩ := fl
  refine ⟨⟨[], B, newId, initId, bmB, ⟨b.FB, b.noA, b.noN, b.IF, b.KF, b.pass, b.ob, q, ov, ?_, noany, sp, sB, sC, topS, sa, hd, hf, ps, pc, pd, pu⟩⟩, PySem.W.mg_of KX G hn, kp, ⟨ga, gg, eC, hd, hf⟩, ⟨ga, gg, eC, hd, clz, obj⟩⟩
  rw [hb, hs] at l
  refine ⟨fI, cc, cda, defArgs st, msg, q0, q1, q2, q3, q4, q5, q6, q7, q8, q9, j, kV, doc, pm, ct, an, oc, od, osl, ar, a2, ccl, cl, cdd, cld, ccs, csl, vs, file, tf, qn, i1, i2, l, c, hp, ha, fun u v => ?_, fun u v => ?_, d, v2, hfile, ce, hq⟩
  · rw [← hb, ← hs]
    exact b1 _ _ _ _ _ _ _ _ _ _
  · rw [← hb, ← hs]
    exact b2 _ _ _ _ _ _ _ _ _ _
end My
namespace My
open PySem PySem.Spec PyProof.Rows L2 LX
theorem own_of {K : PySem.W.Frag} {cs : List Addr} (h : (cs.map fun D => cs.map fun c => PySem.W.kitOne K (.ref D) (.ref c)) = (List.range cs.length).map fun j => (List.range cs.length).map fun i => some (decide (i = j))) :
    ∀ (i j : Nat) (Ci Cj : Addr), cs[i]? = some Ci → cs[j]? = some Cj → PySem.W.kitOne K (.ref Cj) (.ref Ci) = some (decide (i = j)) := by
  intro i j Ci Cj hi hj
  have li := (List.getElem?_eq_some_iff.mp hi).1
  have lj := (List.getElem?_eq_some_iff.mp hj).1
  have a := congrArg (fun z => z[j]?) h
  simp only [List.getElem?_map, hj, List.getElem?_range lj, Option.map_some] at a
  have b := congrArg (fun z => z[i]?) (Option.some.inj a)
  simp only [List.getElem?_map, hi, List.getElem?_range li, Option.map_some] at b
  exact Option.some.inj b
theorem und_of {K : PySem.W.Frag} {cs : List Addr} {vs : List Value} {f : Nat → Nat → Bool} (h : (cs.map fun D => vs.map fun c => PySem.W.kitOne K (.ref D) c) = (List.range cs.length).map fun j => (List.range vs.length).map fun i => some (f i j)) :
    ∀ (i j : Nat) (v : Value) (Cj : Addr), vs[i]? = some v → cs[j]? = some Cj → PySem.W.kitOne K (.ref Cj) v = some (f i j) := by
  intro i j v Cj hi hj
  have li := (List.getElem?_eq_some_iff.mp hi).1
  have lj := (List.getElem?_eq_some_iff.mp hj).1
  have a := congrArg (fun z => z[j]?) h
  simp only [List.getElem?_map, hj, List.getElem?_range lj, Option.map_some] at a
  have b := congrArg (fun z => z[i]?) (Option.some.inj a)
  simp only [List.getElem?_map, hi, List.getElem?_range li, Option.map_some] at b
  exact Option.some.inj b
theorem all_mk {l : PySem.W.OpenLaw} {w : World} {K : PySem.W.Frag} {h : Heap} {mg : Str → Option Value} {fa f1 f2 f3 f4 f5 f6 : Addr} (X : K.In h) (G : h.Ns mainGlobals mg) (hfa : mg "law" = some (.ref fa))
    {od1 an1 od2 an2 od3 an3 od4 an4 od5 an5 od6 an6 : Option Addr} {sl1 sl2 sl3 sl4 sl5 sl6 : Array (Option Value)} {oc1 kV1 dc1 pm1 cd1 ct1 oc2 kV2 dc2 pm2 cd2 ct2 oc3 kV3 dc3 pm3 cd3 ct3 oc4 kV4 dc4 pm4 cd4 ct4 oc5 kV5 dc5 pm5 cd5 ct5 oc6 kV6 dc6 pm6 cd6 ct6 : Value}
    (a1 : PySem.W.nsIn K mainGlobals "_law_pool" = some (some (.ref f1))) (l1 : K.lookup f1 = some ⟨oc1, od1, .func (PySem.W.fnOf "_law_pool" "_law_pool" (defArgs sPool) (defBody sPool) (defScope sPool) .none kV1 dc1 pm1 an1 cd1 ct1), sl1⟩) (c1 : PySem.W.codeIn K cd1 "_law_pool" = true) (k1 : PySem.W.keepIn K (.ref f1) = true)
    (a2 : PySem.W.nsIn K mainGlobals "_law_draw" = some (some (.ref f2))) (l2 : K.lookup f2 = some ⟨oc2, od2, .func (PySem.W.fnOf "_law_draw" "_law_draw" (defArgs sDraw) (defBody sDraw) (defScope sDraw) .none kV2 dc2 pm2 an2 cd2 ct2), sl2⟩) (c2 : PySem.W.codeIn K cd2 "_law_draw" = true) (k2 : PySem.W.keepIn K (.ref f2) = true)
    (a3 : PySem.W.nsIn K mainGlobals "_law_own" = some (some (.ref f3))) (l3 : K.lookup f3 = some ⟨oc3, od3, .func (PySem.W.fnOf "_law_own" "_law_own" (defArgs sOwn) (defBody sOwn) (defScope sOwn) .none kV3 dc3 pm3 an3 cd3 ct3), sl3⟩) (c3 : PySem.W.codeIn K cd3 "_law_own" = true) (k3 : PySem.W.keepIn K (.ref f3) = true)
    (a4 : PySem.W.nsIn K mainGlobals "_law_under" = some (some (.ref f4))) (l4 : K.lookup f4 = some ⟨oc4, od4, .func (PySem.W.fnOf "_law_under" "_law_under" (defArgs sUnder) (defBody sUnder) (defScope sUnder) .none kV4 dc4 pm4 an4 cd4 ct4), sl4⟩) (c4 : PySem.W.codeIn K cd4 "_law_under" = true) (k4 : PySem.W.keepIn K (.ref f4) = true)
    (a5 : PySem.W.nsIn K mainGlobals "_law_fields_hold" = some (some (.ref f5))) (l5 : K.lookup f5 = some ⟨oc5, od5, .func (PySem.W.fnOf "_law_fields_hold" "_law_fields_hold" (defArgs sFields) (defBody sFields) (defScope sFields) .none kV5 dc5 pm5 an5 cd5 ct5), sl5⟩) (c5 : PySem.W.codeIn K cd5 "_law_fields_hold" = true) (k5 : PySem.W.keepIn K (.ref f5) = true)
    (a6 : PySem.W.nsIn K mainGlobals "law" = some (some (.ref f6))) (l6 : K.lookup f6 = some ⟨oc6, od6, .func (PySem.W.fnOf "law" "law" (defArgs sLaw) (defBody sLaw) (defScope sLaw) .none kV6 dc6 pm6 an6 cd6 ct6), sl6⟩) (c6 : PySem.W.codeIn K cd6 "law" = true) (k6 : PySem.W.keepIn K (.ref f6) = true)
    (z_sum : PySem.W.nsIn K mainGlobals "sum" = some none)
    (z_len : PySem.W.nsIn K mainGlobals "len" = some none)
    (z_abs : PySem.W.nsIn K mainGlobals "abs" = some none)
    (z_int : PySem.W.nsIn K mainGlobals "int" = some none)
    (z_isinstance : PySem.W.nsIn K mainGlobals "isinstance" = some none)
    (z_ValueError : PySem.W.nsIn K mainGlobals "ValueError" = some none)
    (z_LookupError : PySem.W.nsIn K mainGlobals "LookupError" = some none)
    (z_KeyError : PySem.W.nsIn K mainGlobals "KeyError" = some none)
    (z_IndexError : PySem.W.nsIn K mainGlobals "IndexError" = some none)
    (z_OverflowError : PySem.W.nsIn K mainGlobals "OverflowError" = some none)
    (z_range : PySem.W.nsIn K mainGlobals "range" = some none)
    (z_max : PySem.W.nsIn K mainGlobals "max" = some none)
    (z_min : PySem.W.nsIn K mainGlobals "min" = some none)
    (z_enumerate : PySem.W.nsIn K mainGlobals "enumerate" = some none)
    {y0 y1 y2 y3 y4 y5 y6 y7 y8 y9 y10 y11 y12 y13 r : Addr} (E : Errs l.prog K mg y0 y1 y2 y3 y4 y5 y6 y7 y8 y9 y10 y11 y12 y13 r)
    : ∃ fd : FuncData, (∀ (s : Shared) (v : Value), BindsTo s fd ⟨[v], []⟩ [("_law_script", v)]) ∧ ∀ base : Heap, K.In base → base.Ns mainGlobals mg → FnOk l.prog w K mg base CX0 4 fa fd ["_law_script"] (spLaw K) := by
  have e := hfa.symm.trans (PySem.W.mg_of X G a6)
  cases e
  have F1 := fun_mk (st := sPool) l1 c1 k1
  have g1 := PySem.W.mg_of X G a1
  have b1 := F1.binds (ps := ["_law_script", "_law_k"]) fun _ _ _ _ _ _ us hl => match us, hl with | [_, _], _ => rfl
  have F2 := fun_mk (st := sDraw) l2 c2 k2
  have g2 := PySem.W.mg_of X G a2
  have b2 := F2.binds (ps := ["_law_pool_here", "_law_many"]) fun _ _ _ _ _ _ us hl => match us, hl with | [_, _], _ => rfl
  have F3 := fun_mk (st := sOwn) l3 c3 k3
  have g3 := PySem.W.mg_of X G a3
  have b3 := F3.binds (ps := ["_law_error"]) fun _ _ _ _ _ _ us hl => match us, hl with | [_], _ => rfl
  have F4 := fun_mk (st := sUnder) l4 c4 k4
  have g4 := PySem.W.mg_of X G a4
  have b4 := F4.binds (ps := ["_law_error"]) fun _ _ _ _ _ _ us hl => match us, hl with | [_], _ => rfl
  have F5 := fun_mk (st := sFields) l5 c5 k5
  have g5 := PySem.W.mg_of X G a5
  have b5 := F5.binds (ps := ["_law_a"]) fun _ _ _ _ _ _ us hl => match us, hl with | [_], _ => rfl
  have F6 := fun_mk (st := sLaw) l6 c6 k6
  have m_sum := PySem.W.mg_none_of X G z_sum
  have m_len := PySem.W.mg_none_of X G z_len
  have m_abs := PySem.W.mg_none_of X G z_abs
  have m_int := PySem.W.mg_none_of X G z_int
  have m_isinstance := PySem.W.mg_none_of X G z_isinstance
  have m_ValueError := PySem.W.mg_none_of X G z_ValueError
  have m_LookupError := PySem.W.mg_none_of X G z_LookupError
  have m_KeyError := PySem.W.mg_none_of X G z_KeyError
  have m_IndexError := PySem.W.mg_none_of X G z_IndexError
  have m_OverflowError := PySem.W.mg_none_of X G z_OverflowError
  have m_range := PySem.W.mg_none_of X G z_range
  have m_max := PySem.W.mg_none_of X G z_max
  have m_min := PySem.W.mg_none_of X G z_min
  have m_enumerate := PySem.W.mg_none_of X G z_enumerate
  exact ⟨_, fun s v => .of_eq rfl, fun base _ _ =>
    ok_law F6 E ⟨m_range, m_max, m_min, m_len, m_enumerate⟩ F1 b1 g1 (ok_pool F1 ⟨m_sum, m_len, m_abs, m_int⟩) F2 b2 g2 (ok_draw F2)
      F3 b3 g3 (ok_own F3 ⟨m_isinstance, m_ValueError, m_LookupError, m_KeyError, m_IndexError, m_OverflowError⟩ E) F4 b4 g4 (ok_under F4 ⟨m_isinstance, m_ValueError, m_LookupError, m_KeyError, m_IndexError, m_OverflowError⟩ E) F5 b5 g5 (ok_fields F5 E)⟩
theorem walk {l : PySem.W.OpenLaw} {q : Program} {loose : List Str} {XP : (Str → Option Value) → Heap → Prop} {YP : World → Heap → Prop} {d : DefRec} {K : Params → PySem.W.Frag} (hn : l.most = some 63) (hdf : d.params.defaults = [])
    (hY : ∀ (w : World) (h : Heap), YP w h → (K w.params).In h)
    (F : ∀ (w : World) (mg : Str → Option Value) (fa : Addr) (h : Heap), (K w.params).In h → h.Ns mainGlobals mg → mg d.name = some (.ref fa) →
      ∃ fd : FuncData, (∀ (s : Shared) (u : Value), BindsTo s fd ⟨[u], []⟩ [("_law_script", u)]) ∧ ∀ base : Heap, (K w.params).In base → base.Ns mainGlobals mg → FnOk l.prog w (K w.params) mg base CX0 4 fa fd ["_law_script"] (spLaw (K w.params))) :
    PySem.W.WalkO q loose XP YP l.row.toRowW d [] (fun f vs => PySem.call f vs) :=
  L2.walk_of (n := 63) (k := 4) (x := "_law_script") (CX := fun _ => CX0) (sp := fun w => spLaw (K w.params)) hn (by decide) hdf ⟨rfl, by decide, by decide⟩ hY F (fun _ _ a ns hl _ hS => ⟨a, ns, rfl, hS, hl, fun _ => rfl⟩) fun _ _ _ _ _ z => z
end My

open PySem PySem.W PyProof.Rows in
set_option maxRecDepth 100000 in
set_option maxHeartbeats 0 in
theorem PySem.Challenge.cw_mendedruns_k07_classes_of_errors_holds : PySem.Challenge.rw_mendedruns_k07_classes_of_errors.Holds := by
  w_on; o_law; k_head; (case hw => w_witness2)
  k_fill
  refine My.walk (l := PySem.Challenge.rw_mendedruns_k07_classes_of_errors) rfl rfl (fun w h Y => PySem.W.kIn_of Y) ?F
  case F =>
    intro w mg fa h KX G hmg
    refine' My.all_mk KX G hmg ?a1 ?l1 ?c1 ?k1 ?a2 ?l2 ?c2 ?k2 ?a3 ?l3 ?c3 ?k3 ?a4 ?l4 ?c4 ?k4 ?a5 ?l5 ?c5 ?k5 ?a6 ?l6 ?c6 ?k6 ?z_sum ?z_len ?z_abs ?z_int ?z_isinstance ?z_ValueError ?z_LookupError ?z_KeyError ?z_IndexError ?z_OverflowError ?z_range ?z_max ?z_min ?z_enumerate ?E
    (case a1 => k_is)
    (case l1 => k_is)
    (case c1 => k_is)
    (case k1 => k_is)
    (case a2 => k_is)
    (case l2 => k_is)
    (case c2 => k_is)
    (case k2 => k_is)
    (case a3 => k_is)
    (case l3 => k_is)
    (case c3 => k_is)
    (case k3 => k_is)
    (case a4 => k_is)
    (case l4 => k_is)
    (case c4 => k_is)
    (case k4 => k_is)
    (case a5 => k_is)
    (case l5 => k_is)
    (case c5 => k_is)
    (case k5 => k_is)
    (case a6 => k_is)
    (case l6 => k_is)
    (case c6 => k_is)
    (case k6 => k_is)
    (case z_sum => k_is)
    (case z_len => k_is)
    (case z_abs => k_is)
    (case z_int => k_is)
    (case z_isinstance => k_is)
    (case z_ValueError => k_is)
    (case z_LookupError => k_is)
    (case z_KeyError => k_is)
    (case z_IndexError => k_is)
    (case z_OverflowError => k_is)
    (case z_range => k_is)
    (case z_max => k_is)
    (case z_min => k_is)
    (case z_enumerate => k_is)
    (case E =>
      refine' ⟨?sup, ⟨?sp, ?tk⟩, ?e0, ?e1, ?e2, ?e3, ?e4, ?e5, ?e6, ?e7, ?e8, ?e9, ?e10, ?e11, ?e12, ?e13, ?gr, ?own, ?und⟩
      (case e0 =>
        refine' My.ek_mk My.bVE My.xt0 KX G ?u0noany ?u0topS ?u0hn ?u0q ?u0ov ?u0i1 ?u0i2 ?u0l ?u0c ?u0d ?u0fl ?u0ce ?u0sp ?u0sB ?u0sC ?u0sa ?u0hd ?u0hf ?u0ga ?u0gg ?u0eC ?u0clz ?u0obj ?u0kp
        (case u0hn => k_is)
        (case u0i1 => k_is)
        (case u0i2 => k_is)
        (case u0l => k_is)
        (case u0c => k_is)
        (case u0d => k_is)
        (case u0fl => exact ⟨_, _, rfl, by first | rfl | decide +kernel⟩)
        (case u0ce => k_is)
        (case u0noany => k_is)
        (case u0topS => decide +kernel)
        (case u0q => kx_is)
        (case u0ov => kx_is)
        (case u0sp => ks_is)
        (case u0sB => k_is)
        (case u0sC => k_is)
        (case u0sa => k_is)
        (case u0hd => k_is)
        (case u0hf => k_is)
        (case u0ga => k_is)
        (case u0gg => k_is)
        (case u0eC => k_is)
        (case u0clz => k_is)
        (case u0obj => k_is)
        (case u0kp => k_is))
      (case e1 =>
        refine' My.ek_mk My.bVE My.xt1 KX G ?u1noany ?u1topS ?u1hn ?u1q ?u1ov ?u1i1 ?u1i2 ?u1l ?u1c ?u1d ?u1fl ?u1ce ?u1sp ?u1sB ?u1sC ?u1sa ?u1hd ?u1hf ?u1ga ?u1gg ?u1eC ?u1clz ?u1obj ?u1kp
        (case u1hn => k_is)
        (case u1i1 => k_is)
        (case u1i2 => k_is)
        (case u1l => k_is)
        (case u1c => k_is)
        (case u1d => k_is)
        (case u1fl => exact ⟨_, _, rfl, by first | rfl | decide +kernel⟩)
        (case u1ce => k_is)
        (case u1noany => k_is)
        (case u1topS => decide +kernel)
        (case u1q => kx_is)
        (case u1ov => kx_is)
        (case u1sp => ks_is)
        (case u1sB => k_is)
        (case u1sC => k_is)
        (case u1sa => k_is)
        (case u1hd => k_is)
        (case u1hf => k_is)
        (case u1ga => k_is)
        (case u1gg => k_is)
        (case u1eC => k_is)
        (case u1clz => k_is)
        (case u1obj => k_is)
        (case u1kp => k_is))
      (case e2 =>
        refine' My.ek_mk My.bVE My.xt2 KX G ?u2noany ?u2topS ?u2hn ?u2q ?u2ov ?u2i1 ?u2i2 ?u2l ?u2c ?u2d ?u2fl ?u2ce ?u2sp ?u2sB ?u2sC ?u2sa ?u2hd ?u2hf ?u2ga ?u2gg ?u2eC ?u2clz ?u2obj ?u2kp
        (case u2hn => k_is)
        (case u2i1 => k_is)
        (case u2i2 => k_is)
        (case u2l => k_is)
        (case u2c => k_is)
        (case u2d => k_is)
        (case u2fl => exact ⟨_, _, rfl, by first | rfl | decide +kernel⟩)
        (case u2ce => k_is)
        (case u2noany => k_is)
        (case u2topS => decide +kernel)
        (case u2q => kx_is)
        (case u2ov => kx_is)
        (case u2sp => ks_is)
        (case u2sB => k_is)
        (case u2sC => k_is)
        (case u2sa => k_is)
        (case u2hd => k_is)
        (case u2hf => k_is)
        (case u2ga => k_is)
        (case u2gg => k_is)
        (case u2eC => k_is)
        (case u2clz => k_is)
        (case u2obj => k_is)
        (case u2kp => k_is))
      (case e3 =>
        refine' My.ek_mk My.bVE My.xt3 KX G ?u3noany ?u3topS ?u3hn ?u3q ?u3ov ?u3i1 ?u3i2 ?u3l ?u3c ?u3d ?u3fl ?u3ce ?u3sp ?u3sB ?u3sC ?u3sa ?u3hd ?u3hf ?u3ga ?u3gg ?u3eC ?u3clz ?u3obj ?u3kp
        (case u3hn => k_is)
        (case u3i1 => k_is)
        (case u3i2 => k_is)
        (case u3l => k_is)
        (case u3c => k_is)
        (case u3d => k_is)
        (case u3fl => exact ⟨_, _, rfl, by first | rfl | decide +kernel⟩)
        (case u3ce => k_is)
        (case u3noany => k_is)
        (case u3topS => decide +kernel)
        (case u3q => kx_is)
        (case u3ov => kx_is)
        (case u3sp => ks_is)
        (case u3sB => k_is)
        (case u3sC => k_is)
        (case u3sa => k_is)
        (case u3hd => k_is)
        (case u3hf => k_is)
        (case u3ga => k_is)
        (case u3gg => k_is)
        (case u3eC => k_is)
        (case u3clz => k_is)
        (case u3obj => k_is)
        (case u3kp => k_is))
      (case e4 =>
        refine' My.ek_mk My.bVE My.xt4 KX G ?u4noany ?u4topS ?u4hn ?u4q ?u4ov ?u4i1 ?u4i2 ?u4l ?u4c ?u4d ?u4fl ?u4ce ?u4sp ?u4sB ?u4sC ?u4sa ?u4hd ?u4hf ?u4ga ?u4gg ?u4eC ?u4clz ?u4obj ?u4kp
        (case u4hn => k_is)
        (case u4i1 => k_is)
        (case u4i2 => k_is)
        (case u4l => k_is)
        (case u4c => k_is)
        (case u4d => k_is)
        (case u4fl => exact ⟨_, _, rfl, by first | rfl | decide +kernel⟩)
        (case u4ce => k_is)
        (case u4noany => k_is)
        (case u4topS => decide +kernel)
        (case u4q => kx_is)
        (case u4ov => kx_is)
        (case u4sp => ks_is)
        (case u4sB => k_is)
        (case u4sC => k_is)
        (case u4sa => k_is)
        (case u4hd => k_is)
        (case u4hf => k_is)
        (case u4ga => k_is)
        (case u4gg => k_is)
        (case u4eC => k_is)
        (case u4clz => k_is)
        (case u4obj => k_is)
        (case u4kp => k_is))
      (case e5 =>
        refine' My.ek_mk My.bVE My.xt5 KX G ?u5noany ?u5topS ?u5hn ?u5q ?u5ov ?u5i1 ?u5i2 ?u5l ?u5c ?u5d ?u5fl ?u5ce ?u5sp ?u5sB ?u5sC ?u5sa ?u5hd ?u5hf ?u5ga ?u5gg ?u5eC ?u5clz ?u5obj ?u5kp
        (case u5hn => k_is)
        (case u5i1 => k_is)
        (case u5i2 => k_is)
        (case u5l => k_is)
        (case u5c => k_is)
        (case u5d => k_is)
        (case u5fl => exact ⟨_, _, rfl, by first | rfl | decide +kernel⟩)
        (case u5ce => k_is)
        (case u5noany => k_is)
        (case u5topS => decide +kernel)
        (case u5q => kx_is)
        (case u5ov => kx_is)
        (case u5sp => ks_is)
        (case u5sB => k_is)
        (case u5sC => k_is)
        (case u5sa => k_is)
        (case u5hd => k_is)
        (case u5hf => k_is)
        (case u5ga => k_is)
        (case u5gg => k_is)
        (case u5eC => k_is)
        (case u5clz => k_is)
        (case u5obj => k_is)
        (case u5kp => k_is))
      (case e6 =>
        refine' My.ek_mk My.bVE My.xt6 KX G ?u6noany ?u6topS ?u6hn ?u6q ?u6ov ?u6i1 ?u6i2 ?u6l ?u6c ?u6d ?u6fl ?u6ce ?u6sp ?u6sB ?u6sC ?u6sa ?u6hd ?u6hf ?u6ga ?u6gg ?u6eC ?u6clz ?u6obj ?u6kp
        (case u6hn => k_is)
        (case u6i1 => k_is)
        (case u6i2 => k_is)
        (case u6l => k_is)
        (case u6c => k_is)
        (case u6d => k_is)
        (case u6fl => exact ⟨_, _, rfl, by first | rfl | decide +kernel⟩)
        (case u6ce => k_is)
        (case u6noany => k_is)
        (case u6topS => decide +kernel)
        (case u6q => kx_is)
        (case u6ov => kx_is)
        (case u6sp => ks_is)
        (case u6sB => k_is)
        (case u6sC => k_is)
        (case u6sa => k_is)
        (case u6hd => k_is)
        (case u6hf => k_is)
        (case u6ga => k_is)
        (case u6gg => k_is)
        (case u6eC => k_is)
        (case u6clz => k_is)
        (case u6obj => k_is)
        (case u6kp => k_is))
      (case e7 =>
        refine' My.ek_mk My.bVE My.xt7 KX G ?u7noany ?u7topS ?u7hn ?u7q ?u7ov ?u7i1 ?u7i2 ?u7l ?u7c ?u7d ?u7fl ?u7ce ?u7sp ?u7sB ?u7sC ?u7sa ?u7hd ?u7hf ?u7ga ?u7gg ?u7eC ?u7clz ?u7obj ?u7kp
        (case u7hn => k_is)
        (case u7i1 => k_is)
        (case u7i2 => k_is)
        (case u7l => k_is)
        (case u7c => k_is)
        (case u7d => k_is)
        (case u7fl => exact ⟨_, _, rfl, by first | rfl | decide +kernel⟩)
        (case u7ce => k_is)
        (case u7noany => k_is)
        (case u7topS => decide +kernel)
        (case u7q => kx_is)
        (case u7ov => kx_is)
        (case u7sp => ks_is)
        (case u7sB => k_is)
        (case u7sC => k_is)
        (case u7sa => k_is)
        (case u7hd => k_is)
        (case u7hf => k_is)
        (case u7ga => k_is)
        (case u7gg => k_is)
        (case u7eC => k_is)
        (case u7clz => k_is)
        (case u7obj => k_is)
        (case u7kp => k_is))
      (case e8 =>
        refine' My.ek_mk My.bVE My.xt8 KX G ?u8noany ?u8topS ?u8hn ?u8q ?u8ov ?u8i1 ?u8i2 ?u8l ?u8c ?u8d ?u8fl ?u8ce ?u8sp ?u8sB ?u8sC ?u8sa ?u8hd ?u8hf ?u8ga ?u8gg ?u8eC ?u8clz ?u8obj ?u8kp
        (case u8hn => k_is)
        (case u8i1 => k_is)
        (case u8i2 => k_is)
        (case u8l => k_is)
        (case u8c => k_is)
        (case u8d => k_is)
        (case u8fl => exact ⟨_, _, rfl, by first | rfl | decide +kernel⟩)
        (case u8ce => k_is)
        (case u8noany => k_is)
        (case u8topS => decide +kernel)
        (case u8q => kx_is)
        (case u8ov => kx_is)
        (case u8sp => ks_is)
        (case u8sB => k_is)
        (case u8sC => k_is)
        (case u8sa => k_is)
        (case u8hd => k_is)
        (case u8hf => k_is)
        (case u8ga => k_is)
        (case u8gg => k_is)
        (case u8eC => k_is)
        (case u8clz => k_is)
        (case u8obj => k_is)
        (case u8kp => k_is))
      (case e9 =>
        refine' My.ek_mk My.bVE My.xt9 KX G ?u9noany ?u9topS ?u9hn ?u9q ?u9ov ?u9i1 ?u9i2 ?u9l ?u9c ?u9d ?u9fl ?u9ce ?u9sp ?u9sB ?u9sC ?u9sa ?u9hd ?u9hf ?u9ga ?u9gg ?u9eC ?u9clz ?u9obj ?u9kp
        (case u9hn => k_is)
        (case u9i1 => k_is)
        (case u9i2 => k_is)
        (case u9l => k_is)
        (case u9c => k_is)
        (case u9d => k_is)
        (case u9fl => exact ⟨_, _, rfl, by first | rfl | decide +kernel⟩)
        (case u9ce => k_is)
        (case u9noany => k_is)
        (case u9topS => decide +kernel)
        (case u9q => kx_is)
        (case u9ov => kx_is)
        (case u9sp => ks_is)
        (case u9sB => k_is)
        (case u9sC => k_is)
        (case u9sa => k_is)
        (case u9hd => k_is)
        (case u9hf => k_is)
        (case u9ga => k_is)
        (case u9gg => k_is)
        (case u9eC => k_is)
        (case u9clz => k_is)
        (case u9obj => k_is)
        (case u9kp => k_is))
      (case e10 =>
        refine' My.ek_mk My.bKE My.xt10 KX G ?u10noany ?u10topS ?u10hn ?u10q ?u10ov ?u10i1 ?u10i2 ?u10l ?u10c ?u10d ?u10fl ?u10ce ?u10sp ?u10sB ?u10sC ?u10sa ?u10hd ?u10hf ?u10ga ?u10gg ?u10eC ?u10clz ?u10obj ?u10kp
        (case u10hn => k_is)
        (case u10i1 => k_is)
        (case u10i2 => k_is)
        (case u10l => k_is)
        (case u10c => k_is)
        (case u10d => k_is)
        (case u10fl => exact ⟨_, _, rfl, by first | rfl | decide +kernel⟩)
        (case u10ce => k_is)
        (case u10noany => k_is)
        (case u10topS => decide +kernel)
        (case u10q => kx_is)
        (case u10ov => kx_is)
        (case u10sp => ks_is)
        (case u10sB => k_is)
        (case u10sC => k_is)
        (case u10sa => k_is)
        (case u10hd => k_is)
        (case u10hf => k_is)
        (case u10ga => k_is)
        (case u10gg => k_is)
        (case u10eC => k_is)
        (case u10clz => k_is)
        (case u10obj => k_is)
        (case u10kp => k_is))
      (case e11 =>
        refine' My.ek_mk My.bLE My.xt11 KX G ?u11noany ?u11topS ?u11hn ?u11q ?u11ov ?u11i1 ?u11i2 ?u11l ?u11c ?u11d ?u11fl ?u11ce ?u11sp ?u11sB ?u11sC ?u11sa ?u11hd ?u11hf ?u11ga ?u11gg ?u11eC ?u11clz ?u11obj ?u11kp
        (case u11hn => k_is)
        (case u11i1 => k_is)
        (case u11i2 => k_is)
        (case u11l => k_is)
        (case u11c => k_is)
        (case u11d => k_is)
        (case u11fl => exact ⟨_, _, rfl, by first | rfl | decide +kernel⟩)
        (case u11ce => k_is)
        (case u11noany => k_is)
        (case u11topS => decide +kernel)
        (case u11q => kx_is)
        (case u11ov => kx_is)
        (case u11sp => ks_is)
        (case u11sB => k_is)
        (case u11sC => k_is)
        (case u11sa => k_is)
        (case u11hd => k_is)
        (case u11hf => k_is)
        (case u11ga => k_is)
        (case u11gg => k_is)
        (case u11eC => k_is)
        (case u11clz => k_is)
        (case u11obj => k_is)
        (case u11kp => k_is))
      (case e12 =>
        refine' My.ek_mk My.bIE My.xt12 KX G ?u12noany ?u12topS ?u12hn ?u12q ?u12ov ?u12i1 ?u12i2 ?u12l ?u12c ?u12d ?u12fl ?u12ce ?u12sp ?u12sB ?u12sC ?u12sa ?u12hd ?u12hf ?u12ga ?u12gg ?u12eC ?u12clz ?u12obj ?u12kp
        (case u12hn => k_is)
        (case u12i1 => k_is)
        (case u12i2 => k_is)
        (case u12l => k_is)
        (case u12c => k_is)
        (case u12d => k_is)
        (case u12fl => exact ⟨_, _, rfl, by first | rfl | decide +kernel⟩)
        (case u12ce => k_is)
        (case u12noany => k_is)
        (case u12topS => decide +kernel)
        (case u12q => kx_is)
        (case u12ov => kx_is)
        (case u12sp => ks_is)
        (case u12sB => k_is)
        (case u12sC => k_is)
        (case u12sa => k_is)
        (case u12hd => k_is)
        (case u12hf => k_is)
        (case u12ga => k_is)
        (case u12gg => k_is)
        (case u12eC => k_is)
        (case u12clz => k_is)
        (case u12obj => k_is)
        (case u12kp => k_is))
      (case e13 =>
        refine' My.ek_mk My.bOE My.xt13 KX G ?u13noany ?u13topS ?u13hn ?u13q ?u13ov ?u13i1 ?u13i2 ?u13l ?u13c ?u13d ?u13fl ?u13ce ?u13sp ?u13sB ?u13sC ?u13sa ?u13hd ?u13hf ?u13ga ?u13gg ?u13eC ?u13clz ?u13obj ?u13kp
        (case u13hn => k_is)
        (case u13i1 => k_is)
        (case u13i2 => k_is)
        (case u13l => k_is)
        (case u13c => k_is)
        (case u13d => k_is)
        (case u13fl => exact ⟨_, _, rfl, by first | rfl | decide +kernel⟩)
        (case u13ce => k_is)
        (case u13noany => k_is)
        (case u13topS => decide +kernel)
        (case u13q => kx_is)
        (case u13ov => kx_is)
        (case u13sp => ks_is)
        (case u13sB => k_is)
        (case u13sC => k_is)
        (case u13sa => k_is)
        (case u13hd => k_is)
        (case u13hf => k_is)
        (case u13ga => k_is)
        (case u13gg => k_is)
        (case u13eC => k_is)
        (case u13clz => k_is)
        (case u13obj => k_is)
        (case u13kp => k_is))
      (case sup => exact PySem.W.mg_none_of KX G (by k_is))
      (case sp => k_is)
      (case tk => k_is)
      (case gr => refine' PySem.W.mg_of KX G ?_; k_is)
      (case own => exact My.own_of (by kernel_rfl))
      (case und => exact My.und_of (by kernel_rfl)))

import PyProof.Rows.All
import Wide.All
import OpenK.AllK
import Wide.FinOn
import HandS.ForMost
import KE.KDictCopyH
import HandS.Iter
import HandS.IsInst
import HandS.DictTup
import KE.KDictDisplayH
import PyProof.EqAt
import PyProof.EqKinds
import HandS.More
import KE.KEqDict
import HandS.Zip
import HandS.OwnIter
import KE.KDictZip
import HandS.Base
import HandS.Call
import HandS.List
import HandS.Dict
import PyProof.FitsBits
import PyProof.NeKinds
import KE.KExcSuper
import HandS.Exc
import HandS.ExcSuper
import KE.KExcIs
import HandS.HeadHook3
import HandS.ExcField
import PyProof.StrOps2
import PyProof.SumAny
import HandS.Codes
import HandS.TupAny
import HandS.TupLe
import HandS.RaiseMore
import HandS.StrMore
import HandS.WordsExc
import HandS.DictComp
import HandS.Conv
import HandS.TryOnly
import HandS.TupMul
import HandS.Small
import HandS.ExcOwn
import PySem.Challenge.RW_mendedruns_k03_whole_values_of_expressio
set_option Elab.async false
set_option linter.all false
set_option maxRecDepth 100000
set_option maxHeartbeats 4000000
/-! dicts whose keys are carried by value: ints, bools, texts, None -/
namespace LD
open PySem PySem.Spec PyProof.Rows L2
/-- a key as a value -/
def leafV : Leaf → V → Prop
  | .none, .non => True
  | .num i, .int j => j = i
  | .num i, .bl b => (if b = true then 1 else 0) = i
  | .text x, .str y => y = x
  | _, _ => False
theorem leaf_is {k : Leaf} {x : V} {u : Value} (h : leafV k x) (r : RelV x u) : Leaf.isOf k u = true := by
  cases k with
  | none =>
    cases x with
    | non =>
      cases r
      rfl
    | _ => exact h.elim
  | num i =>
    cases x with
    | int j =>
      obtain ⟨t, rfl⟩ := r
      exact decide_eq_true h
    | bl b =>
      cases r
      exact decide_eq_true h
    | _ => exact h.elim
  | text z =>
    cases x with
    | str y =>
      obtain ⟨t, rfl⟩ := r
      have h' : y = z := h
      subst h'
      simp [Leaf.isOf, Value.isStrOf]
    | _ => exact h.elim
/-- a dict with such keys at a -/
def dlO (P : Program) (w : World) (a : Addr) (kvs : List (Leaf × V)) : HO := .ext fun h => (a == sysModules) = false ∧ ∃ vs, KV kvs vs ∧ h.DictOf (leafKind P w) a vs
theorem dl_ok {P : Program} {w : World} {H : Hp} {h : Heap} {a : Addr} {kvs : List (Leaf × V)} {vs : List (Leaf × Value)} (hd : (a == sysModules) = false) (rel : KV kvs vs) (dd : h.DictOf (leafKind P w) a vs) : ObjOk P w H h a (dlO P w a kvs) := by
  refine ⟨⟨hd, vs, rel, dd⟩, ?_, fun h1 h2 x k => ?_⟩
  · obtain ⟨o, _, _, e, _⟩ := dd
    exact ⟨o, e⟩
  · obtain ⟨hd, vs, rel, dd⟩ := x
    exact ⟨hd, vs, rel, dd.at k⟩
theorem dl_of {P : Program} {w : World} {H : Hp} {h : Heap} {a : Addr} {kvs : List (Leaf × V)} (ok : HOk P w H h) (e : H a = some (dlO P w a kvs)) : (a == sysModules) = false ∧ ∃ vs, KV kvs vs ∧ h.DictOf (leafKind P w) a vs := by
  obtain ⟨x, _, _⟩ := (show ObjOk P w H h a (dlO P w a kvs) from ok a _ e)
  exact x
def mergeL (kvs more : List (Leaf × V)) : List (Leaf × V) := more.foldl (fun acc kv => putK acc kv.1 kv.2) kvs
theorem KV_mergeL : ∀ {more : List (Leaf × V)} {rs : List (Leaf × Value)} {kvs : List (Leaf × V)} {vs : List (Leaf × Value)}, KV more rs → KV kvs vs → KV (mergeL kvs more) (merged vs rs) := by
  intro more rs kvs vs r
  unfold KV at r
  induction r generalizing kvs vs with
  | nil => intro q; exact q
  | @cons p q ps qs h t ih =>
    intro r0
    have e : KV (putK kvs p.1 p.2) (stored vs q.1 q.2) := by
      have := r0.put p.1 h.2
      rw [← h.1]; exact this
    exact ih e
abbrev LKeys : List (V × V) → List (Leaf × V) → Prop := Paired fun p q => leafV q.1 p.1 ∧ p.2 = q.2
theorem carriesL {P : Program} {w : World} : ∀ {ps : List (V × V)} {kvs : List (Leaf × V)} {ws : List (Value × Value)}, LKeys ps kvs → VV ps ws → ∃ rs, Carries (leafKind P w) ws rs ∧ KV kvs rs
  | _, _, _, .nil, .nil => ⟨[], True.intro, .nil⟩
  | _, _, _, .cons (b := q) k tk, .cons (b := b) h t => by
    obtain ⟨rs, c, r⟩ := carriesL (P := P) (w := w) tk t
    obtain ⟨b1, b2⟩ := b
    obtain ⟨k1, k2⟩ := k
    exact ⟨(q.1, b2) :: rs, ⟨leaf_is k1 h.1, rfl, c⟩, .cons ⟨rfl, by rw [← k2]; exact h.2⟩ r⟩
section
variable {X : Cx}
/-- {k: v, ..}: the new dict stands empty while the pairs are made -/
def tDispL (P : Program) (w : World) (trs : List (TE × TE)) : TE := fun σ H Q => ∀ p, H p = none → tPairs trs σ (upd H p (dlO P w p [])) fun ps H2 => H2 p = some (dlO P w p []) ∧ ∃ kvs : List (Leaf × V), LKeys ps kvs ∧ Q (.ref p) (upd H2 p (dlO P w p (mergeL [] kvs)))
theorem pe_dispL {pos : Pos} {keys : List (Option Expr)} {values : List Expr} {trs : List (TE × TE)} (h : PPs X pos keys values trs) (hall : keys.all (·.isSome) = true) (hl : keys.length = values.length) (h0 : keys ≠ [])
    (h15 : keys.length ≤ 15) : PE X (.Dict keys values pos) (tDispL X.prog X.w trs) := by
  refine ⟨fun pins s σ H Q I q => ?_⟩
  have hn := I.hok.fresh (Nat.le_refl s.heap.objs.size)
  have hs0 : (s.heap.objs.size == sysModules) = false := beq_eq_false_iff_ne.mpr (Ne.symm (Nat.ne_of_lt I.big))
  have I1 := I.laid (a := s.heap.objs.size) (o := dlO X.prog X.w s.heap.objs.size []) (h' := s.heap.push { cls := .type "dict", data := .dict #[] }) (t' := s.toks) (fun _ _ q => Heap.get?_push_of_some _ q) (Nat.le_refl _) (dl_ok hs0 .nil (Heap.DictOf.new s.heap))
  refine wpAny_Dict_walk (knd := leafKind X.prog X.w) hall hl h0 h15 (thn (h.run pins _ σ _ _ I1 (q _ hn)) fun ws s2 ⟨ps, H2, I2, rel, e, kvs, lk, q2⟩ => ?_)
  obtain ⟨rs, c, rk⟩ := carriesL (P := X.prog) (w := X.w) lk rel
  obtain ⟨hd, vs0, r0, dd⟩ := dl_of I2.hok e
  cases r0
  refine ⟨rs, c, dd, fun h' dd' hs => ⟨.ref s.heap.objs.size, _, ?_, rfl, q2⟩⟩
  have he : ∃ q, h'.get? s.heap.objs.size = some q := let ⟨q, _, _, hq, _⟩ := dd'; ⟨q, hq⟩
  exact d_write I2 (by rw [e]; exact True.intro) hs he (dl_ok hd (KV_mergeL rk .nil) dd')
/-- d.get(k, x) -/
def tGetL (P : Program) (w : World) (td ty tx : TE) : TE := fun σ H Q => td σ H fun x H1 => ∃ a kvs, x = .ref a ∧ H1 a = some (dlO P w a kvs) ∧ ty σ H1 fun y H2 => tx σ H2 fun z H3 => H3 a = some (dlO P w a kvs) ∧ ∃ k, leafV k y ∧ Q ((valV kvs k).getD z) H3
theorem pe_getL {o e f : Expr} {apos cpos : Pos} {td ty tx : TE} (ho : PE X o td) (he : PE X e ty) (hf : PE X f tx) (m : M2 X o "get" apos e f cpos) : PE X (.Call (.Attribute o "get" apos) [e, f] [] cpos) (tGetL X.prog X.w td ty tx) := by
  refine ⟨fun pins s σ H Q I h => ?_⟩
  refine wpAny_Call_method m.base m.few m.line PySem.F.plainAttrs_dict PySem.F.slot_dict_get PySem.F.type_dict_get (thn (ho.run pins s σ H _ I h) fun u s1 ⟨x, H1, I1, rx, a, kvs, ex, d, q1⟩ => ?_)
  subst ex
  obtain rfl : u = Value.ref a := rx
  obtain ⟨hd, vs, rel, dd⟩ := dl_of I1.hok d
  refine ⟨dd.typeIs, fun b q => ?_, ?_⟩
  · cases q
    obtain ⟨ob, _, _, h1, h2, _⟩ := dd
    exact ⟨ob, h1, h2.2.1⟩
  rw [m.trees]
  refine Calls.callWith_builtin rfl (Calls.evalArgs_plain (Calls.spliced_cons (thn (he.run pins s1 σ H1 _ I1 q1) fun iv s2 ⟨y, H2, I2, ry, q2⟩ =>
    Calls.spliced_cons (thn (hf.run pins s2 σ H2 _ I2 q2) fun fv s3 ⟨z, H3, I3, rz, e3, k, hk, q3⟩ => Calls.spliced_nil ?_))))
  obtain ⟨hd3, vs3, rel3, dd3⟩ := dl_of I3.hok e3
  refine call_meetsIn PySem.F.slot_dict_get dd3.typeIs PySem.F.entry_dict_get (PySem.F.args_dict_get_3 _ _ _) (meets_dict_get_default (leafKind X.prog X.w) a (leaf_is hk ry) hd3 fv) ⟨_, dd3.mapOf, ⟨(valV kvs k).getD z, H3, I3.tok _, ?_, q3⟩⟩
  exact (rel3.val k).getD rz
end
end LD
/-! dicts told by their rows, whatever the keys: displays, isinstance, the walk over items() -/
namespace LR
open PySem PySem.Spec PyProof.Rows L2
abbrev RowsV : List (V × V) → List DictEntry → Prop := Paired fun p e => RelV p.1 e.key ∧ RelV p.2 e.val
/-- a dict at a with these rows -/
def drO (a : Addr) (rows : List (V × V)) : HO := .ext fun h => (a == sysModules) = false ∧ ∃ (es : Array DictEntry) (ep : Nat), DT.Raw h a es ep ∧ RowsV rows es.toList
theorem dr_ok {P : Program} {w : World} {H : Hp} {h : Heap} {a : Addr} {rows : List (V × V)} {es : Array DictEntry} {ep : Nat} (hd : (a == sysModules) = false) (raw : DT.Raw h a es ep) (r : RowsV rows es.toList) : ObjOk P w H h a (drO a rows) := by
  refine ⟨⟨hd, es, ep, raw, r⟩, ?_, fun h1 h2 x k => ?_⟩
  · obtain ⟨o, e, _⟩ := raw
    exact ⟨o, e⟩
  · obtain ⟨hd, es, ep, raw, r⟩ := x
    exact ⟨hd, es, ep, raw.at' k, r⟩
theorem dr_of {P : Program} {w : World} {H : Hp} {h : Heap} {a : Addr} {rows : List (V × V)} (ok : HOk P w H h) (e : H a = some (drO a rows)) : (a == sysModules) = false ∧ ∃ (es : Array DictEntry) (ep : Nat), DT.Raw h a es ep ∧ RowsV rows es.toList := by
  obtain ⟨x, _, _⟩ := (show ObjOk P w H h a (drO a rows) from ok a _ e)
  exact x
/-- u describes a dict with these rows -/
def RowsU (d : Addr) (u : HO) (rows : List (V × V)) : Prop := u = drO d rows ∨ (u = .dK [] ∧ rows = [])
theorem frzR {X : Cx} {pins : List (Addr × Obj)} {σ : L2.St} {H : Hp} {s : Shared} {d : Addr} {o : Obj} {u : HO} {rows : List (V × V)} (I : Inv X pins σ H s) (h : H d = some (.frz o u)) (hu : RowsU d u rows) :
    (d == sysModules) = false ∧ s.heap.get? d = some o ∧ o.ExactDict ∧ ∃ (es : Array DictEntry) (ep : Nat), o.data = .dict es ep ∧ es.size = rows.length ∧ RowsV rows es.toList := by
  rcases hu with rfl | ⟨rfl, rfl⟩
  · obtain ⟨hd, ⟨hs, es, ep, ⟨o', ho, hx, hdt⟩, r⟩, _⟩ := (show ObjOk X.prog X.w H s.heap d (.frz o (drO d rows)) from I.hok d _ h)
    rw [hd] at ho
    cases ho
    refine ⟨hs, hd, hx, es, ep, hdt, ?_, r⟩
    have l := Paired.length r
    rw [Array.length_toList] at l
    exact l.symm
  · obtain ⟨hs, hgd, hx, es, ep, vs, hdt, hsz, kv, hm⟩ := I.frzK h
    refine ⟨hs, hgd, hx, es, ep, hdt, hsz, ?_⟩
    have e0 : es.toList = [] := List.length_eq_zero_iff.mp (by rw [Array.length_toList, hsz]; rfl)
    rw [e0]
    exact .nil
theorem rows_get : ∀ {rows : List (V × V)} {es : List DictEntry} {i : Nat} (_ : RowsV rows es) (hi : i < es.length), ∃ k v, rows[i]? = some (k, v) ∧ RelV k es[i].key ∧ RelV v es[i].val
  | _, _, _, .nil, h => by simp at h
  | _, _, 0, .cons (a := p) r _, _ => ⟨p.1, p.2, rfl, r.1, r.2⟩
  | _, _, i + 1, .cons _ t, h => by
    obtain ⟨k, v, e, r1, r2⟩ := rows_get (i := i) t (by simpa using h)
    exact ⟨k, v, by simpa using e, r1, r2⟩
/-- the pairs, each a new tuple -/
def ItR (d : Addr) (o : Obj) (u : HO) (rows : List (V × V)) : It :=
  ⟨fun i H => H d = some (.frz o u) ∧ i < rows.length, fun i H x H' => ∃ T k v, rows[i]? = some (k, v) ∧ x = .ref T ∧ H T = none ∧ H' = upd H T (.tup [k, v]), fun i H => H d = some (.frz o u) ∧ rows.length ≤ i⟩
section
variable {P : Program} {w : World} {K : PySem.W.Frag} {d : Addr} {o : Obj} {es : Array DictEntry} {ep : Nat}
theorem turn_itemsR {u : HO} {rows : List (V × V)} (hu : RowsU d u rows) {elts : List Expr} {kk : Nat} {tpos : Pos} (it : Addr) (hod : o.data = .dict es ep) :
    Turn P w K (.Tuple elts kk tpos) (ItR d o u rows) [it] it (fun i h => ∃ ok ov, IsItemIter h it d i es.size ep ok ov) where
  mem := by simp
  obj := fun i h st b hb => by
    have e : b = it := by simpa using hb
    subst e
    obtain ⟨ok, ov, e⟩ := st
    exact ⟨_, e, fun v z => nomatch z⟩
  keep := fun i h h' st k => let ⟨ok, ov, e⟩ := st; ⟨ok, ov, k it (by simp) _ e⟩
  item := by
    intro X hP hw hK hc i pins s σ H E I hf st hg
    subst hP hw hK
    obtain ⟨hd, hi⟩ := hg
    obtain ⟨hs, hgd, hx, es', ep', hdt, hsz, rv⟩ := frzR I hd hu
    obtain ⟨rfl, rfl⟩ := dict_ep hod hdt
    have hi' : i < es'.size := by rw [hsz]; exact hi
    obtain ⟨k, v, hkv, rk, rv'⟩ := rows_get rv (show i < es'.toList.length by rw [Array.length_toList]; exact hi')
    rw [Array.getElem_toList] at rk rv'
    obtain ⟨ok, ov, he⟩ := st
    have hlt : it < s.heap.objs.size := Heap.lt_size he
    refine DT.nextI he ⟨o, hgd, hx, hdt⟩ hi' fun h' ho hT hz hk => ?_
    refine ⟨_, rfl, wpAny_letOwnedTupleGo_items (s := { s with heap := h' }) ho fun h'' he' sb => ?_⟩
    have hT2 : h''.get? s.heap.objs.size = some { cls := .type "tuple", data := .seq #[es'[i].key, es'[i].val] } := (sb.2 _ (Nat.ne_of_gt hlt)).trans hT
    have new : ObjOk X.prog X.w (upd H s.heap.objs.size (.tup [k, v])) h'' s.heap.objs.size (.tup [k, v]) :=
      ⟨by show 2 ≤ sizeLine; decide, [es'[i].key, es'[i].val], .cons rk (.cons rv' .nil), ⟨_, hT2, rfl, _, rfl⟩⟩
    have I1 : Inv X pins σ (upd H s.heap.objs.size (.tup [k, v])) { s with heap := h'' } :=
      I.turnedNew (t' := s.toks) (ch := [it]) (fun b ob hb e => (sb.2 b (by simpa using hb)).trans (hk b ob (by simpa using hb) e)) hf (Nat.le_refl _) new
    refine ⟨.ref s.heap.objs.size, _, I1, rfl, ⟨_, k, v, hkv, rfl, I.hok.fresh (Nat.le_refl _), rfl⟩, ⟨_, _, he'⟩, fun b hb => ?_⟩
    have e : b = it := by simpa using hb
    rw [e, upd_ne (Nat.ne_of_lt hlt)]
    exact (hf it (by simp)).1
  done := by
    intro X hP hw hK hc i pins s σ H E I hf st hg
    subst hP hw hK
    obtain ⟨hd, hi⟩ := hg
    obtain ⟨f0, f1, f2, f3, f4, f5⟩ := hf it (by simp)
    obtain ⟨hs, hgd, hx, es', ep', hdt, hsz, rv⟩ := frzR I hd hu
    obtain ⟨rfl, rfl⟩ := dict_ep hod hdt
    obtain ⟨ok, ov, he⟩ := st
    exact DT.endI (I.ok.hd hc) he ⟨o, hgd, hx, hdt⟩ (by rw [hsz]; exact hi) fun h' eb => ⟨rfl, I.turned (t' := s.toks) (fun b ob hb e => eb b ob hb e) f0 f1 f3 f4 f5⟩
  self := fun A i s Q E st h => let ⟨_, _, e⟩ := st; PySem.W.kcp_self e h
end
def iItemsR (td : TE) : TI := fun σ H R => td σ H fun x H1 => ∃ d o u rows, x = .ref d ∧ H1 d = some (.frz o u) ∧ RowsU d u rows ∧ R (ItR d o u rows) H1
section
variable {X : Cx} {e : Expr} {td : TE} {apos cpos : Pos}
theorem pi_itemsR {elts : List Expr} {kk : Nat} {tpos : Pos} (he : PE X e td) (hbase : attributeBase e "items" X.env (eval e X.env) = eval e X.env := by rfl) (hline : (apos.endLine == cpos.line) = true := by rfl) :
    PI X (.Tuple elts kk tpos) (.Call (.Attribute e "items" apos) [] [] cpos) (iItemsR td) := by
  refine ⟨fun pins s σ H R I h => ?_⟩
  refine wpAny_Call_method (T := "dict") (id := "dict.items") hbase rfl hline PySem.F.plainAttrs_dict PySem.F.slot_dict_items PySem.F.type_dict_items (thn (he.run pins s σ H _ I h) fun u s1 ⟨x, H1, I1, rx, d, o, uu, rows, ex, hd, hu, q⟩ => ?_)
  subst ex
  obtain rfl : u = Value.ref d := rx
  obtain ⟨hs, hgd, hx, es, ep, hdt, hsz, rv⟩ := frzR I1 hd hu
  have raw : DT.Raw s1.heap d es ep := ⟨o, hgd, hx, hdt⟩
  refine ⟨raw.typeIs, fun b q => ?_, ?_⟩
  · cases q
    exact ⟨o, hgd, hx.2.1⟩
  have I2 : Inv X pins σ H1 { s1 with heap := s1.heap.push { cls := .type "dict_items", data := .fields #[.ref d] } } := I1.kept (t' := s1.toks) fun b ob q => Heap.get?_push_of_some _ q
  have fin : wpAny (model X.prog X.w) X.A (pyIter (.ref s1.heap.objs.size)) (PIE X pins σ (.Tuple elts kk tpos) R) X.xe { s1 with heap := s1.heap.push { cls := .type "dict_items", data := .fields #[.ref d] } } := by
    refine DT.iterI (d := d) ⟨_, Heap.get?_push_size _ rfl, rfl, rfl⟩ (raw.push _) (pi_one (tk := s1.toks) I2 _ (turn_itemsR hu _ hdt) ⟨.none, .none, ?_⟩ q)
    exact Heap.get?_push_size _ rfl
  show wpAny _ _ (callWith cpos (.builtin "dict.items") [.ref d] [] []) _ X.xe s1
  exact method_meetsIn PySem.F.slot_dict_items PySem.F.entry_dict_items rfl (PySem.evalArgs_none ⟨rfl, raw.typeIs, PySem.F.args_dict_items_1 _, _, DT.meetsItems (es := es) (ep := ep) hs, ⟨raw, fin⟩⟩)
end
/-! ### isinstance(d, dict) -/
def rIsiD : List V → Hp → VK → Prop := fun xs H Q => ∃ d rows, xs = [.ref d, .ty "dict"] ∧ H d = some (drO d rows) ∧ Q (.bl true) H
section
variable {X : Cx}
theorem call_isiD : CallR X (.builtin "isinstance") rIsiD := by
  intro pins s σ H xs us Q I r h
  obtain ⟨d, rows, rfl, hd, q⟩ := h
  obtain ⟨u1, u2, rfl, r1, r2⟩ := vals2 r
  cases (show u1 = Value.ref d from r1)
  cases (show u2 = Value.type "dict" from r2)
  obtain ⟨hs, es, ep, ⟨o, ho, hx, hdt⟩, rv⟩ := dr_of I.hok hd
  exact PySem.W.kia_one PySem.W.kitx_dict I.kIn ⟨o, ho, hx.1⟩ (show PySem.W.kitOne X.K (.type "dict") (.type "dict") = some true from kit_ty (by decide +kernel)) (fun z => nomatch z) fun tk => ⟨.bl true, H, I.tok tk, rfl, q⟩
/-- either reading -/
theorem call_or {f : Value} {r1 r2 : List V → Hp → VK → Prop} (h1 : CallR X f r1) (h2 : CallR X f r2) : CallR X f (fun xs H Q => r1 xs H Q ∨ r2 xs H Q) := by
  intro pins s σ H xs us Q I r h
  rcases h with h | h
  · exact h1 pins s σ H xs us Q I r h
  · exact h2 pins s σ H xs us Q I r h
theorem pe_or2 {e : Expr} {t1 t2 : TE} (h1 : PE X e t1) (h2 : PE X e t2) : PE X e (fun σ H Q => t1 σ H Q ∨ t2 σ H Q) := by
  refine ⟨fun pins s σ H Q I h => ?_⟩
  rcases h with h | h
  · exact h1.run pins s σ H Q I h
  · exact h2.run pins s σ H Q I h
end
/-! ### displays -/
theorem leaf_back {k : Leaf} {u : Value} (h : Leaf.isOf k u = true) : ∃ x, LD.leafV k x ∧ RelV x u := by
  cases k with
  | none =>
    cases Leaf.nested (h := default) h
    exact ⟨.non, True.intro, rfl⟩
  | num i =>
    cases Leaf.nested (h := default) h with
    | int _ t => exact ⟨.int i, rfl, t, rfl⟩
    | bool q =>
      rename_i b
      exact ⟨.bl b, q.symm, rfl⟩
  | text z =>
    cases Leaf.nested (h := default) h with
    | text _ t => exact ⟨.str z, rfl, t, rfl⟩
theorem rows_back {P : Program} {w : World} : ∀ {es : List DictEntry} {vs : List (Leaf × Value)} {kvs : List (Leaf × V)}, Pairs (leafKind P w) es vs → KV kvs vs → ∃ rows, RowsV rows es ∧ LD.LKeys rows kvs
  | _, _, _, .nil, .nil => ⟨[], .nil, .nil⟩
  | _, _, _, .cons (e := e) h1 h2 t, .cons (a := p) r tr => by
    obtain ⟨rows, r1, r2⟩ := rows_back t tr
    obtain ⟨x, lx, rx⟩ := leaf_back h1
    refine ⟨(x, p.2) :: rows, .cons ⟨rx, ?_⟩ r1, .cons ⟨?_, rfl⟩ r2⟩
    · rw [h2]
      exact r.2
    · rw [r.1]
      exact lx
section
variable {X : Cx}
def tDispR (P : Program) (w : World) (trs : List (TE × TE)) : TE := fun σ H Q => ∀ p, H p = none → tPairs trs σ (upd H p (LD.dlO P w p [])) fun ps H2 => H2 p = some (LD.dlO P w p []) ∧ ∃ kvs : List (Leaf × V), LD.LKeys ps kvs ∧
  ∀ rows, LD.LKeys rows (LD.mergeL [] kvs) → Q (.ref p) (upd H2 p (drO p rows))
theorem pe_dispR {pos : Pos} {keys : List (Option Expr)} {values : List Expr} {trs : List (TE × TE)} (h : PPs X pos keys values trs) (hall : keys.all (·.isSome) = true) (hl : keys.length = values.length) (h0 : keys ≠ [])
    (h15 : keys.length ≤ 15) : PE X (.Dict keys values pos) (tDispR X.prog X.w trs) := by
  refine ⟨fun pins s σ H Q I q => ?_⟩
  have hn := I.hok.fresh (Nat.le_refl s.heap.objs.size)
  have hs0 : (s.heap.objs.size == sysModules) = false := beq_eq_false_iff_ne.mpr (Ne.symm (Nat.ne_of_lt I.big))
  have I1 := I.laid (a := s.heap.objs.size) (o := LD.dlO X.prog X.w s.heap.objs.size []) (h' := s.heap.push { cls := .type "dict", data := .dict #[] }) (t' := s.toks) (fun _ _ q => Heap.get?_push_of_some _ q) (Nat.le_refl _) (LD.dl_ok hs0 .nil (Heap.DictOf.new s.heap))
  refine wpAny_Dict_walk (knd := leafKind X.prog X.w) hall hl h0 h15 (thn (h.run pins _ σ _ _ I1 (q _ hn)) fun ws s2 ⟨ps, H2, I2, rel, e, kvs, lk, q2⟩ => ?_)
  obtain ⟨rs, c, rk⟩ := LD.carriesL (P := X.prog) (w := X.w) lk rel
  obtain ⟨hd, vs0, r0, dd⟩ := LD.dl_of I2.hok e
  cases r0
  refine ⟨rs, c, dd, fun h' dd' hs => ?_⟩
  obtain ⟨o, es, ep, ho, hx, hdt, _, prs, _⟩ := id dd'
  obtain ⟨rows, r1, r2⟩ := rows_back prs (LD.KV_mergeL rk .nil)
  exact ⟨.ref s.heap.objs.size, _, d_write I2 (by rw [e]; exact True.intro) hs ⟨o, ho⟩ (dr_ok hd ⟨o, ho, hx, hdt⟩ r1), rfl, q2 rows r2⟩
/-- {k: v} where k is a tuple of ints and texts -/
def tDispT (tk tv : TE) : TE := fun σ H Q => ∀ p, H p = none → tPairs [(tk, tv)] σ (upd H p (.dT [])) fun ps H2 => ∃ (a : Addr) (ks : List L2.Key) (y : V), ps = [(.ref a, y)] ∧ H2 p = some (.dT []) ∧ H2 a = some (.tup (ks.map kV)) ∧ Q (.ref p) (upd H2 p (drO p [(.ref a, y)]))
theorem pe_dispT (hu : X.A.units + 1 < cLine) {pos : Pos} {k v : Expr} {tk tv : TE} (hk : PE X k tk) (hv : PE X v tv) : PE X (.Dict [some k] [v] pos) (tDispT tk tv) := by
  refine ⟨fun pins s σ H Q I q => ?_⟩
  have hn := I.hok.fresh (Nat.le_refl s.heap.objs.size)
  have I1 := I.laid (a := s.heap.objs.size) (o := .dT []) (h' := s.heap.push { cls := .type "dict", data := .dict #[] }) (t' := s.toks) (fun _ _ q => Heap.get?_push_of_some _ q) (Nat.le_refl _) (dt_empty s.heap I.big)
  have hP : PPs X pos [some k] [v] [(tk, tv)] := pps_cons hk hv pps_nil
  rw [arm_eval_Dict, zip_pairTrees [some k] [v] X.env pos rfl rfl, dictDisplay_pairs (pairTrees [some k] [v] X.env pos) (fun z => nomatch z) (by simp [pairTrees])]
  refine wpAny_bind (wpAny_standAt (wpAny_bind (wpAny_subDictH (knd := tupleKind (mixKind X.prog X.w)) (Q := fun d s' => wpAny (model X.prog X.w) X.A (pure (Value.ref d)) _ X.xe s') (show X.A.units < cLine by omega) (by simp [pairTrees]) ?_)))
  refine thn (hP.run pins _ σ _ _ I1 (q _ hn)) fun ws s2 ⟨ps, H2, I2, rel, a, ks, y, ep, e, ha, q2⟩ => ?_
  subst ep
  obtain ⟨k1, k2⟩ : ∃ vv, ws = [(.ref a, vv)] ∧ RelV y vv := by
    cases rel with
    | @cons _ b _ _ h t =>
      cases t
      obtain ⟨b1, b2⟩ := b
      obtain ⟨h1, h2⟩ := h
      cases (show b1 = Value.ref a from h1)
      exact ⟨b2, rfl, h2⟩
  obtain ⟨rfl, ry⟩ := k2
  obtain ⟨z, hd, xs', rel', dd⟩ := dt_of I2.hok e
  cases rel'
  refine ⟨[(ks, a, k1)], ⟨rfl, rfl, key_of I2.hok ha, True.intro⟩, dd, fun h' tk dd' hs => wpAny_pure ?_⟩
  obtain ⟨o, es, ep, ho, hx, hdt, he, _⟩ := dd'
  have he' : es.toList = [entryOfKey (tupleKind (mixKind X.prog X.w)) (ks, a, k1)] := he
  exact ⟨.ref s.heap.objs.size, _, d_write I2 (by rw [e]; exact True.intro) hs ⟨o, ho⟩ (dr_ok hd ⟨o, ho, hx, hdt⟩ (by rw [he']; exact .cons ⟨rfl, ry⟩ .nil)), rfl, q2⟩
end
/-- a comprehension over items() -/
theorem lc_rows {d : Addr} {o : Obj} {u : HO} {rows : List (V × V)} {g : TG} {tt : TT} {te : TE} {vs : List Nat} {σ : L2.St} {H1 : Hp} {D : Addr} {Qd : Hp → Prop} (Pv : Nat → Hp → Prop) (h0 : Pv 0 (upd H1 D (.lst []))) (hl : ∀ i H, Pv i H → H d = some (.frz o u))
    (hs : ∀ i k v H T, rows[i]? = some (k, v) → Pv i H → H T = none → g (.ref T) (wipe σ vs) (upd H T (.tup [k, v])) fun σ2 H2 => wipe σ2 vs = wipe σ vs ∧ tt σ2 H2 fun b H3 =>
      if b = true then te σ2 H3 fun y H4 => ∃ acc, H4 D = some (.lst acc) ∧ acc.length < sizeLine ∧ Pv (i + 1) (upd H4 D (.lst (acc ++ [y]))) else Pv (i + 1) H3) (hd : ∀ H, Pv rows.length H → Qd H) :
    ∃ W : Nat → Nat → Hp → Prop, (∃ m, W 0 m (upd H1 D (.lst []))) ∧ ∀ i m H, W i m H →
      ((ItR d o u rows).stop i H ∧ Qd H) ∨ ((ItR d o u rows).go i H ∧ ∃ Nx : Hp → Prop, (∀ H', Nx H' → ∃ m', m' < m ∧ W (i + 1) m' H') ∧ ∀ x H', (ItR d o u rows).yld i H x H' → g x (wipe σ vs) H' fun σ2 H2 => wipe σ2 vs = wipe σ vs ∧ tt σ2 H2 fun b H3 =>
        if b = true then te σ2 H3 fun y H4 => ∃ acc, H4 D = some (.lst acc) ∧ acc.length < sizeLine ∧ Nx (upd H4 D (.lst (acc ++ [y]))) else Nx H3) := by
  refine ⟨fun i m H => m = rows.length - i ∧ i ≤ rows.length ∧ Pv i H, ⟨rows.length, by simp, Nat.zero_le _, h0⟩, ?_⟩
  rintro i m H ⟨rfl, hi, p⟩
  by_cases hlt : i < rows.length
  · refine .inr ⟨⟨hl i H p, hlt⟩, Pv (i + 1), fun H' p' => ⟨rows.length - (i + 1), by omega, rfl, hlt, p'⟩, fun x H' y => ?_⟩
    obtain ⟨T, k, v, e, rfl, hT, rfl⟩ := y
    exact hs i k v H T e p hT
  · have e : i = rows.length := by omega
    subst e
    exact .inl ⟨⟨hl _ H p, Nat.le_refl _⟩, hd H p⟩
end LR
/-! x == d, where d is a dict and x is none -/
namespace LQ
open PySem PySem.Spec PyProof.Rows PySem.SeqAt
/-- at d stands a dict -/
def IsDct (h : Heap) (d : Addr) : Prop := ∃ o es ep, h.get? d = some o ∧ o.ExactDict ∧ o.data = .dict es ep
theorem IsDct.typeIs {s : Shared} {d : Addr} (x : IsDct s.heap d) : s.TypeIs (.ref d) "dict" := let ⟨o, _, _, ho, hc, _⟩ := x; ⟨o, ho, hc.1⟩
section
variable {prog : Program} {w : World} {A : Around} {E : Value → Shared → Prop} {s : Shared}
theorem dict_declines {d : Addr} {x : Value} {T : String} {Q' : Value → Shared → Prop} (hd : IsDct s.heap d) (hx : s.TypeIs x T) (hs : isSubtype (.type T) (.type "dict") = pure false) (hq : Q' .notImplemented s) :
    wpAny (model prog w) A (call (.builtin "dict.__eq__") [.ref d, x]) Q' E s := by
  refine wpAny_call_entry PySem.F.slot_dict_eq_refl hd.typeIs PySem.F.entry_dict_eq ?_ (PySem.F.args_dict_eq_2 _ _)
  show wpAny _ _ (Builtin.Dict.dictSlotArgs "__eq__" ⟨[.ref d, x], []⟩ >>= _) _ _ s
  refine wpAny_bind ?_
  unfold Builtin.Dict.dictSlotArgs
  refine wpAny_bind (wpAny_notOrdered_dict hd.typeIs ?_)
  show wpAny _ _ (pure (Value.ref d, x)) _ _ s
  refine wpAny_pure ?_
  refine wpAny_bind (wpAny_isInstance (T := T) hx hs ?_)
  simp only [Bool.not_false, if_true]
  exact wpAny_bind (wpAny_rule (wpAny_pure ⟨_, rfl, hq⟩))
end
open AutoSeq1 (wpAny_loadPart')
open MeetsSeq
theorem int_declines_bool (b : Bool) (l : Addr) (c : Value) (es : Array DictEntry) (ep : Nat) (dd : Option Addr) (sl : Array (Option Value)) :
    Meets (Builtin.«int.__eq__» ⟨[.bool b, .ref l], []⟩) (fun _ R s => s.heap.get? l = some { cls := c, dict := dd, data := .dict es ep, slots := sl } ∧ R (.ok (.ret .notImplemented)) s) :=
  .of_wp fun prog w A R s h => by obtain ⟨hp, g, d, tk, os⟩ := s; obtain ⟨hl, h⟩ := h; wp_walk using wpAny_loadPart' hl, wpAny_load hl; exact ⟨_, rfl, h⟩
theorem int_declines_int (b : Int) (u : Tok) (l : Addr) (c : Value) (es : Array DictEntry) (ep : Nat) (dd : Option Addr) (sl : Array (Option Value)) :
    Meets (Builtin.«int.__eq__» ⟨[.int b u, .ref l], []⟩) (fun _ R s => s.heap.get? l = some { cls := c, dict := dd, data := .dict es ep, slots := sl } ∧ R (.ok (.ret .notImplemented)) s) :=
  .of_wp fun prog w A R s h => by obtain ⟨hp, g, d, tk, os⟩ := s; obtain ⟨hl, h⟩ := h; wp_walk using wpAny_loadPart' hl, wpAny_load hl; exact ⟨_, rfl, h⟩
theorem str_declines (b : Str) (u : Tok) (l : Addr) (c : Value) (es : Array DictEntry) (ep : Nat) (dd : Option Addr) (sl : Array (Option Value)) :
    Meets (Builtin.«str.__eq__» ⟨[.str b u, .ref l], []⟩) (fun _ R s => s.heap.get? l = some { cls := c, dict := dd, data := .dict es ep, slots := sl } ∧ R (.ok (.ret .notImplemented)) s) :=
  .of_wp fun prog w A R s h => by obtain ⟨hp, g, d, tk, os⟩ := s; obtain ⟨hl, h⟩ := h; wp_walk using wpAny_loadPart' hl, wpAny_load hl; exact ⟨_, rfl, h⟩
theorem list_declines (l b : Addr) (items : Array Value) (n : Nat) (dd : Option Addr) (sl : Array (Option Value)) (es : Array DictEntry) (ep : Nat) (dd2 : Option Addr) (sl2 : Array (Option Value)) :
    Meets (Builtin.«list.__eq__» ⟨[.ref l, .ref b], []⟩) (fun _ R s => s.heap.get? l = some { cls := .type "list", dict := dd, data := .seq items n, slots := sl } ∧ s.heap.get? b = some { cls := .type "dict", dict := dd2, data := .dict es ep, slots := sl2 } ∧ R (.ok (.ret .notImplemented)) s) :=
  .of_wp fun prog w A R s h => by obtain ⟨hp, g, d, tk, os⟩ := s; obtain ⟨hl, hb, h⟩ := h; have f1 := F.sub_dict_list; wp_walk using wpAny_loadPart' hl, wpAny_loadPart' hb; exact ⟨_, rfl, h⟩
theorem tuple_declines (l b : Addr) (items : Array Value) (n : Nat) (dd : Option Addr) (sl : Array (Option Value)) (es : Array DictEntry) (ep : Nat) (dd2 : Option Addr) (sl2 : Array (Option Value)) :
    Meets (Builtin.«tuple.__eq__» ⟨[.ref l, .ref b], []⟩) (fun _ R s => s.heap.get? l = some { cls := .type "tuple", dict := dd, data := .seq items n, slots := sl } ∧ s.heap.get? b = some { cls := .type "dict", dict := dd2, data := .dict es ep, slots := sl2 } ∧ R (.ok (.ret .notImplemented)) s) :=
  .of_wp fun prog w A R s h => by obtain ⟨hp, g, d, tk, os⟩ := s; obtain ⟨hl, hb, h⟩ := h; have f1 := F.sub_dict_tuple; wp_walk using wpAny_loadPart' hl, wpAny_loadPart' hb; exact ⟨_, rfl, h⟩
section
variable {A : Around} {s : Shared} {d : Addr}
theorem rc_none (hd : IsDct s.heap d) (hu : A.units < cLine) : RcAt A s .none (.ref d) false := fun prog w E Q h =>
  rc_eq_decline_or (k := false) rfl hd.typeIs (by decide) F.sub_dict_NoneType F.slot_NoneType_eq F.slot_dict_eq_refl
    (fun _ hq => call_gives F.slot_NoneType_eq rfl F.entry_NoneType_eq (F.args_NoneType_eq_2 _ _) (NoneType___eq___none_ref_0 d) hq)
    (fun _ hq => dict_declines hd rfl F.sub_NoneType_dict hq)
    (fun _ hq => wpAny_of_eq (rfl : isSame .none (.ref d) = pure false) hq) (.inr hu) h
theorem rc_bool (b : Bool) (hd : IsDct s.heap d) (hu : A.units < cLine) : RcAt A s (.bool b) (.ref d) false := fun prog w E Q h => by
  obtain ⟨⟨cls, dd, data, sl⟩, es, ep, ho, hc, hdt⟩ := id hd
  simp only at hdt
  subst hdt
  exact rc_eq_decline_or (k := false) rfl hd.typeIs (by decide) F.sub_dict_bool F.slot_bool_eq F.slot_dict_eq_refl
    (fun _ hq => call_meets F.slot_bool_eq rfl F.entry_int_eq (F.args_int_eq_2 _ _) (int_declines_bool b d _ es ep dd sl) ⟨ho, hq⟩)
    (fun _ hq => dict_declines hd rfl F.sub_bool_dict hq)
    (fun _ hq => wpAny_of_eq (rfl : isSame (.bool b) (.ref d) = pure false) hq) (.inr hu) h
theorem rc_int (b : Int) (u : Tok) (hd : IsDct s.heap d) (hu : A.units < cLine) : RcAt A s (.int b u) (.ref d) false := fun prog w E Q h => by
  obtain ⟨⟨cls, dd, data, sl⟩, es, ep, ho, hc, hdt⟩ := id hd
  simp only at hdt
  subst hdt
  exact rc_eq_decline_or (k := false) (typeIs_int s b u) hd.typeIs (by decide) F.sub_dict_int F.slot_int_eq F.slot_dict_eq_refl
    (fun _ hq => call_meets F.slot_int_eq (typeIs_int s b u) F.entry_int_eq (F.args_int_eq_2 _ _) (int_declines_int b u d _ es ep dd sl) ⟨ho, hq⟩)
    (fun _ hq => dict_declines hd (typeIs_int s b u) F.sub_int_dict hq)
    (fun _ hq => wpAny_of_eq (rfl : isSame (.int b u) (.ref d) = pure false) hq) (.inr hu) h
theorem rc_str (b : Str) (u : Tok) (hd : IsDct s.heap d) (hu : A.units < cLine) : RcAt A s (.str b u) (.ref d) false := fun prog w E Q h => by
  obtain ⟨⟨cls, dd, data, sl⟩, es, ep, ho, hc, hdt⟩ := id hd
  simp only at hdt
  subst hdt
  exact rc_eq_decline_or (k := false) (typeIs_str s b u) hd.typeIs (by decide) F.sub_dict_str F.slot_str_eq F.slot_dict_eq_refl
    (fun _ hq => call_meets F.slot_str_eq (typeIs_str s b u) F.entry_str_eq (F.args_str_eq_2 _ _) (str_declines b u d _ es ep dd sl) ⟨ho, hq⟩)
    (fun _ hq => dict_declines hd (typeIs_str s b u) F.sub_str_dict hq)
    (fun _ hq => wpAny_of_eq (rfl : isSame (.str b u) (.ref d) = pure false) hq) (.inr hu) h
theorem rc_list {l : Addr} {items : Array Value} (hl : s.heap.IsList l items) (hd : IsDct s.heap d) (hu : A.units < cLine) : RcAt A s (.ref l) (.ref d) false := fun prog w E Q h => by
  obtain ⟨⟨cls, dd, data, sl⟩, es, ep, ho, hc, hdt⟩ := id hd
  obtain ⟨⟨cls2, dd2, data2, sl2⟩, ho2, hc2, n2, hd2⟩ := id hl
  obtain ⟨hc1, hcd, hcs⟩ := hc
  simp only at hdt hc1 hc2 hd2
  subst hdt hc1 hc2 hd2
  have hne : l ≠ d := fun e => by
    subst e
    rw [ho] at ho2
    exact absurd (congrArg Obj.data (Option.some.inj ho2)) (fun z => nomatch z)
  exact rc_eq_decline_or (k := false) ⟨_, ho2, rfl⟩ hd.typeIs (by decide) F.sub_dict_list F.slot_list_eq F.slot_dict_eq_refl
    (fun _ hq => call_meets F.slot_list_eq ⟨_, ho2, rfl⟩ F.entry_list_eq (F.args_list_eq_2 _ _) (list_declines l d items n2 dd2 sl2 es ep dd sl) ⟨ho2, ho, hq⟩)
    (fun _ hq => dict_declines hd ⟨_, ho2, rfl⟩ F.sub_list_dict hq)
    (fun _ hq => wpAny_isSame_ref_other' hne ho2 ho (by simp) hq) (.inr hu) h
theorem rc_tuple {l : Addr} {items : Array Value} (hl : s.heap.IsTuple l items) (hd : IsDct s.heap d) (hu : A.units < cLine) : RcAt A s (.ref l) (.ref d) false := fun prog w E Q h => by
  obtain ⟨⟨cls, dd, data, sl⟩, es, ep, ho, hc, hdt⟩ := id hd
  obtain ⟨⟨cls2, dd2, data2, sl2⟩, ho2, hc2, n2, hd2⟩ := id hl
  obtain ⟨hc1, hcd, hcs⟩ := hc
  simp only at hdt hc1 hc2 hd2
  subst hdt hc1 hc2 hd2
  have hne : l ≠ d := fun e => by
    subst e
    rw [ho] at ho2
    exact absurd (congrArg Obj.data (Option.some.inj ho2)) (fun z => nomatch z)
  exact rc_eq_decline_or (k := false) ⟨_, ho2, rfl⟩ hd.typeIs (by decide) F.sub_dict_tuple F.slot_tuple_eq F.slot_dict_eq_refl
    (fun _ hq => call_meets F.slot_tuple_eq ⟨_, ho2, rfl⟩ F.entry_tuple_eq (F.args_tuple_eq_2 _ _) (tuple_declines l d items n2 dd2 sl2 es ep dd sl) ⟨ho2, ho, hq⟩)
    (fun _ hq => dict_declines hd ⟨_, ho2, rfl⟩ F.sub_tuple_dict hq)
    (fun _ hq => wpAny_isSame_ref_other' hne ho2 ho (by simp) hq) (.inr hu) h
end
open L2
/-- x == {}, where x is None, a bool, an int, a text, a list, a tuple or another empty dict -/
def rEqE : R2 := fun x y H Q => ∃ d, y = .ref d ∧ H d = some (.dK []) ∧
  (((x = .non ∨ (∃ b, x = .bl b) ∨ (∃ i, x = .int i) ∨ (∃ z, x = .str z) ∨ (∃ a xs, x = .ref a ∧ H a = some (.lst xs)) ∨ (∃ a xs, x = .ref a ∧ H a = some (.tup xs))) ∧ Q (.bl false) H) ∨ (∃ a, x = .ref a ∧ H a = some (.dK []) ∧ Q (.bl true) H))
theorem op_eqE {X : Cx} (hu : X.A.units < cLine) : OpR X (compareOp .Eq) rEqE := by
  intro pins s σ H x y v u Q I rx ry h
  obtain ⟨d, rfl, ed, h⟩ := h
  rcases h with ⟨h, q⟩ | ⟨a, rfl, ea, q⟩
  · obtain rfl : u = Value.ref d := ry
    obtain ⟨_, yd, vd, rd, o, es, ep, ho, hx, hdt, _⟩ := (show ObjOk X.prog X.w H s.heap d (.dK []) from I.hok d _ ed)
    have D : IsDct s.heap d := ⟨o, es, ep, ho, hx, hdt⟩
    rcases h with rfl | ⟨b, rfl⟩ | ⟨i, rfl⟩ | ⟨z, rfl⟩ | ⟨a, xs, rfl, ea⟩ | ⟨a, xs, rfl, ea⟩
    · cases rx
      exact rc_none D hu _ _ _ _ (fin_bl I q rfl)
    · cases rx
      exact rc_bool b D hu _ _ _ _ (fin_bl I q rfl)
    · obtain ⟨t, rfl⟩ := rx
      exact rc_int i t D hu _ _ _ _ (fin_bl I q rfl)
    · obtain ⟨t, rfl⟩ := rx
      exact rc_str z t D hu _ _ _ _ (fin_bl I q rfl)
    · obtain rfl : v = Value.ref a := rx
      obtain ⟨_, its, n, _, h1⟩ := (show ObjOk X.prog X.w H s.heap a (.lst xs) from I.hok a _ ea)
      exact rc_list (items := its.toArray) ⟨_, h1, rfl, n, rfl⟩ D hu _ _ _ _ (fin_bl I q rfl)
    · obtain rfl : v = Value.ref a := rx
      obtain ⟨_, its, _, o2, h1, h2, n, h3⟩ := (show ObjOk X.prog X.w H s.heap a (.tup xs) from I.hok a _ ea)
      exact rc_tuple (items := its.toArray) ⟨o2, h1, h2, n, h3⟩ D hu _ _ _ _ (fin_bl I q rfl)
  · exact op_eq_dict hu pins s σ H _ _ v u Q I rx ry ⟨a, d, [], rfl, rfl, ea, ed, List.nodup_nil, (fun p hp => nomatch hp), q⟩
/-- xs == [] -/
def rEqNil : R2 := fun x y H Q => ∃ a b xs, x = .ref a ∧ y = .ref b ∧ H a = some (.lst xs) ∧ H b = some (.lst []) ∧ Q (.bl xs.isEmpty) H
theorem op_eqNil {X : Cx} (hu : X.A.units < cLine) : OpR X (compareOp .Eq) rEqNil := by
  intro pins s σ H x y v u Q I rx ry h
  obtain ⟨a, b, xs, rfl, rfl, ea, eb, q⟩ := h
  obtain rfl : v = Value.ref a := rx
  obtain rfl : u = Value.ref b := ry
  obtain ⟨_, its, n, r1, h1⟩ := (show ObjOk X.prog X.w H s.heap a (.lst xs) from I.hok a _ ea)
  obtain ⟨_, its2, n2, r2, h2⟩ := (show ObjOk X.prog X.w H s.heap b (.lst []) from I.hok b _ eb)
  cases r2
  have l1 : s.heap.IsList a its.toArray := ⟨_, h1, rfl, n, rfl⟩
  have l2 : s.heap.IsList b #[] := ⟨_, h2, rfl, n2, rfl⟩
  cases r1 with
  | nil => exact RcAt.lists (e := fun _ => true) l1 l2 rfl hu (fun j h1 h2 => absurd h1 (Nat.not_lt_zero j)) _ _ _ _ (fin_bl I q rfl)
  | cons r t => exact RcAt.lists_lengths l1 l2 rfl hu _ _ _ _ (fin_bl I q rfl)
/-- t != () -/
def rNeNilT : R2 := fun x y H Q => ∃ a b xs, x = .ref a ∧ y = .ref b ∧ H a = some (.tup xs) ∧ H b = some (.tup []) ∧ Q (.bl (!xs.isEmpty)) H
theorem op_neNilT {X : Cx} (hu : X.A.units < cLine) : OpR X (compareOp .NotEq) rNeNilT := by
  intro pins s σ H x y v u Q I rx ry h
  obtain ⟨a, b, xs, rfl, rfl, ea, eb, q⟩ := h
  obtain rfl : v = Value.ref a := rx
  obtain rfl : u = Value.ref b := ry
  obtain ⟨_, its, r1, o1, h1, c1, n1, d1⟩ := (show ObjOk X.prog X.w H s.heap a (.tup xs) from I.hok a _ ea)
  obtain ⟨_, its2, r2, o2, h2, c2, n2, d2⟩ := (show ObjOk X.prog X.w H s.heap b (.tup []) from I.hok b _ eb)
  cases r2
  have l1 : s.heap.IsTuple a its.toArray := ⟨o1, h1, c1, n1, d1⟩
  have l2 : s.heap.IsTuple b #[] := ⟨o2, h2, c2, n2, d2⟩
  have hl := Paired.length r1
  refine RcNeAt.tuples (e := fun _ => true) l1 l2 hu (fun j h1 h2 => absurd h2 (Nat.not_lt_zero j)) _ _ _ _ (fin_bl I q ?_)
  cases r1 <;> simp
end LQ
/-! list(zip(t, u)) of two tuples -/
namespace LZ
open PySem PySem.Spec PyProof.Rows L2 RZ PySem.W
theorem zip_no_len : typeLookup (.type "zip") "__len__" = pure none := by rw [typeLookup_type, builtinLookup_eq_fast]; kernel_rfl
theorem zip_no_hint : typeLookup (.type "zip") "__length_hint__" = pure none := by rw [typeLookup_type, builtinLookup_eq_fast]; kernel_rfl
section
variable {prog : Program} {w : World} {A : Around} {E : Value → Shared → Prop} {s : Shared}
theorem item_held {z TI TO T i1 i2 l1 l2 : Addr} {f : Bool} {oT : Obj} {k1 k2 : Nat} {xs ys : Array Value} {x y : Value} {Q : Value → Shared → Prop} (D : ZipApart z TI TO i1 i2 l1 l2)
    (hz : IsZipHeld s.heap z TI TO T f) (hT : s.heap.get? T = some oT) (hTI : IsPair s.heap TI (.ref i1) (.ref i2))
    (h1 : s.heap.IsTupleIter i1 l1 k1) (h2 : s.heap.IsTupleIter i2 l2 k2) (hl1 : s.heap.IsTuple l1 xs) (hl2 : s.heap.IsTuple l2 ys) (hx : xs[k1]? = some x) (hy : ys[k2]? = some y)
    (hQ : ∀ h', IsZipHeld h' z TI TO T true → h'.IsTupleIter i1 l1 (k1 + 1) → h'.IsTupleIter i2 l2 (k2 + 1) → IsPair h' s.heap.objs.size x y → h'.objs.size = s.heap.objs.size + 1 →
      (∀ c o, c ≠ z → c ≠ i1 → c ≠ i2 → s.heap.get? c = some o → h'.get? c = some o) → Q (.ref s.heap.objs.size) { s with heap := h' }) :
    wpAny (model prog w) A (Builtin.«zip.__next__» ⟨[.ref z], []⟩) (fun fin s' => ∃ v, fin = .done (.ret v) ∧ Q v s') E s := by
  show wpAny _ _ (field (.ref z) 2 >>= _) _ _ _
  refine wpAny_bind (wpAny_field hz rfl (x := .bool false) rfl ?_)
  show wpAny _ _ (field (.ref z) 3 >>= _) _ _ _
  refine wpAny_bind (wpAny_field hz rfl (x := .ref TI) rfl ?_)
  refine wpAny_bind (wpAny_seqItems hTI rfl ?_)
  show wpAny _ _ (Builtin.SmallTypes.ownedTupleIsFree (.ref z) >>= _) _ _ _
  refine wpAny_bind (wpAny_tupleHeld_zip hz hT fun h₁ hz₁ hs₁ => ?_)
  simp only [Bool.false_eq_true, if_false]
  refine wpAny_bind ?_
  rw [← Array.forIn_toList]
  simp only [List.forIn_cons, List.forIn_nil]
  refine wpAny_bind (wpAny_bind (wpAny_holding ?_))
  show wpAny _ _ (Builtin.SmallTypes.nextOf (.ref i1) >>= _) _ _ _
  refine wpAny_bind (nextOf_tuple_item (s := { s with heap := h₁ }) (h1.extBut hs₁.extBut D.i1z) (hl1.extBut hs₁.extBut D.l1z) hx fun h₂ h1₂ hs₂ => wpAny_pure ?_)
  refine wpAny_pure ?_
  refine wpAny_bind (wpAny_bind (wpAny_holding ?_))
  show wpAny _ _ (Builtin.SmallTypes.nextOf (.ref i2) >>= _) _ _ _
  refine wpAny_bind (nextOf_tuple_item (s := { s with heap := h₂ }) ((h2.extBut hs₁.extBut D.i2z).extBut hs₂.extBut D.i12.symm) ((hl2.extBut hs₁.extBut D.l2z).extBut hs₂.extBut D.l2i1) hy fun h₃ h2₃ hs₃ => wpAny_pure ?_)
  refine wpAny_pure (wpAny_pure ?_)
  show wpAny _ _ (newTuple [x, y] >>= _) _ _ _
  refine wpAny_bind (wpAny_newTuple ?_)
  have hsz : h₃.objs.size = s.heap.objs.size := by rw [hs₃.1, hs₂.1, hs₁.1]
  have hz₃ : IsZipHeld h₃ z TI TO T true := hs₃.extBut _ _ D.i2z.symm (hs₂.extBut _ _ D.i1z.symm hz₁)
  have hk : ∀ c o, c ≠ z → c ≠ i1 → c ≠ i2 → s.heap.get? c = some o → h₃.get? c = some o := fun c o c1 c2 c3 e => hs₃.extBut _ _ c3 (hs₂.extBut _ _ c2 (hs₁.extBut _ _ c1 e))
  have h1₃ : h₃.IsTupleIter i1 l1 (k1 + 1) := h1₂.extBut hs₃.extBut D.i12
  refine wpAny_pure ⟨_, rfl, ?_⟩
  show Q (.ref h₃.objs.size) _
  have hp : IsPair (h₃.push { cls := .type "tuple", data := .seq #[x, y] }) h₃.objs.size x y := Heap.get?_push_size _ rfl
  have hz4 : (h₃.push { cls := .type "tuple", data := .seq #[x, y] }).objs.size = h₃.objs.size + 1 := Heap.size_push ..
  rw [hsz] at hp hz4 ⊢
  exact hQ _ (Heap.get?_push_of_some _ hz₃) (h1₃.at fun o e => Heap.get?_push_of_some _ e) (h2₃.at fun o e => Heap.get?_push_of_some _ e) hp hz4 fun c o c1 c2 c3 e => Heap.get?_push_of_some _ (hk c o c1 c2 c3 e)
theorem end_held {z TI TO T i1 i2 l1 l2 : Addr} {f : Bool} {oT : Obj} {k1 k2 : Nat} {xs ys : Array Value} {Q : Fin → Shared → Prop} (hh : A.handled = none) (D : ZipApart z TI TO i1 i2 l1 l2)
    (hz : IsZipHeld s.heap z TI TO T f) (hT : s.heap.get? T = some oT) (hTI : IsPair s.heap TI (.ref i1) (.ref i2))
    (h1 : s.heap.IsTupleIter i1 l1 k1) (h2 : s.heap.IsTupleIter i2 l2 k2) (hl1 : s.heap.IsTuple l1 xs) (hl2 : s.heap.IsTuple l2 ys) (hend : xs[k1]? = none ∨ ys[k2]? = none)
    (hE : ∀ h' e, (∀ c o, c ≠ z → c ≠ i1 → c ≠ i2 → s.heap.get? c = some o → h'.get? c = some o) → (∃ o, h'.get? e = some o ∧ o.cls = .type "StopIteration") → E (.ref e) { s with heap := h' }) :
    wpAny (model prog w) A (Builtin.«zip.__next__» ⟨[.ref z], []⟩) Q E s := by
  show wpAny _ _ (field (.ref z) 2 >>= _) _ _ _
  refine wpAny_bind (wpAny_field hz rfl (x := .bool false) rfl ?_)
  show wpAny _ _ (field (.ref z) 3 >>= _) _ _ _
  refine wpAny_bind (wpAny_field hz rfl (x := .ref TI) rfl ?_)
  refine wpAny_bind (wpAny_seqItems hTI rfl ?_)
  show wpAny _ _ (Builtin.SmallTypes.ownedTupleIsFree (.ref z) >>= _) _ _ _
  refine wpAny_bind (wpAny_tupleHeld_zip hz hT fun h₁ hz₁ hs₁ => ?_)
  simp only [Bool.false_eq_true, if_false]
  refine wpAny_bind ?_
  rw [← Array.forIn_toList]
  simp only [List.forIn_cons, List.forIn_nil]
  refine wpAny_bind (wpAny_bind (wpAny_holding ?_))
  show wpAny _ _ (Builtin.SmallTypes.nextOf (.ref i1) >>= _) _ _ _
  cases hx : xs[k1]? with
  | none =>
    refine wpAny_bind (nextOf_tuple_end (s := { s with heap := h₁ }) hh (h1.extBut hs₁.extBut D.i1z) (hl1.extBut hs₁.extBut D.l1z) hx fun h₂ e hs₂ he => ?_)
    exact hE h₂ e (fun c o c1 c2 _ x => hs₂ _ _ c2 (hs₁.extBut _ _ c1 x)) he
  | some x =>
    have hy : ys[k2]? = none := by rcases hend with h | h; rw [hx] at h; cases h; exact h
    refine wpAny_bind (nextOf_tuple_item (s := { s with heap := h₁ }) (h1.extBut hs₁.extBut D.i1z) (hl1.extBut hs₁.extBut D.l1z) hx fun h₂ h1₂ hs₂ => wpAny_pure ?_)
    refine wpAny_pure ?_
    refine wpAny_bind (wpAny_bind (wpAny_holding ?_))
    show wpAny _ _ (Builtin.SmallTypes.nextOf (.ref i2) >>= _) _ _ _
    refine wpAny_bind (nextOf_tuple_end (s := { s with heap := h₂ }) hh ((h2.extBut hs₁.extBut D.i2z).extBut hs₂.extBut D.i12.symm) ((hl2.extBut hs₁.extBut D.l2z).extBut hs₂.extBut D.l2i1) hy fun h₃ e hs₃ he => ?_)
    exact hE h₃ e (fun c o c1 c2 c3 x => hs₃ _ _ c3 (hs₂.extBut _ _ c2 (hs₁.extBut _ _ c1 x))) he
theorem next_item_held {z TI TO T i1 i2 l1 l2 : Addr} {f : Bool} {oT : Obj} {k1 k2 : Nat} {xs ys : Array Value} {x y : Value} {Q : Option Value → Shared → Prop} (D : ZipApart z TI TO i1 i2 l1 l2)
    (hz : IsZipHeld s.heap z TI TO T f) (hT : s.heap.get? T = some oT) (hTI : IsPair s.heap TI (.ref i1) (.ref i2))
    (h1 : s.heap.IsTupleIter i1 l1 k1) (h2 : s.heap.IsTupleIter i2 l2 k2) (hl1 : s.heap.IsTuple l1 xs) (hl2 : s.heap.IsTuple l2 ys) (hx : xs[k1]? = some x) (hy : ys[k2]? = some y)
    (hQ : ∀ h', IsZipHeld h' z TI TO T true → h'.IsTupleIter i1 l1 (k1 + 1) → h'.IsTupleIter i2 l2 (k2 + 1) → IsPair h' s.heap.objs.size x y → h'.objs.size = s.heap.objs.size + 1 →
      (∀ c o, c ≠ z → c ≠ i1 → c ≠ i2 → s.heap.get? c = some o → h'.get? c = some o) → Q (some (.ref s.heap.objs.size)) { s with heap := h' }) :
    wpAny (model prog w) A (pyNext (.ref z)) Q E s := by
  have hTy : s.TypeIs (.ref z) "zip" := ⟨_, hz, rfl⟩
  unfold pyNext
  exact wpAny_bind (wpAny_attempt (wpAny_callSpecial?_slot (name := Str.ofString "__next__") hTy F.slot_zip_next
    (wpAny_call_entry F.slot_zip_next hTy F.entry_zip_next
      (item_held D hz hT hTI h1 h2 hl1 hl2 hx hy fun h' a1 a3 a4 a5 a6 a7 => wpAny_pure (hQ h' a1 a3 a4 a5 a6 a7)) (F.args_zip_next_1 _))))
theorem next_end_held {z TI TO T i1 i2 l1 l2 : Addr} {f : Bool} {oT : Obj} {k1 k2 : Nat} {xs ys : Array Value} {Q : Option Value → Shared → Prop} (hh : A.handled = none) (D : ZipApart z TI TO i1 i2 l1 l2)
    (hz : IsZipHeld s.heap z TI TO T f) (hT : s.heap.get? T = some oT) (hTI : IsPair s.heap TI (.ref i1) (.ref i2))
    (h1 : s.heap.IsTupleIter i1 l1 k1) (h2 : s.heap.IsTupleIter i2 l2 k2) (hl1 : s.heap.IsTuple l1 xs) (hl2 : s.heap.IsTuple l2 ys) (hend : xs[k1]? = none ∨ ys[k2]? = none)
    (hQ : ∀ h', (∀ c o, c ≠ z → c ≠ i1 → c ≠ i2 → s.heap.get? c = some o → h'.get? c = some o) → Q none { s with heap := h' }) : wpAny (model prog w) A (pyNext (.ref z)) Q E s := by
  have hTy : s.TypeIs (.ref z) "zip" := ⟨_, hz, rfl⟩
  unfold pyNext
  refine wpAny_bind (wpAny_attempt (wpAny_callSpecial?_slot (name := Str.ofString "__next__") hTy F.slot_zip_next
    (wpAny_call_entry F.slot_zip_next hTy F.entry_zip_next (end_held hh D hz hT hTI h1 h2 hl1 hl2 hend fun h' e hk he => ?_) (F.args_zip_next_1 _))))
  obtain ⟨o, ho, hc⟩ := he
  refine wpAny_bind (wpAny_isInstance (T := "StopIteration") (b := true) ⟨o, ho, hc⟩ isSubtype_stop ?_)
  exact wpAny_pure (hQ _ hk)

/-- the zip at z behind i turns -/
def ZS (h : Heap) (z TI TO i1 i2 a b : Addr) (i : Nat) : Prop :=
  ((IsZip h z TI TO .none ∧ ∃ x y, IsPair h TO x y) ∨ ∃ (T : Addr) (f : Bool) (oT : Obj), T ≠ z ∧ T ≠ i1 ∧ T ≠ i2 ∧ IsZipHeld h z TI TO T f ∧ h.get? T = some oT) ∧
    IsPair h TI (.ref i1) (.ref i2) ∧ h.IsTupleIter i1 a i ∧ h.IsTupleIter i2 b i
theorem ZS.ty {h : Heap} {z TI TO i1 i2 a b : Addr} {i : Nat} (Z : ZS h z TI TO i1 i2 a b i) : ∃ fs, h.get? z = some { cls := .type "zip", dict := none, data := .fields fs, slots := #[] } := by
  rcases Z.1 with ⟨e, _⟩ | ⟨T, f, oT, _, _, _, e, _⟩
  · exact ⟨_, e⟩
  · exact ⟨_, e⟩
theorem ZS.keep {h h' : Heap} {z TI TO i1 i2 a b q : Addr} {i : Nat} (Z : ZS h z TI TO i1 i2 a b i) (k : ∀ c o, c ≠ q → h.get? c = some o → h'.get? c = some o) (nz : z ≠ q) (nTI : TI ≠ q) (nTO : TO ≠ q) (n1 : i1 ≠ q) (n2 : i2 ≠ q)
    (hq : ∃ oq, h'.get? q = some oq) : ZS h' z TI TO i1 i2 a b i := by
  obtain ⟨Z1, Z2, Z3, Z4⟩ := Z
  refine ⟨?_, k _ _ nTI Z2, Z3.at fun o e => k _ o n1 e, Z4.at fun o e => k _ o n2 e⟩
  rcases Z1 with ⟨e, x, y, e2⟩ | ⟨T, f, oT, t1, t2, t3, e, e2⟩
  · exact .inl ⟨k _ _ nz e, x, y, k _ _ nTO e2⟩
  · by_cases hT : T = q
    · obtain ⟨oq, hq⟩ := hq
      exact .inr ⟨T, f, oq, t1, t2, t3, k _ _ nz e, by rw [hT]; exact hq⟩
    · exact .inr ⟨T, f, oT, t1, t2, t3, k _ _ nz e, k _ _ hT e2⟩
theorem ZS.item {z TI TO i1 i2 l1 l2 : Addr} {k : Nat} {xs ys : Array Value} {x y : Value} {Q : Option Value → Shared → Prop} (D : ZipApart z TI TO i1 i2 l1 l2)
    (Z : ZS s.heap z TI TO i1 i2 l1 l2 k) (hl1 : s.heap.IsTuple l1 xs) (hl2 : s.heap.IsTuple l2 ys) (hx : xs[k]? = some x) (hy : ys[k]? = some y)
    (hQ : ∀ h', ZS h' z TI TO i1 i2 l1 l2 (k + 1) → IsPair h' s.heap.objs.size x y →
      (∀ c o, c ≠ z → c ≠ TO → c ≠ i1 → c ≠ i2 → s.heap.get? c = some o → h'.get? c = some o) → Q (some (.ref s.heap.objs.size)) { s with heap := h' }) :
    wpAny (model prog w) A (pyNext (.ref z)) Q E s := by
  obtain ⟨Z1, Z2, Z3, Z4⟩ := Z
  have lz : z < s.heap.objs.size := by
    rcases Z1 with ⟨e, _⟩ | ⟨T, f, oT, _, _, _, e, _⟩
    · exact Heap.lt_size e
    · exact Heap.lt_size e
  have l1' : i1 < s.heap.objs.size := by
    obtain ⟨_, e, _⟩ := Z3
    exact Heap.lt_size e
  have l2' : i2 < s.heap.objs.size := by
    obtain ⟨_, e, _⟩ := Z4
    exact Heap.lt_size e
  rcases Z1 with ⟨e, a, b, eTO⟩ | ⟨T, f, oT, t1, t2, t3, e, eT⟩
  · refine pyNext_zipT_item D e Z2 eTO Z3 Z4 hl1 hl2 hx hy fun h' z' TO' h1' h2' hT hsz hk => ?_
    exact hQ h' ⟨.inr ⟨s.heap.objs.size, false, _, Nat.ne_of_gt lz, Nat.ne_of_gt l1', Nat.ne_of_gt l2', z', hT⟩, hk _ _ D.TIz D.TITO D.TIi1 D.TIi2 Z2, h1', h2'⟩ hT hk
  · refine next_item_held D e eT Z2 Z3 Z4 hl1 hl2 hx hy fun h' z' h1' h2' hT hsz hk => ?_
    exact hQ h' ⟨.inr ⟨T, true, oT, t1, t2, t3, z', hk _ _ t1 t2 t3 eT⟩, hk _ _ D.TIz D.TIi1 D.TIi2 Z2, h1', h2'⟩ hT fun c o c1 _ c3 c4 e => hk c o c1 c3 c4 e
theorem ZS.done {z TI TO i1 i2 l1 l2 : Addr} {k : Nat} {xs ys : Array Value} {Q : Option Value → Shared → Prop} (hh : A.handled = none) (D : ZipApart z TI TO i1 i2 l1 l2)
    (Z : ZS s.heap z TI TO i1 i2 l1 l2 k) (hl1 : s.heap.IsTuple l1 xs) (hl2 : s.heap.IsTuple l2 ys) (hend : xs[k]? = none ∨ ys[k]? = none)
    (hQ : ∀ h', (∀ c o, c ≠ z → c ≠ TO → c ≠ i1 → c ≠ i2 → s.heap.get? c = some o → h'.get? c = some o) → Q none { s with heap := h' }) :
    wpAny (model prog w) A (pyNext (.ref z)) Q E s := by
  obtain ⟨Z1, Z2, Z3, Z4⟩ := Z
  rcases Z1 with ⟨e, a, b, eTO⟩ | ⟨T, f, oT, t1, t2, t3, e, eT⟩
  · exact pyNext_zipT_end hh D e Z2 eTO Z3 Z4 hl1 hl2 hend hQ
  · exact next_end_held hh D e eT Z2 Z3 Z4 hl1 hl2 hend fun h' hk => hQ h' fun c o c1 _ c3 c4 e => hk c o c1 c3 c4 e
end
theorem Same.seqT {K : PySem.W.Frag} {H H' : Hp} {a : Addr} {xs : List V} (e : Same H H') (h : SqT K H a xs) : SqT K H' a xs := by
  rcases h with (h | ⟨o, h⟩) | h
  · exact .inl (.inl (e _ _ h))
  · exact .inl (.inr ⟨o, e _ _ h⟩)
  · exact .inr h
/-- pairs, each a tuple of its own -/
abbrev PairsAt (H : Hp) : List V → List (V × V) → Prop := Paired fun r p => ∃ T, r = V.ref T ∧ H T = some (.tup [p.1, p.2])
theorem PairsAt.keep {H H' : Hp} {q : Addr} (k : ∀ b o, b ≠ q → H b = some o → H' b = some o) (hq : ∀ t, H q ≠ some (.tup t)) : ∀ {rs : List V} {ps : List (V × V)}, PairsAt H rs ps → PairsAt H' rs ps
  | _, _, .nil => .nil
  | _, _, .cons ⟨T, e1, e2⟩ t => .cons ⟨T, e1, k _ _ (fun z => hq _ (by rw [← z]; exact e2)) e2⟩ (PairsAt.keep k hq t)
theorem PairsAt.snoc {H : Hp} {r : V} {p : V × V} (h : ∃ T, r = V.ref T ∧ H T = some (.tup [p.1, p.2])) : ∀ {rs : List V} {ps : List (V × V)}, PairsAt H rs ps → PairsAt H (rs ++ [r]) (ps ++ [p])
  | _, _, .nil => .cons h .nil
  | _, _, .cons h' t => .cons h' (PairsAt.snoc h t)
section
variable {X : Cx} {pins : List (Addr × Obj)} {σ : L2.St} {H0 : Hp} {q z TI TO i1 i2 a b : Addr} {xs ys : List V} {A1 : Around}
theorem zip_loop {Rs : Result → Shared → Prop} (hh : A1.in1.handled = none) (D : ZipApart z TI TO i1 i2 a b) (hl : xs.length = ys.length) (hsz : xs.length < sizeLine) (nq : q ∉ [z, TI, TO, i1, i2]) (hTO : TO < z) (hq0 : H0 q = none)
    (ha : SqT X.K H0 a xs) (hb : SqT X.K H0 b ys)
    (hdone : ∀ acc H s, Inv X pins σ H s → Same H0 H → H q = some (.lst acc) → PairsAt H acc (xs.zip ys) → Rs (.ok (.ret .none)) s) :
    ∀ (m i : Nat) (acc : List V) (H : Hp) (s : Shared), m = xs.length - i → i ≤ xs.length → Inv X pins σ H s → ZS s.heap z TI TO i1 i2 a b i → (∀ c ∈ [z, TI, TO, i1, i2], FpOk X pins H c) → Same H0 H →
      H q = some (.lst acc) → PairsAt H acc ((xs.zip ys).take i) → codeAny (model X.prog X.w) A1 (.builtin "list.extend.loop" ⟨[.ref q, .ref z, .none], []⟩) Rs s := by
  intro m
  induction m with
  | zero =>
    intro i acc H s hm hi I Z hf sm hq hP
    have ei : i = xs.length := by omega
    subst ei
    refine codeAny_builtin PySem.F.entry_extend_loop ?_
    rw [Around.under_plainId PySem.F.plain_extend_loop _]
    show wpAny _ A1.in1 (pyNext (.ref z) >>= _) _ _ s
    obtain ⟨its, rv, p, _⟩ := I.tuple (Same.seqT sm ha)
    obtain ⟨its2, rv2, p2, _⟩ := I.tuple (Same.seqT sm hb)
    have e1 := rv.length
    have e2 := rv2.length
    refine wpAny_bind (ZS.done hh D Z p p2 (.inl (by simp; omega)) fun h' hk => ?_)
    refine wpAny_pure (hdone acc H _ (I.turnedL (t' := s.toks) (ch := [z, TI, TO, i1, i2]) (fun c o hb q =>
      hk c o (fun q' => hb (by simp [q'])) (fun q' => hb (by simp [q'])) (fun q' => hb (by simp [q'])) (fun q' => hb (by simp [q'])) q) hf) sm hq ?_)
    rw [List.take_of_length_le (by rw [List.length_zip]; omega)] at hP
    exact hP
  | succ m ih =>
    intro i acc H s hm hi I Z hf sm hq hP
    have hlt : i < xs.length := by omega
    have hlt2 : i < ys.length := by omega
    refine codeAny_builtin PySem.F.entry_extend_loop ?_
    rw [Around.under_plainId PySem.F.plain_extend_loop _]
    show wpAny _ A1.in1 (pyNext (.ref z) >>= _) _ _ s
    obtain ⟨its, rv, p, _⟩ := I.tuple (Same.seqT sm ha)
    obtain ⟨its2, rv2, p2, _⟩ := I.tuple (Same.seqT sm hb)
    obtain ⟨u, hu, ru⟩ := rv.get (List.getElem?_eq_getElem hlt)
    obtain ⟨u2, hu2, ru2⟩ := rv2.get (List.getElem?_eq_getElem hlt2)
    have accl : acc.length = i := by
      have e := Paired.length hP
      rw [List.length_take, List.length_zip] at e
      omega
    refine wpAny_bind (ZS.item D Z p p2 (x := u) (y := u2) (by simpa using hu) (by simpa using hu2) fun h' Z' hT hk => ?_)
    have new : ObjOk X.prog X.w (upd H s.heap.objs.size (.tup [xs[i], ys[i]])) h' s.heap.objs.size (.tup [xs[i], ys[i]]) :=
      ⟨by show 2 ≤ sizeLine; decide, [u, u2], .cons ru (.cons ru2 .nil), ⟨_, hT, rfl, _, rfl⟩⟩
    have I1 : Inv X pins σ (upd H s.heap.objs.size (.tup [xs[i], ys[i]])) { s with heap := h' } :=
      I.turnedNew (t' := s.toks) (ch := [z, TI, TO, i1, i2]) (fun c o hb q => hk c o (fun q' => hb (by simp [q'])) (fun q' => hb (by simp [q'])) (fun q' => hb (by simp [q'])) (fun q' => hb (by simp [q'])) q) hf (Nat.le_refl _) new
    have nT : H s.heap.objs.size = none := I.hok.fresh (Nat.le_refl _)
    have qT : q ≠ s.heap.objs.size := ne_of_none hq nT
    have hq1 : upd H s.heap.objs.size (.tup [xs[i], ys[i]]) q = some (.lst acc) := by
      rw [upd_ne qT]
      exact hq
    show wpAny _ A1.in1 (updateSeq q (·.push (.ref s.heap.objs.size)) >>= _) _ _ _
    obtain ⟨z1, its3, k, r2, hl3, e⟩ := I1.lstM hq1
    have hr : its3.length = acc.length := hl3.symm
    refine wpAny_bind (wpAny_updateSeq e rfl (wpAny_pure ⟨plainId_quiet PySem.F.plain_extend_loop _, ?_⟩) (by rw [List.size_toArray]; omega) (by show (its3.toArray.push _).size ≤ sizeLine + 1; rw [Array.size_push, List.size_toArray]; omega))
    have I2 := I1.lset (its' := its3 ++ [.ref s.heap.objs.size]) (f := (·.push (.ref s.heap.objs.size))) (ys := acc ++ [.ref s.heap.objs.size]) (t' := s.toks) hq1 e (by simp) (r2.append (.cons (show RelV (.ref s.heap.objs.size) (.ref s.heap.objs.size) from rfl) .nil)) (by rw [List.length_append, List.length_singleton]; omega)
    have lts : ∀ c ∈ [z, TI, TO, i1, i2], c ≠ s.heap.objs.size := by
      intro c hc ec
      have Z0 := Z
      obtain ⟨Z1, Z2, ⟨o3, Z3, _⟩, ⟨o4, Z4, _⟩⟩ := Z0
      have hz : z < s.heap.objs.size := by
        obtain ⟨fs, e⟩ := Z.ty
        exact Heap.lt_size e
      have e' : c = z ∨ c = TI ∨ c = TO ∨ c = i1 ∨ c = i2 := by simpa using hc
      rcases e' with q | q | q | q | q
      · exact absurd (q.symm.trans ec) (Nat.ne_of_lt hz)
      · exact absurd (q.symm.trans ec) (Nat.ne_of_lt (Heap.lt_size Z2))
      · exact absurd (q.symm.trans ec) (Nat.ne_of_lt (Nat.lt_trans hTO hz))
      · exact absurd (q.symm.trans ec) (Nat.ne_of_lt (Heap.lt_size Z3))
      · exact absurd (q.symm.trans ec) (Nat.ne_of_lt (Heap.lt_size Z4))
    have nqs : ∀ c ∈ [z, TI, TO, i1, i2], c ≠ q := fun c hc e => nq (by rw [← e]; exact hc)
    refine ih (i + 1) (acc ++ [.ref s.heap.objs.size]) _ _ (by omega) hlt I2 (Z'.keep (q := q) (fun c o hc ho => ?_) (nqs _ (by simp)) (nqs _ (by simp)) (nqs _ (by simp)) (nqs _ (by simp)) (nqs _ (by simp)) ⟨_, PySem.IsL.update e _⟩) (fun c hc => ⟨?_, (hf c hc).2⟩) (fun c o ho => ?_) upd_same ?_
    · exact (Heap.get?_update_other h' _ (Ne.symm hc)).trans ho
    · rw [upd_ne (nqs c hc), upd_ne (lts c hc)]
      exact (hf c hc).1
    · have hc1 : c ≠ q := ne_of_none ho hq0
      rw [upd_ne hc1, upd_ne (ne_of_none (sm _ _ ho) nT)]
      exact sm _ _ ho
    · have hz : (xs.zip ys)[i]? = some (xs[i], ys[i]) := by
        rw [List.getElem?_eq_getElem (by rw [List.length_zip]; omega)]
        simp
      rw [List.take_add_one, hz]
      refine PairsAt.snoc ⟨_, rfl, ?_⟩ (hP.keep (q := q) (fun c o hc ho => ?_) fun t ht => ?_)
      · rw [upd_ne qT.symm, upd_same]
      · rw [upd_ne hc, upd_ne (ne_of_none ho nT)]
        exact ho
      · rw [hq] at ht
        cases ht

/-- list(zip(t, u)), two tuples of one length -/
def tListZip (K : PySem.W.Frag) (ta : TA) : TE := fun σ H Q => ta σ H fun vs H1 => ∃ (a b : Addr) (xs ys : List V), vs = [.ref a, .ref b] ∧ SqT K H1 a xs ∧ SqT K H1 b ys ∧ xs.length = ys.length ∧ xs.length < sizeLine ∧
  ∀ (q : Addr) (H' : Hp) (rs : List V), H1 q = none → Same H1 H' → H' q = some (.lst rs) → PairsAt H' rs (xs.zip ys) → Q (.ref q) H'
theorem pe_listZip {e e2 : Expr} {ta : TA} {p p2 pos pos2 : Pos} (hc : X.calm = true) (hg : Gl X "list") (hm : X.mg "list" = none) (hg2 : Gl X "zip") (hm2 : X.mg "zip" = none) (he : PA X [e, e2] ta)
    (hs : starEach [e, e2] X.env = (false, eval e X.env) :: starEach [e2] X.env := by rfl) (hpl : (backTo pos2 (starEach [e2] X.env)).any (·.1) = false := by rfl)
    (na : starEach [.Call (.Name "zip" p2) [e, e2] [] pos2] X.env = (false, eval (.Call (.Name "zip" p2) [e, e2] [] pos2) X.env) :: starEach [] X.env := by rfl) :
    PE X (.Call (.Name "list" p) [.Call (.Name "zip" p2) [e, e2] [] pos2] [] pos) (tListZip X.K ta) := by
  refine ⟨fun pins s σ H Q I h => ?_⟩
  refine Call_ (ld_blt I hg hm boot_list (PyProof.Rows.callWith_type1 (args_cons (Call_ (ld_blt I hg2 hm2 PyProof.Rows.boot_zip (PyProof.Rows.callWith_type1 (thn (he.run pos2 pins s σ H _ I h) fun us s1 ⟨vs, H1, I1, r1, q1⟩ => ?_) hs hpl))) na) na))
  obtain ⟨a, b, xs, ys, ex, hqx, hqy, hl, hsz, q1⟩ := q1
  subst ex
  cases r1 with
  | cons r rr =>
    cases rr with
    | cons r' rr =>
      cases rr
      cases r
      cases r'
      have fresh5 : ∀ c, c ∈ [s1.heap.objs.size + 4, s1.heap.objs.size + 2, s1.heap.objs.size + 3, s1.heap.objs.size, s1.heap.objs.size + 1] → FpOk X pins H1 c := fun c hcm => by
        have e' : c = s1.heap.objs.size + 4 ∨ c = s1.heap.objs.size + 2 ∨ c = s1.heap.objs.size + 3 ∨ c = s1.heap.objs.size ∨ c = s1.heap.objs.size + 1 := by simpa using hcm
        have hle : s1.heap.objs.size ≤ c := by omega
        exact I1.fpOk hle (I1.hok.fresh hle)
      obtain ⟨its, rv, p1, _⟩ := I1.tuple hqx
      obtain ⟨its2, rv2, p2, _⟩ := I1.tuple hqy
      obtain ⟨o1, ho1, _⟩ := id p1
      obtain ⟨o2, ho2, _⟩ := id p2
      refine call_zipT (show s1.heap.IsTuple a its.toArray from p1) (show s1.heap.IsTuple b its2.toArray from p2) fun h' hz hTI hTO h1 h2 hsz' hk => args_nil ?_
      have I2 : Inv X pins σ H1 { s1 with heap := h' } := I1.kept (t' := s1.toks) hk
      have D := PySem.W.ktu_apart s1.heap.objs.size a b (Heap.lt_size ho1) (Heap.lt_size ho2)
      let h1' : Heap := h'
      have lz : s1.heap.objs.size + 4 < h'.objs.size := by rw [hsz']; omega
      refine callType_codes (Q₁ := fun obj s₁ => obj = .ref h'.objs.size ∧ s₁ = { s1 with heap := h'.push { cls := .type "list", data := .seq #[] } }) PySem.F.called_list (PySem.F.typeCall_list_1 _) PySem.F.entry_list_init
        (code_list_new _ ⟨rfl, rfl⟩) fun obj s₁ h₁ => ?_
      obtain ⟨rfl, rfl⟩ := h₁
      have hS : (h'.push { cls := .type "list", data := .seq #[] }).get? h'.objs.size = some { cls := .type "list", data := .seq #[] } := Heap.get?_push_size _ rfl
      refine ⟨⟨_, hS, rfl⟩, PySem.F.args_list_init_2 _ _, ?_⟩
      have fr : H1 h'.objs.size = none := I2.hok.fresh (Nat.le_refl _)
      have I3 : Inv X pins σ (upd H1 h'.objs.size (.lst [])) { s1 with heap := h'.push { cls := .type "list", data := .seq #[] } } := I2.lnew (its := []) (t' := s1.toks) .nil (Nat.zero_le _)
      show wpAny _ _ (do let old ← Builtin.List.listItems (.ref h'.objs.size); Builtin.List.listUpdate (.ref h'.objs.size) (fun _ => #[]); letGo old.toList.reverse; Builtin.List.listExtendWith (.ref h'.objs.size) (.ref (s1.heap.objs.size + 4)) .none) _ _ _
      refine wpAny_bind ?_
      unfold Builtin.List.listItems
      refine wpAny_bind (wpAny_seqItems hS rfl (wpAny_pure ?_))
      show wpAny _ _ (updateSeq h'.objs.size (fun _ => #[]) >>= fun _ => letGo (#[] : Array Value).toList.reverse >>= fun _ => Builtin.List.listExtendWith (.ref h'.objs.size) (.ref (s1.heap.objs.size + 4)) .none) _ _ _
      refine wpAny_bind (wpAny_updateSeq hS rfl ?_)
      have I4 := I3.lset (f := fun _ => #[]) (its := []) (its' := []) (ys := []) (t' := s1.toks) upd_same hS rfl .nil (Nat.zero_le _)
      rw [upd_upd] at I4
      refine wpAny_bind (wpAny_letGo ?_)
      have Z0 : ZS h' (s1.heap.objs.size + 4) (s1.heap.objs.size + 2) (s1.heap.objs.size + 3) s1.heap.objs.size (s1.heap.objs.size + 1) a b 0 := ⟨.inl ⟨hz, _, _, hTO⟩, hTI, h1, h2⟩
      have up : ∀ c o, c ≠ h'.objs.size → h'.get? c = some o → ((h'.push { cls := .type "list", data := .seq #[] }).update h'.objs.size (Obj.mapSeq fun _ => #[])).get? c = some o := fun c o hc e =>
        (Heap.get?_update_other _ _ (Ne.symm hc)).trans (Heap.get?_push_of_some _ e)
      have hS4 := PySem.IsL.update hS (fun _ => #[])
      have n4 : ∀ c, c < h'.objs.size → c ≠ h'.objs.size := fun c hc => Nat.ne_of_lt hc
      have lt5 : ∀ c, c ∈ [s1.heap.objs.size + 4, s1.heap.objs.size + 2, s1.heap.objs.size + 3, s1.heap.objs.size, s1.heap.objs.size + 1] → c < h'.objs.size := fun c hcm => by
        have e' : c = s1.heap.objs.size + 4 ∨ c = s1.heap.objs.size + 2 ∨ c = s1.heap.objs.size + 3 ∨ c = s1.heap.objs.size ∨ c = s1.heap.objs.size + 1 := by simpa using hcm
        rw [hsz']
        omega
      have Z4 := Z0.keep (q := h'.objs.size) up (n4 _ (lt5 _ (by simp))) (n4 _ (lt5 _ (by simp))) (n4 _ (lt5 _ (by simp))) (n4 _ (lt5 _ (by simp))) (n4 _ (lt5 _ (by simp))) ⟨_, hS4⟩
      obtain ⟨fs4, hz4⟩ := Z4.ty
      have hT4 : Shared.TypeIs { s1 with heap := (h'.push { cls := .type "list", data := .seq #[] }).update h'.objs.size (Obj.mapSeq fun _ => #[]) } (.ref (s1.heap.objs.size + 4)) "zip" := ⟨_, hz4, rfl⟩
      unfold Builtin.List.listExtendWith
      refine wpAny_bind (wpAny_typeOf hT4 ?_)
      have b1 : Builtin.List.listSameRef (.ref h'.objs.size) (.ref (s1.heap.objs.size + 4)) = false := by simp [Builtin.List.listSameRef, Ne.symm (n4 _ (lt5 _ (List.mem_cons_self)))]
      have b2 : (Value.type "zip" == Value.type "list") = false := by decide
      have b3 : (Value.type "zip" == Value.type "tuple") = false := by decide
      simp only [b1, b2, b3, Bool.or_false, Bool.false_eq_true, if_false]
      refine wpAny_bind (wpAny_pyIter_zip (TI := s1.heap.objs.size + 2) (TO := s1.heap.objs.size + 3) (f0 := .none) (up _ _ (n4 _ (lt5 _ (by simp))) hz) ?_)
      refine wpAny_bind (wpAny_holding ?_)
      unfold Builtin.List.listLengthHint
      refine wpAny_bind (wpAny_specialOf hT4 zip_no_len ?_)
      show wpAny _ _ (specialOf (Value.ref (s1.heap.objs.size + 4)) (Str.ofString "__length_hint__") >>= _) _ _ _
      refine wpAny_bind (wpAny_specialOf hT4 zip_no_hint ?_)
      refine wpAny_pure ?_
      show wpAny _ _ (rule "list.extend.makes-room" >>= fun _ => Builtin.List.listTouch (.ref h'.objs.size) >>= fun _ =>
        again (.builtin "list.extend.loop" ⟨[.ref h'.objs.size, .ref (s1.heap.objs.size + 4), .none], []⟩)) _ _ _
      refine wpAny_bind (wpAny_rule ?_)
      refine wpAny_bind ?_
      show wpAny _ _ (updateSeq h'.objs.size (·.push .none) >>= fun _ => updateSeq h'.objs.size (·.pop)) _ _ _
      refine wpAny_bind (wpAny_updateSeq hS4 rfl ?_)
      have I5 := I4.lset (f := (·.push Value.none)) (its := []) (its' := [Value.none]) (ys := [.non]) (t' := s1.toks) upd_same hS4 (by simp) (.cons (show RelV .non Value.none from rfl) .nil) (by rw [List.length_singleton, sizeLine_eq]; decide)
      have hS5 := PySem.IsL.update hS4 (·.push Value.none)
      refine wpAny_updateSeq hS5 rfl ?_ (by show 1 ≤ sizeLine; rw [sizeLine_eq]; decide) (by show 0 ≤ sizeLine + 1; exact Nat.zero_le _)
      have I6 := I5.lset (f := (·.pop)) (its := [Value.none]) (its' := []) (ys := []) (t' := s1.toks) upd_same hS5 (by rfl) .nil (Nat.zero_le _)
      have hS6 := PySem.IsL.update hS5 (·.pop)
      rw [upd_upd, upd_upd] at I6
      have Z6 := Z4.keep (q := h'.objs.size) (fun c o hc e => (Heap.get?_update_other _ _ (Ne.symm hc)).trans ((Heap.get?_update_other _ _ (Ne.symm hc)).trans e)) (n4 _ (lt5 _ (by simp))) (n4 _ (lt5 _ (by simp))) (n4 _ (lt5 _ (by simp))) (n4 _ (lt5 _ (by simp))) (n4 _ (lt5 _ (by simp))) ⟨_, hS6⟩
      have sm : Same H1 (upd H1 h'.objs.size (.lst [])) := fun c o e => by
        rw [upd_ne (ne_of_none e fr)]
        exact e
      refine wpAny_pure ⟨plainId_quiet PySem.F.plain_extend_loop _, zip_loop (A1 := X.A.in1) (Rs := wants (fun r s₂ => r = .none ∧ EP X pins σ Q (.ref h'.objs.size) s₂) X.xe) (H0 := H1) (xs := xs) (ys := ys) (I1.ok.hd hc) D hl hsz (fun hm => n4 _ (lt5 _ hm) rfl) (Nat.lt_succ_self _) fr hqx hqy (fun acc H' s' I' sm' hq' hP' => ?_) (xs.length - 0) 0 [] _ _ rfl (Nat.zero_le _) I6 Z6 (fun c hcm => ⟨?_, (fresh5 c hcm).2⟩) sm upd_same .nil⟩
      · exact ⟨rfl, .ref h'.objs.size, H', I', rfl, q1 _ _ _ fr sm' hq' hP'⟩
      · rw [upd_ne (n4 _ (lt5 _ hcm))]
        exact (fresh5 c hcm).1
end
end LZ
/-! own rules: a dict of the module (texts as keys) asked by any text: d.get(k), k in d; products and quotients of great numbers -/
namespace LK
open PySem PySem.Spec PyProof.Rows L2
/-- the dict at p holds just these rows -/
structure KTab (K : PySem.W.Frag) (w : World) (p : Addr) (tbl : List (Str × V)) : Prop where
  ex : ∃ (es : Array DictEntry) (n : Nat), K.lookup p = some ⟨.type "dict", none, .dict es n, #[]⟩ ∧ PySem.W.KeysLit w.params es.toList ∧ (p == sysModules) = false ∧
    Paired (fun (r : Str × V) (e : DictEntry) => (∃ t, e.key = .str r.1 t) ∧ RelV r.2 e.val) tbl es.toList
theorem find_tab {z : Str} : ∀ {tbl : List (Str × V)} {es : List DictEntry}, Paired (fun (r : Str × V) (e : DictEntry) => (∃ t, e.key = .str r.1 t) ∧ RelV r.2 e.val) tbl es → RelO (tbl.lookup z) ((es.find? fun e => Value.isStrOf z e.key).map (·.val))
  | _, _, .nil => True.intro
  | (x, v) :: tbl, e :: es, .cons ⟨⟨t, hk⟩, hv⟩ r => by
    by_cases h : z = x
    · subst h
      have e1 : Value.isStrOf z e.key = true := by
        rw [hk]
        simp [Value.isStrOf]
      simp only [List.find?, e1, List.lookup, beq_self_eq_true, Option.map_some]
      exact hv
    · have e1 : ¬ Value.isStrOf z e.key = true := by
        rw [hk]
        simp [Value.isStrOf]
        exact fun q => h q.symm
      have e2 : (z == x) = false := beq_eq_false_iff_ne.mpr h
      have e3 : Value.isStrOf z e.key = false := Bool.eq_false_iff.mpr e1
      simp only [List.find?, e3, List.lookup, e2]
      exact find_tab r
/-- a product of numbers that are not too great -/
def CBig (i j : Int) : Prop := i.natAbs < 2 ^ 1000 ∧ j.natAbs < 2 ^ 1000
theorem noP {i j : Int} (h : CBig i j) : Builtin.divisionGoesByPylong i j = false := by
  refine PyProof.noPylong_of_log2 ?_
  by_cases h0 : j.natAbs = 0
  · rw [h0]
    decide +kernel
  · have z : j.natAbs.log2 < 1000 := (Nat.log2_lt h0).mpr h.2
    omega
section
variable {X : Cx} {p : Addr} {tbl : List (Str × V)} {o e : Expr} {td ty : TE} {apos cpos : Pos}
theorem tab_map {pins : List (Addr × Obj)} {σ : L2.St} {H : Hp} {s : Shared} (T : KTab X.K X.w p tbl) (I : Inv X pins σ H s) : ∃ f, s.heap.MapOf (PySem.strKind X.prog X.w) p f ∧ (p == sysModules) = false ∧ ∀ z, RelO (tbl.lookup z) (f z) := by
  obtain ⟨es, n, hl, hk, hm, hp⟩ := T.ex
  refine ⟨_, PySem.W.mapOf_K (prog := X.prog) (w := X.w) I.kIn hl hk, hm, fun z => ?_⟩
  have q := find_tab (z := z) hp
  unfold findBy
  rw [← Array.find?_toList]
  exact q
/-- k in d, k not in d -/
theorem op_inTab : OpR X (compareOp .In) (fun x y H Q => ∃ (z : Str) (p : Addr) (tbl : List (Str × V)), x = .str z ∧ y = .ref p ∧ KTab X.K X.w p tbl ∧ Q (.bl (tbl.lookup z).isSome) H) := by
  intro pins s σ H x y v u Q I rx ry h
  obtain ⟨z, p, tbl, rfl, rfl, T, q⟩ := h
  obtain ⟨t, rfl⟩ := rx
  obtain rfl : u = Value.ref p := ry
  obtain ⟨f, hm, hs, hr⟩ := tab_map T I
  refine wpAny_in_of (PySem.strKind_is X.prog X.w z t) hs hm ?_
  have e : (f z).isSome = (tbl.lookup z).isSome := by
    have r := hr z
    cases h1 : tbl.lookup z <;> cases h2 : f z <;> rw [h1, h2] at r <;> first | rfl | exact r.elim
  rw [e]
  exact ⟨.bl _, H, I.tok _, rfl, q⟩
theorem op_notInTab : OpR X (compareOp .NotIn) (fun x y H Q => ∃ (z : Str) (p : Addr) (tbl : List (Str × V)), x = .str z ∧ y = .ref p ∧ KTab X.K X.w p tbl ∧ Q (.bl (!(tbl.lookup z).isSome)) H) := by
  intro pins s σ H x y v u Q I rx ry h
  obtain ⟨z, p, tbl, rfl, rfl, T, q⟩ := h
  obtain ⟨t, rfl⟩ := rx
  obtain rfl : u = Value.ref p := ry
  obtain ⟨f, hm, hs, hr⟩ := tab_map T I
  refine wpAny_notIn_of (PySem.strKind_is X.prog X.w z t) hs hm ?_
  have e : (f z).isSome = (tbl.lookup z).isSome := by
    have r := hr z
    cases h1 : tbl.lookup z <;> cases h2 : f z <;> rw [h1, h2] at r <;> first | rfl | exact r.elim
  rw [e]
  exact ⟨.bl _, H, I.tok _, rfl, q⟩
/-- d.get(k) -/
theorem pe_kget (ho : PE X o td) (he : PE X e ty) (m : M1 X o "get" apos e cpos) : PE X (.Call (.Attribute o "get" apos) [e] [] cpos)
    (fun σ H Q => td σ H fun x H1 => ∃ (p : Addr) (tbl : List (Str × V)), x = .ref p ∧ KTab X.K X.w p tbl ∧ ty σ H1 fun y H2 => ∃ z : Str, y = .str z ∧ Q ((tbl.lookup z).getD .non) H2) := by
  refine ⟨fun pins s σ H Q I h => ?_⟩
  refine wpAny_Call_method m.base m.few m.line PySem.F.plainAttrs_dict PySem.F.slot_dict_get PySem.F.type_dict_get (thn (ho.run pins s σ H _ I h) fun u s1 hu => ?_)
  obtain ⟨x, H1, I1, rx, p, tbl, ex, T, q1⟩ := hu
  subst ex
  obtain rfl : u = Value.ref p := rx
  obtain ⟨f, hm, hs, hr⟩ := tab_map T I1
  refine ⟨hm.typeIs, fun a e => ?_, ?_⟩
  · cases e
    obtain ⟨o, es, n, ho, ⟨h1, h2, h3⟩, _⟩ := hm
    first
      | exact ⟨o, ho, h2⟩
      | exact ⟨o, ho, h1⟩
      | exact ⟨o, ho, h3⟩
  rw [m.trees]
  refine Calls.callWith_builtin rfl (Calls.evalArgs_plain (Calls.spliced_cons (thn (he.run pins s1 σ H1 _ I1 q1) fun iv s2 hv => ?_)))
  obtain ⟨y, H2, I2, ry, z, ey, q2⟩ := hv
  subst ey
  obtain ⟨t, rfl⟩ := ry
  obtain ⟨f2, hm2, hs2, hr2⟩ := tab_map T I2
  refine Calls.spliced_nil ?_
  refine call_meetsIn PySem.F.slot_dict_get hm2.typeIs PySem.F.entry_dict_get (PySem.F.args_dict_get_2 _ _) (meets_dict_get (PySem.strKind X.prog X.w) p (PySem.strKind_is X.prog X.w z t) hs2) ⟨_, hm2, ?_⟩
  exact ⟨_, H2, I2.tok _, RelO.getD (d := .non) (d' := .none) (hr2 z) rfl, q2⟩
theorem bits_big {i : Int} (h : i.natAbs < 2 ^ 1000) : Builtin.Int.intBits i ≤ 2 ^ 20 :=
  Nat.le_trans (intBits_le h) (by decide)
theorem op_mulB : OpR X (binaryOp .Mult) (rI CBig fun i j => .int (i * j)) := opI fun _ _ _ _ _ _ _ hc q => mul_int q (.of_bits (bits_big hc.1) (bits_big hc.2))
theorem op_fdivB : OpR X (binaryOp .FloorDiv) (rI (fun i j => j ≠ 0 ∧ CBig i j) fun i j => .int (i.fdiv j)) := opI fun i j _ _ _ _ _ hc q => floordiv_int hc.1 q (.inl (noP hc.2))
end
end LK
/-! own rules: ==, !=, in over values that may be the same object -/
namespace LV
open PySem PySem.Spec PyProof.Rows L2
/-- the answer of == between the items x and y (the same object is equal) -/
def EqV (K : PySem.W.Frag) (H : Hp) (n : Nat) (x y : V) (b : Bool) : Prop :=
  ∀ (X : Cx) (pins : List (Addr × Obj)) (σ : L2.St) (s : Shared), X.K = K → Inv X pins σ H s → ∀ v u, L2.RelV x v → L2.RelV y u → ∀ A : Around, A.units + n < cLine → SeqAt.EqAt A s v u b
/-- the answer of == between x and y -/
def RcV (K : PySem.W.Frag) (H : Hp) (n : Nat) (x y : V) (b : Bool) : Prop :=
  ∀ (X : Cx) (pins : List (Addr × Obj)) (σ : L2.St) (s : Shared), X.K = K → Inv X pins σ H s → ∀ v u, L2.RelV x v → L2.RelV y u → ∀ A : Around, A.units + n < cLine → SeqAt.RcAt A s v u b
/-- the answer of != between x and y -/
def NeV (K : PySem.W.Frag) (H : Hp) (n : Nat) (x y : V) (b : Bool) : Prop :=
  ∀ (X : Cx) (pins : List (Addr × Obj)) (σ : L2.St) (s : Shared), X.K = K → Inv X pins σ H s → ∀ v u, L2.RelV x v → L2.RelV y u → ∀ A : Around, A.units + n < cLine → SeqAt.RcNeAt A s v u b
theorem eqAt_of_rcL {A : Around} {s : Shared} {d : Addr} {u : Value} {k : Bool} (hne : (Value.ref d == u) = false) (h : SeqAt.RcAt A s (.ref d) u k) : SeqAt.EqAt A s (.ref d) u k := fun prog w E Q hq => by
  unfold eqBool
  refine wpAny_holding ?_
  refine wpAny_ite_split (fun hab => absurd hab (by rw [hne]; exact Bool.false_ne_true)) (fun _ => ?_)
  cases u <;> exact wpAny_bind (h prog w E _ (wpAny_truthy_bool hq))
theorem eqAt_of_rcR {A : Around} {s : Shared} {d : Addr} {v : Value} {k : Bool} (hne : (v == Value.ref d) = false) (h : SeqAt.RcAt A s v (.ref d) k) : SeqAt.EqAt A s v (.ref d) k := fun prog w E Q hq => by
  unfold eqBool
  refine wpAny_holding ?_
  refine wpAny_ite_split (fun hab => absurd hab (by rw [hne]; exact Bool.false_ne_true)) (fun _ => ?_)
  cases v <;> exact wpAny_bind (h prog w E _ (wpAny_truthy_bool hq))
section
variable {K : PySem.W.Frag} {H : Hp} {n : Nat} {x y : V} {a b : Addr} {xs ys : List V} {e : Nat → Bool}
theorem EqV.same (a : Addr) : EqV K H n (.ref a) (.ref a) true := by
  intro X pins σ s hK I v u rv ru A hu
  obtain rfl : v = Value.ref a := rv
  obtain rfl : u = Value.ref a := ru
  exact SeqAt.EqAt.same _
theorem EqV.flat (fx : flatV x = true) (fy : flatV y = true) : EqV K H n x y (eqV x y) := by
  intro X pins σ s hK I v u rv ru A hu
  exact eqAt_V rv ru fx fy
theorem EqV.of_rc (ne : a ≠ b) {k : Bool} (h : RcV K H n (.ref a) (.ref b) k) : EqV K H n (.ref a) (.ref b) k := by
  intro X pins σ s hK I v u rv ru A hu
  have r := h X pins σ s hK I v u rv ru A hu
  obtain rfl : v = Value.ref a := rv
  obtain rfl : u = Value.ref b := ru
  exact SeqAt.EqAt.of_refs ne r
theorem RcV.lst (ha : SqL K H a xs) (hb : SqL K H b ys) (hl : xs.length = ys.length) (he : ∀ i x y, xs[i]? = some x → ys[i]? = some y → EqV K H n x y (e i)) : RcV K H (n + 1) (.ref a) (.ref b) ((List.range xs.length).all e) := by
  intro X pins σ s hK I v u rv ru A hu
  subst hK
  obtain rfl : v = Value.ref a := rv
  obtain rfl : u = Value.ref b := ru
  obtain ⟨its, r1, p1, _⟩ := I.list ha
  obtain ⟨its2, r2, p2, _⟩ := I.list hb
  have l1 := r1.length
  have l2 := r2.length
  have hz : xs.length = its.toArray.size := by rw [List.size_toArray, l1]
  rw [hz]
  refine SeqAt.RcAt.lists (e := e) p1.isList p2.isList (by rw [List.size_toArray, List.size_toArray]; omega) (by omega) fun j h1 h2 => ?_
  rw [List.size_toArray] at h1 h2
  have hx : xs[j]? = some (xs[j]'(by omega)) := List.getElem?_eq_getElem (by omega)
  have hy : ys[j]? = some (ys[j]'(by omega)) := List.getElem?_eq_getElem (by omega)
  obtain ⟨v1, e1, q1⟩ := r1.get hx
  obtain ⟨v2, e2, q2⟩ := r2.get hy
  have f1 : its.toArray[j] = v1 := by
    have := List.getElem?_eq_getElem h1
    rw [e1] at this
    simpa using (Option.some.inj this).symm
  have f2 : its2.toArray[j] = v2 := by
    have := List.getElem?_eq_getElem h2
    rw [e2] at this
    simpa using (Option.some.inj this).symm
  rw [f1, f2]
  exact he j _ _ hx hy X pins σ s rfl I v1 v2 q1 q2 A.in1 (by show A.units + 1 + n < cLine; omega)
theorem RcV.lst_ne (ha : SqL K H a xs) (hb : SqL K H b ys) (hl : xs.length ≠ ys.length) : RcV K H n (.ref a) (.ref b) false := by
  intro X pins σ s hK I v u rv ru A hu
  subst hK
  obtain rfl : v = Value.ref a := rv
  obtain rfl : u = Value.ref b := ru
  obtain ⟨its, r1, p1, _⟩ := I.list ha
  obtain ⟨its2, r2, p2, _⟩ := I.list hb
  have l1 := r1.length
  have l2 := r2.length
  exact SeqAt.RcAt.lists_lengths p1.isList p2.isList (by rw [List.size_toArray, List.size_toArray]; simp; omega) (by omega)
theorem NeV.lst (ha : SqL K H a xs) (hb : SqL K H b ys) (hl : xs.length = ys.length) (he : ∀ i x y, xs[i]? = some x → ys[i]? = some y → EqV K H n x y (e i)) : NeV K H (n + 1) (.ref a) (.ref b) (!(List.range xs.length).all e) := by
  intro X pins σ s hK I v u rv ru A hu
  subst hK
  obtain rfl : v = Value.ref a := rv
  obtain rfl : u = Value.ref b := ru
  obtain ⟨its, r1, p1, _⟩ := I.list ha
  obtain ⟨its2, r2, p2, _⟩ := I.list hb
  have l1 := r1.length
  have l2 := r2.length
  have hz : xs.length = its.toArray.size := by rw [List.size_toArray, l1]
  rw [hz]
  refine SeqAt.RcNeAt.lists (e := e) p1.isList p2.isList (by rw [List.size_toArray, List.size_toArray]; omega) (by omega) fun j h1 h2 => ?_
  rw [List.size_toArray] at h1 h2
  have hx : xs[j]? = some (xs[j]'(by omega)) := List.getElem?_eq_getElem (by omega)
  have hy : ys[j]? = some (ys[j]'(by omega)) := List.getElem?_eq_getElem (by omega)
  obtain ⟨v1, e1, q1⟩ := r1.get hx
  obtain ⟨v2, e2, q2⟩ := r2.get hy
  have f1 : its.toArray[j] = v1 := by
    have := List.getElem?_eq_getElem h1
    rw [e1] at this
    simpa using (Option.some.inj this).symm
  have f2 : its2.toArray[j] = v2 := by
    have := List.getElem?_eq_getElem h2
    rw [e2] at this
    simpa using (Option.some.inj this).symm
  rw [f1, f2]
  exact he j _ _ hx hy X pins σ s rfl I v1 v2 q1 q2 A.in1 (by show A.units + 1 + n < cLine; omega)
theorem NeV.lst_ne (ha : SqL K H a xs) (hb : SqL K H b ys) (hl : xs.length ≠ ys.length) : NeV K H n (.ref a) (.ref b) true := by
  intro X pins σ s hK I v u rv ru A hu
  subst hK
  obtain rfl : v = Value.ref a := rv
  obtain rfl : u = Value.ref b := ru
  obtain ⟨its, r1, p1, _⟩ := I.list ha
  obtain ⟨its2, r2, p2, _⟩ := I.list hb
  have l1 := r1.length
  have l2 := r2.length
  exact SeqAt.RcNeAt.lists_lengths p1.isList p2.isList (by rw [List.size_toArray, List.size_toArray]; simp; omega) (by omega)
theorem RcV.tup (ha : SqT K H a xs) (hb : SqT K H b ys) (he : ∀ i x y, xs[i]? = some x → ys[i]? = some y → EqV K H n x y (e i)) : RcV K H (n + 1) (.ref a) (.ref b) ((List.range (min xs.length ys.length)).all e && xs.length == ys.length) := by
  intro X pins σ s hK I v u rv ru A hu
  subst hK
  obtain rfl : v = Value.ref a := rv
  obtain rfl : u = Value.ref b := ru
  obtain ⟨its, r1, p1, _⟩ := I.tuple ha
  obtain ⟨its2, r2, p2, _⟩ := I.tuple hb
  have l1 := r1.length
  have l2 := r2.length
  have hz : xs.length = its.toArray.size := by rw [List.size_toArray, l1]
  have hz2 : ys.length = its2.toArray.size := by rw [List.size_toArray, l2]
  rw [hz, hz2]
  refine SeqAt.RcAt.tuples (e := e) p1 p2 (by omega) fun j h1 h2 => ?_
  rw [List.size_toArray] at h1 h2
  have hx : xs[j]? = some (xs[j]'(by omega)) := List.getElem?_eq_getElem (by omega)
  have hy : ys[j]? = some (ys[j]'(by omega)) := List.getElem?_eq_getElem (by omega)
  obtain ⟨v1, e1, q1⟩ := r1.get hx
  obtain ⟨v2, e2, q2⟩ := r2.get hy
  have f1 : its.toArray[j] = v1 := by
    have := List.getElem?_eq_getElem h1
    rw [e1] at this
    simpa using (Option.some.inj this).symm
  have f2 : its2.toArray[j] = v2 := by
    have := List.getElem?_eq_getElem h2
    rw [e2] at this
    simpa using (Option.some.inj this).symm
  rw [f1, f2]
  exact he j _ _ hx hy X pins σ s rfl I v1 v2 q1 q2 A.in1 (by show A.units + 1 + n < cLine; omega)
theorem EqV.flat_lst (fx : flatV x = true) (hb : SqL K H b ys) : EqV K H (n + 1) x (.ref b) false := by
  intro X pins σ s hK I v u rv ru A hu
  subst hK
  obtain rfl : u = Value.ref b := ru
  obtain ⟨its2, r2, p2, _⟩ := I.list hb
  cases x with
  | non => cases rv; exact SeqAt.EqAt.none_list p2.isList (by omega)
  | bl c => cases rv; exact SeqAt.EqAt.bool_list c p2.isList (by omega)
  | int i => obtain ⟨t, rfl⟩ := rv; exact SeqAt.EqAt.int_list i t p2.isList (by omega)
  | str z => obtain ⟨t, rfl⟩ := rv; exact SeqAt.EqAt.str_list z t p2.isList (by omega)
  | _ => exact absurd (show false = true from fx) Bool.false_ne_true
theorem EqV.lst_flat (ha : SqL K H a xs) (fy : flatV y = true) : EqV K H (n + 1) (.ref a) y false := by
  intro X pins σ s hK I v u rv ru A hu
  subst hK
  obtain rfl : v = Value.ref a := rv
  obtain ⟨its2, r2, p2, _⟩ := I.list ha
  cases y with
  | non => cases ru; exact SeqAt.EqAt.list_none p2.isList (by omega)
  | bl c => cases ru; exact SeqAt.EqAt.list_bool c p2.isList (by omega)
  | int i => obtain ⟨t, rfl⟩ := ru; exact SeqAt.EqAt.list_int i t p2.isList (by omega)
  | str z => obtain ⟨t, rfl⟩ := ru; exact SeqAt.EqAt.list_str z t p2.isList (by omega)
  | _ => exact absurd (show false = true from fy) Bool.false_ne_true
theorem EqV.flat_tup (fx : flatV x = true) (hb : SqT K H b ys) : EqV K H (n + 1) x (.ref b) false := by
  intro X pins σ s hK I v u rv ru A hu
  subst hK
  obtain rfl : u = Value.ref b := ru
  obtain ⟨its2, r2, p2, _⟩ := I.tuple hb
  cases x with
  | non => cases rv; exact SeqAt.EqAt.none_tuple p2 (by omega)
  | bl c => cases rv; exact SeqAt.EqAt.bool_tuple c p2 (by omega)
  | int i => obtain ⟨t, rfl⟩ := rv; exact SeqAt.EqAt.int_tuple i t p2 (by omega)
  | str z => obtain ⟨t, rfl⟩ := rv; exact SeqAt.EqAt.str_tuple z t p2 (by omega)
  | _ => exact absurd (show false = true from fx) Bool.false_ne_true
theorem EqV.tup_flat (ha : SqT K H a xs) (fy : flatV y = true) : EqV K H (n + 1) (.ref a) y false := by
  intro X pins σ s hK I v u rv ru A hu
  subst hK
  obtain rfl : v = Value.ref a := rv
  obtain ⟨its2, r2, p2, _⟩ := I.tuple ha
  cases y with
  | non => cases ru; exact SeqAt.EqAt.tuple_none p2 (by omega)
  | bl c => cases ru; exact SeqAt.EqAt.tuple_bool c p2 (by omega)
  | int i => obtain ⟨t, rfl⟩ := ru; exact SeqAt.EqAt.tuple_int i t p2 (by omega)
  | str z => obtain ⟨t, rfl⟩ := ru; exact SeqAt.EqAt.tuple_str z t p2 (by omega)
  | _ => exact absurd (show false = true from fy) Bool.false_ne_true
theorem EqV.lst_tup (ha : SqL K H a xs) (hb : SqT K H b ys) : EqV K H (n + 1) (.ref a) (.ref b) false := by
  intro X pins σ s hK I v u rv ru A hu
  subst hK
  obtain rfl : v = Value.ref a := rv
  obtain rfl : u = Value.ref b := ru
  obtain ⟨its, r1, p1, _⟩ := I.list ha
  obtain ⟨its2, r2, p2, _⟩ := I.tuple hb
  exact SeqAt.EqAt.list_tuple p1.isList p2 (by omega)
theorem EqV.tup_lst (ha : SqT K H a xs) (hb : SqL K H b ys) : EqV K H (n + 1) (.ref a) (.ref b) false := by
  intro X pins σ s hK I v u rv ru A hu
  subst hK
  obtain rfl : v = Value.ref a := rv
  obtain rfl : u = Value.ref b := ru
  obtain ⟨its, r1, p1, _⟩ := I.tuple ha
  obtain ⟨its2, r2, p2, _⟩ := I.list hb
  exact SeqAt.EqAt.tuple_list p1 p2.isList (by omega)
end
/-! ### dicts on the left -/
section
open LQ
variable {A : Around} {s : Shared} {d : Addr}
theorem cr_none (hd : IsDct s.heap d) (hu : A.units < cLine) : SeqAt.RcAt A s (.ref d) .none false := fun prog w E Q h =>
  SeqAt.rc_eq_decline_or (k := false) hd.typeIs rfl (by decide) F.sub_NoneType_dict F.slot_dict_eq_refl F.slot_NoneType_eq
    (fun _ hq => dict_declines hd rfl F.sub_NoneType_dict hq)
    (fun _ hq => call_gives F.slot_NoneType_eq rfl F.entry_NoneType_eq (F.args_NoneType_eq_2 _ _) (SeqAt.NoneType___eq___none_ref_0 d) hq)
    (fun _ hq => wpAny_of_eq (rfl : isSame (.ref d) .none = pure false) hq) (.inr hu) h
theorem cr_bool (b : Bool) (hd : IsDct s.heap d) (hu : A.units < cLine) : SeqAt.RcAt A s (.ref d) (.bool b) false := fun prog w E Q h => by
  obtain ⟨⟨cls, dd, data, sl⟩, es, ep, ho, hc, hdt⟩ := id hd
  simp only at hdt
  subst hdt
  exact SeqAt.rc_eq_decline_or (k := false) hd.typeIs rfl (by decide) F.sub_bool_dict F.slot_dict_eq_refl F.slot_bool_eq
    (fun _ hq => dict_declines hd rfl F.sub_bool_dict hq)
    (fun _ hq => call_meets F.slot_bool_eq rfl F.entry_int_eq (F.args_int_eq_2 _ _) (int_declines_bool b d _ es ep dd sl) ⟨ho, hq⟩)
    (fun _ hq => wpAny_of_eq (rfl : isSame (.ref d) (.bool b) = pure false) hq) (.inr hu) h
theorem cr_int (b : Int) (u : Tok) (hd : IsDct s.heap d) (hu : A.units < cLine) : SeqAt.RcAt A s (.ref d) (.int b u) false := fun prog w E Q h => by
  obtain ⟨⟨cls, dd, data, sl⟩, es, ep, ho, hc, hdt⟩ := id hd
  simp only at hdt
  subst hdt
  exact SeqAt.rc_eq_decline_or (k := false) hd.typeIs (typeIs_int s b u) (by decide) F.sub_int_dict F.slot_dict_eq_refl F.slot_int_eq
    (fun _ hq => dict_declines hd (typeIs_int s b u) F.sub_int_dict hq)
    (fun _ hq => call_meets F.slot_int_eq (typeIs_int s b u) F.entry_int_eq (F.args_int_eq_2 _ _) (int_declines_int b u d _ es ep dd sl) ⟨ho, hq⟩)
    (fun _ hq => wpAny_of_eq (rfl : isSame (.ref d) (.int b u) = pure false) hq) (.inr hu) h
theorem cr_str (b : Str) (u : Tok) (hd : IsDct s.heap d) (hu : A.units < cLine) : SeqAt.RcAt A s (.ref d) (.str b u) false := fun prog w E Q h => by
  obtain ⟨⟨cls, dd, data, sl⟩, es, ep, ho, hc, hdt⟩ := id hd
  simp only at hdt
  subst hdt
  exact SeqAt.rc_eq_decline_or (k := false) hd.typeIs (typeIs_str s b u) (by decide) F.sub_str_dict F.slot_dict_eq_refl F.slot_str_eq
    (fun _ hq => dict_declines hd (typeIs_str s b u) F.sub_str_dict hq)
    (fun _ hq => call_meets F.slot_str_eq (typeIs_str s b u) F.entry_str_eq (F.args_str_eq_2 _ _) (str_declines b u d _ es ep dd sl) ⟨ho, hq⟩)
    (fun _ hq => wpAny_of_eq (rfl : isSame (.ref d) (.str b u) = pure false) hq) (.inr hu) h
theorem cr_list {l : Addr} {items : Array Value} (hl : s.heap.IsList l items) (hd : IsDct s.heap d) (hu : A.units < cLine) : SeqAt.RcAt A s (.ref d) (.ref l) false := fun prog w E Q h => by
  obtain ⟨⟨cls, dd, data, sl⟩, es, ep, ho, hc, hdt⟩ := id hd
  obtain ⟨⟨cls2, dd2, data2, sl2⟩, ho2, hc2, n2, hd2⟩ := id hl
  obtain ⟨hc1, hcd, hcs⟩ := hc
  simp only at hdt hc1 hc2 hd2
  subst hdt hc1 hc2 hd2
  have hne : d ≠ l := fun e => by
    subst e
    rw [ho] at ho2
    exact absurd (congrArg Obj.data (Option.some.inj ho2)) (fun z => nomatch z)
  exact SeqAt.rc_eq_decline_or (k := false) hd.typeIs ⟨_, ho2, rfl⟩ (by decide) F.sub_list_dict F.slot_dict_eq_refl F.slot_list_eq
    (fun _ hq => dict_declines hd ⟨_, ho2, rfl⟩ F.sub_list_dict hq)
    (fun _ hq => call_meets F.slot_list_eq ⟨_, ho2, rfl⟩ F.entry_list_eq (F.args_list_eq_2 _ _) (list_declines l d items n2 dd2 sl2 es ep dd sl) ⟨ho2, ho, hq⟩)
    (fun _ hq => SeqAt.wpAny_isSame_ref_other' hne ho ho2 (by simp) hq) (.inr hu) h
theorem isSame_dict_any {M : Model} {A : Around} {E : Value → Shared → Prop} {s : Shared} {x y : Addr} {ox oy : Obj} {R : Bool → Shared → Prop} (hxy : x ≠ y) (hx : s.heap.get? x = some ox) (hy : s.heap.get? y = some oy) (hnt : ox.cls ≠ .type "tuple")
    (h : R false s) : wpAny M A (isSame (.ref x) (.ref y)) R E s := by
  show wpAny M A (if (x == y) = true then pure true else _) R E s
  rw [if_neg (by simpa using hxy)]
  refine wpAny_bind (wpAny_load hx (wpAny_bind (wpAny_load hy ?_)))
  split
  · rename_i h1 _ _ _; exact absurd h1 hnt
  · exact wpAny_pure h
theorem cr_tuple {l : Addr} {items : Array Value} (hl : s.heap.IsTuple l items) (hd : IsDct s.heap d) (hu : A.units < cLine) : SeqAt.RcAt A s (.ref d) (.ref l) false := fun prog w E Q h => by
  obtain ⟨⟨cls, dd, data, sl⟩, es, ep, ho, hc, hdt⟩ := id hd
  obtain ⟨⟨cls2, dd2, data2, sl2⟩, ho2, hc2, n2, hd2⟩ := id hl
  obtain ⟨hc1, hcd, hcs⟩ := hc
  simp only at hdt hc1 hc2 hd2
  subst hdt hc1 hc2 hd2
  have hne : d ≠ l := fun e => by
    subst e
    rw [ho] at ho2
    exact absurd (congrArg Obj.data (Option.some.inj ho2)) (fun z => nomatch z)
  exact SeqAt.rc_eq_decline_or (k := false) hd.typeIs ⟨_, ho2, rfl⟩ (by decide) F.sub_tuple_dict F.slot_dict_eq_refl F.slot_tuple_eq
    (fun _ hq => dict_declines hd ⟨_, ho2, rfl⟩ F.sub_tuple_dict hq)
    (fun _ hq => call_meets F.slot_tuple_eq ⟨_, ho2, rfl⟩ F.entry_tuple_eq (F.args_tuple_eq_2 _ _) (tuple_declines l d items n2 dd2 sl2 es ep dd sl) ⟨ho2, ho, hq⟩)
    (fun _ hq => isSame_dict_any hne ho ho2 (by simp) hq) (.inr hu) h
end
section
variable {K : PySem.W.Frag} {H : Hp} {n : Nat} {x y : V} {a b : Addr} {xs ys : List V} {kvs : List (L2.Key × V)}
theorem dct_of {X : Cx} {pins : List (Addr × Obj)} {σ : L2.St} {s : Shared} (I : Inv X pins σ H s) (h : H a = some (.dK kvs)) : LQ.IsDct s.heap a := by
  obtain ⟨_, yd, vd, rd, o, es, ep, ho, hx, hdt, _⟩ := (show ObjOk X.prog X.w H s.heap a (.dK kvs) from I.hok a _ h)
  exact ⟨o, es, ep, ho, hx, hdt⟩
theorem EqV.dct_flat (ha : H a = some (.dK kvs)) (fy : flatV y = true) : EqV K H (n + 1) (.ref a) y false := by
  intro X pins σ s hK I v u rv ru A hu
  obtain rfl : v = Value.ref a := rv
  have D := dct_of I ha
  cases y with
  | non => cases ru; exact eqAt_of_rcL rfl (cr_none D (by omega))
  | bl c => cases ru; exact eqAt_of_rcL rfl (cr_bool c D (by omega))
  | int i => obtain ⟨t, rfl⟩ := ru; exact eqAt_of_rcL rfl (cr_int i t D (by omega))
  | str z => obtain ⟨t, rfl⟩ := ru; exact eqAt_of_rcL rfl (cr_str z t D (by omega))
  | _ => exact absurd (show false = true from fy) Bool.false_ne_true
theorem EqV.flat_dct (fx : flatV x = true) (hb : H b = some (.dK kvs)) : EqV K H (n + 1) x (.ref b) false := by
  intro X pins σ s hK I v u rv ru A hu
  obtain rfl : u = Value.ref b := ru
  have D := dct_of I hb
  cases x with
  | non => cases rv; exact eqAt_of_rcR rfl (LQ.rc_none D (by omega))
  | bl c => cases rv; exact eqAt_of_rcR rfl (LQ.rc_bool c D (by omega))
  | int i => obtain ⟨t, rfl⟩ := rv; exact eqAt_of_rcR rfl (LQ.rc_int i t D (by omega))
  | str z => obtain ⟨t, rfl⟩ := rv; exact eqAt_of_rcR rfl (LQ.rc_str z t D (by omega))
  | _ => exact absurd (show false = true from fx) Bool.false_ne_true
theorem RcV.dct_lst (ha : H a = some (.dK kvs)) (hb : SqL K H b ys) : RcV K H (n + 1) (.ref a) (.ref b) false := by
  intro X pins σ s hK I v u rv ru A hu
  subst hK
  obtain rfl : v = Value.ref a := rv
  obtain rfl : u = Value.ref b := ru
  obtain ⟨its2, r2, p2, _⟩ := I.list hb
  exact cr_list p2.isList (dct_of I ha) (by omega)
theorem RcV.dct_tup (ha : H a = some (.dK kvs)) (hb : SqT K H b ys) : RcV K H (n + 1) (.ref a) (.ref b) false := by
  intro X pins σ s hK I v u rv ru A hu
  subst hK
  obtain rfl : v = Value.ref a := rv
  obtain rfl : u = Value.ref b := ru
  obtain ⟨its2, r2, p2, _⟩ := I.tuple hb
  exact cr_tuple p2 (dct_of I ha) (by omega)
end
/-! ### the operators -/
section
variable {X : Cx}
theorem op_eqW (hu : X.A.units + 64 < cLine) : OpR X (compareOp .Eq) (fun x y H Q => ∃ b, RcV X.K H 60 x y b ∧ Q (.bl b) H) := by
  intro pins s σ H x y v u Q I rx ry h
  obtain ⟨b, r, q⟩ := h
  exact r X pins σ s rfl I v u rx ry X.A (by omega) _ _ _ _ (fin_bl I q rfl)
theorem op_neW (hu : X.A.units + 64 < cLine) : OpR X (compareOp .NotEq) (fun x y H Q => ∃ b, NeV X.K H 60 x y b ∧ Q (.bl b) H) := by
  intro pins s σ H x y v u Q I rx ry h
  obtain ⟨b, r, q⟩ := h
  exact r X pins σ s rfl I v u rx ry X.A (by omega) _ _ _ _ (fin_bl I q rfl)
def eA (e : V → Bool) (u : Value) : Bool := match absV u with
  | some y => e y
  | none => false
theorem absV_of {x : V} {u : Value} (h : L2.RelV x u) : absV u = some x := by
  cases x <;> simp only [L2.RelV] at h <;> first
    | (subst h; rfl)
    | (obtain ⟨t, rfl⟩ := h; rfl)
theorem eA_of {e : V → Bool} {x : V} {u : Value} (h : L2.RelV x u) : eA e u = e x := by
  unfold eA
  rw [absV_of h]
theorem any_eA {e : V → Bool} : ∀ {xs : List V} {us : List Value}, Vals xs us → us.any (eA e) = xs.any e
  | _, _, .nil => rfl
  | _, _, .cons r t => by rw [List.any_cons, List.any_cons, eA_of r, any_eA t]
theorem vals_mem {u : Value} : ∀ {xs : List V} {us : List Value}, Vals xs us → u ∈ us → ∃ x ∈ xs, L2.RelV x u
  | _, _, .nil, h => nomatch h
  | x :: _, _, .cons r t, h => by
    rcases List.mem_cons.mp h with rfl | h
    · exact ⟨x, List.mem_cons_self, r⟩
    · obtain ⟨z, hz, rz⟩ := vals_mem t h
      exact ⟨z, List.mem_cons_of_mem _ hz, rz⟩
/-- x in ys, x not in ys -/
def rInW (K : PySem.W.Frag) (neg : Bool) : R2 := fun x y H Q => ∃ p ys e, y = .ref p ∧ (SqL K H p ys ∨ SqT K H p ys) ∧ (∀ z ∈ ys, EqV K H 60 z x (e z)) ∧ Q (.bl (if neg then !ys.any e else ys.any e)) H
theorem op_inW (hu : X.A.units + 64 < cLine) : OpR X (compareOp .In) (rInW X.K false) := by
  intro pins s σ H x y v u Q I rx ry h
  obtain ⟨p, ys, e, rfl, hq, he, q⟩ := h
  cases ry
  rcases hq with hq | hq
  · obtain ⟨its, r, pl, hz⟩ := I.list hq
    refine SeqAt.in_listAt (eA e) pl.isList (fun w hw => ?_) ⟨.bl _, H, I, rfl, ?_⟩
    · obtain ⟨z, hz, rz⟩ := vals_mem r (by simpa using hw)
      rw [eA_of rz]
      exact he z hz X pins σ s rfl I w v rz rx X.A.in1 (by show X.A.units + 1 + 60 < cLine; omega)
    · rw [show its.toArray.any (eA e) = its.any (eA e) by simp, any_eA r]
      exact q
  · obtain ⟨its, r, pl, hz⟩ := I.tuple hq
    refine SeqAt.in_tupleAt (eA e) pl (fun w hw => ?_) ⟨.bl _, H, I, rfl, ?_⟩
    · obtain ⟨z, hz, rz⟩ := vals_mem r (by simpa using hw)
      rw [eA_of rz]
      exact he z hz X pins σ s rfl I w v rz rx X.A.in1 (by show X.A.units + 1 + 60 < cLine; omega)
    · rw [show its.toArray.any (eA e) = its.any (eA e) by simp, any_eA r]
      exact q
theorem op_notInW (hu : X.A.units + 64 < cLine) : OpR X (compareOp .NotIn) (rInW X.K true) := by
  intro pins s σ H x y v u Q I rx ry h
  obtain ⟨p, ys, e, rfl, hq, he, q⟩ := h
  cases ry
  rcases hq with hq | hq
  · obtain ⟨its, r, pl, hz⟩ := I.list hq
    refine SeqAt.notIn_listAt (eA e) pl.isList (fun w hw => ?_) ⟨.bl _, H, I, rfl, ?_⟩
    · obtain ⟨z, hz, rz⟩ := vals_mem r (by simpa using hw)
      rw [eA_of rz]
      exact he z hz X pins σ s rfl I w v rz rx X.A.in1 (by show X.A.units + 1 + 60 < cLine; omega)
    · rw [show its.toArray.any (eA e) = its.any (eA e) by simp, any_eA r]
      exact q
  · obtain ⟨its, r, pl, hz⟩ := I.tuple hq
    refine SeqAt.notIn_tupleAt (eA e) pl (fun w hw => ?_) ⟨.bl _, H, I, rfl, ?_⟩
    · obtain ⟨z, hz, rz⟩ := vals_mem r (by simpa using hw)
      rw [eA_of rz]
      exact he z hz X pins σ s rfl I w v rz rx X.A.in1 (by show X.A.units + 1 + 60 < cLine; omega)
    · rw [show its.toArray.any (eA e) = its.any (eA e) by simp, any_eA r]
      exact q
end
end LV
/-! own rules: d[k] of a written dict; a tuple of texts asked in a written tuple of such tuples -/
namespace LK
open PySem PySem.Spec PyProof.Rows L2 LV
section
variable {X : Cx} {o e : Expr} {td ty : TE} {pos : Pos}
/-- d[k] -/
theorem pe_kidx (ho : PE X o td) (hi : PE X e ty) (hs : NoSl e) : PE X (.Subscript o e pos)
    (fun σ H Q => td σ H fun x H1 => ty σ H1 fun y H2 => ∃ (p : Addr) (tbl : List (Str × V)) (z : Str) (v : V), x = .ref p ∧ y = .str z ∧ KTab X.K X.w p tbl ∧ tbl.lookup z = some v ∧ Q v H2) := by
  refine ⟨fun pins s σ H Q I h => ?_⟩
  refine subD_of PySem.F.slot_dict_getitem.lookup hs (thn (ho.run pins s σ H _ I h) fun u s1 ⟨x, H1, I1, rx, q1⟩ => thn (hi.run pins s1 σ H1 _ I1 q1) fun iv s2 ⟨y, H2, I2, ry, p, tbl, z, v, ex, ey, T, hl, q2⟩ => ?_)
  subst ex
  subst ey
  obtain rfl : u = Value.ref p := rx
  obtain ⟨t, rfl⟩ := ry
  obtain ⟨f, hm, hs, hr⟩ := tab_map T I2
  refine ⟨hm.typeIs, ?_⟩
  have r := hr z
  rw [hl] at r
  cases hf : f z with
  | none =>
    rw [hf] at r
    exact r.elim
  | some w' =>
    rw [hf] at r
    exact wpAny_getItem_of (PySem.strKind_is X.prog X.w z t) hm hf ⟨v, H2, I2.tok _, r, q2⟩
end
/-- a written tuple -/
def KTup (K : PySem.W.Frag) (a : Addr) (xs : List V) : Prop :=
  ∃ (o : Obj) (its : Array Value) (n : Nat), K.lookup a = some o ∧ o.cls = .type "tuple" ∧ o.data = .seq its n ∧ its.size ≤ sizeLine ∧ Vals xs its.toList
theorem KTup.sq {K : PySem.W.Frag} {H : Hp} {a : Addr} {xs : List V} (h : KTup K a xs) : SqT K H a xs := .inr h
theorem vals_inj : ∀ {xs ys : List V} {us : List Value}, Vals xs us → Vals ys us → xs = ys
  | _, _, _, .nil, .nil => rfl
  | _, _, _, .cons r t, .cons r2 t2 => by
    have a := absV_of r
    rw [absV_of r2] at a
    rw [Option.some.inj a, vals_inj t t2]
theorem KTup.inj {K : PySem.W.Frag} {a : Addr} {xs ys : List V} (h : KTup K a xs) (h2 : KTup K a ys) : xs = ys := by
  obtain ⟨o, its, n, hk, hc, hd, hz, r⟩ := h
  obtain ⟨o2, its2, n2, hk2, hc2, hd2, hz2, r2⟩ := h2
  rw [hk] at hk2
  cases hk2
  rw [hd] at hd2
  cases hd2
  exact vals_inj r r2
theorem KTup.free {X : Cx} {pins : List (Addr × Obj)} {σ : L2.St} {H : Hp} {s : Shared} {b : Addr} {ys : List V} (I : Inv X pins σ H s) (h : KTup X.K b ys) : H b = none := by
  obtain ⟨o, its, n, hk, _⟩ := h
  exact (I.bs b o (I.ok.mod.kin b o hk)).2
theorem all_str : ∀ (xs ys : List Str), xs.length = ys.length → ((List.range xs.length).all fun i => decide (xs[i]? = ys[i]?)) = decide (xs = ys) := by
  intro xs ys hl
  by_cases h : xs = ys
  · subst h
    rw [decide_eq_true rfl]
    exact List.all_eq_true.mpr fun i _ => decide_eq_true rfl
  · rw [decide_eq_false h]
    refine Bool.eq_false_iff.mpr fun q => h ?_
    have q := List.all_eq_true.mp q
    refine List.ext_getElem? fun i => ?_
    by_cases hi : i < xs.length
    · exact of_decide_eq_true (q i (List.mem_range.mpr hi))
    · rw [List.getElem?_eq_none (by omega), List.getElem?_eq_none (by omega)]
theorem EqV.strs {K : PySem.W.Frag} {H : Hp} {a b : Addr} {xs ys : List Str} (ha : KTup K a (xs.map V.str)) (hb : H b = some (.tup (ys.map V.str))) : EqV K H 60 (.ref a) (.ref b) (decide (xs = ys)) := by
  intro X pins σ s hK I v u rv ru A hu
  subst hK
  have ne : a ≠ b := fun z => by
    have := KTup.free I ha
    rw [z, hb] at this
    cases this
  have r := EqV.of_rc ne (RcV.tup (K := X.K) (H := H) (n := 59) (e := fun i => decide (xs[i]? = ys[i]?)) (KTup.sq ha) (SqT.of hb) fun i x y hx hy => ?_) X pins σ s rfl I v u rv ru A hu
  · rw [List.length_map, List.length_map] at r
    by_cases hl : xs.length = ys.length
    · rw [← hl, Nat.min_self, all_str xs ys hl] at r
      simpa using r
    · rw [decide_eq_false fun z => hl (by rw [z])]
      have z : (xs.length == ys.length) = false := by simpa using hl
      rw [z, Bool.and_false] at r
      exact r
  · rw [List.getElem?_map] at hx hy
    obtain ⟨x', hx', rfl⟩ := Option.map_eq_some_iff.mp hx
    obtain ⟨y', hy', rfl⟩ := Option.map_eq_some_iff.mp hy
    have f := EqV.flat (K := X.K) (H := H) (n := 59) (x := .str x') (y := .str y') rfl rfl
    rw [hx', hy']
    have z : decide (some x' = some y') = eqV (.str x') (.str y') := by
      show decide (some x' = some y') = (x' == y')
      by_cases e : x' = y'
      · subst e
        simp
      · have e2 : (x' == y') = false := beq_eq_false_iff_ne.mpr e
        rw [e2]
        exact decide_eq_false fun q => e (Option.some.inj q)
    rw [z]
    exact f
open Classical in
/-- y in t, y a tuple of texts, t a written tuple of written tuples of texts -/
theorem in_kts {K : PySem.W.Frag} {H : Hp} {a b : Addr} {bs : List Addr} {kss : List (List Str)} {ys : List Str} {neg : Bool} {Q : VK} (ha : KTup K a (bs.map V.ref)) (hp : Paired (fun (b : Addr) (ks : List Str) => KTup K b (ks.map V.str)) bs kss) (hb : H b = some (.tup (ys.map V.str)))
    (q : Q (.bl (if neg then !kss.any fun ks => decide (ks = ys) else kss.any fun ks => decide (ks = ys))) H) : rInW K neg (.ref b) (.ref a) H Q := by
  have key : ∀ {bs : List Addr} {kss : List (List Str)}, Paired (fun (b : Addr) (ks : List Str) => KTup K b (ks.map V.str)) bs kss →
      (bs.map V.ref).any (fun z => decide (∃ c, z = V.ref c ∧ KTup K c (ys.map V.str))) = kss.any (fun ks => decide (ks = ys)) ∧
      ∀ z ∈ bs.map V.ref, EqV K H 60 z (.ref b) (decide (∃ c, z = V.ref c ∧ KTup K c (ys.map V.str))) := by
    intro bs kss h
    induction h with
    | nil => exact ⟨rfl, fun z hz => nomatch hz⟩
    | @cons c ks _ _ r t ih =>
      have e : decide (∃ c', V.ref c = V.ref c' ∧ KTup K c' (ys.map V.str)) = decide (ks = ys) := by
        by_cases z : ks = ys
        · subst z
          rw [decide_eq_true rfl]
          exact decide_eq_true ⟨c, rfl, r⟩
        · rw [decide_eq_false z]
          refine decide_eq_false fun ⟨c', e, k⟩ => z ?_
          cases e
          have := KTup.inj r k
          exact (List.map_inj_right (fun a b h => V.str.inj h)).mp this
      refine ⟨?_, fun z hz => ?_⟩
      · rw [List.map_cons, List.any_cons, List.any_cons, e, ih.1]
      · rw [List.map_cons] at hz
        rcases List.mem_cons.mp hz with rfl | hz
        · rw [e]
          exact EqV.strs r hb
        · exact ih.2 z hz
  have k := key hp
  refine ⟨a, bs.map V.ref, _, rfl, .inr (KTup.sq ha), k.2, ?_⟩
  rw [k.1]
  exact q
end LK
namespace LX
open PySem PySem.Spec PySem.W PySem.Calls PyProof.Rows
/-- def __init__(self, p): super().__init__(msg); self.p = p -/
def ibody (p msg : Str) (q0 q1 q2 q3 q4 q5 q6 q7 q8 q9 : Pos) (j : Nat) : List Stmt :=
  [.Expr (.Call (.Attribute (.Call (.Name "super" q0) [] [] q1) "__init__" q2) [.Constant (.str msg) j q3] [] q4) q5,
   .Assign [.Attribute (.Name "self" q6) p q7] (.Name p q8) q9]
def isc (p : Str) : Scope := { kind := .function, names := [("self", .local), (p, .local), ("__class__", .free), ("super", .globalImplicit)], isGenerator := false, isCoroutine := false, more := [] }
/-- a built-in error's __init__ -/
structure InF (B initId : String) : Prop where
  kind : builtinKind initId = some .slot
  row : Manifest.signature? initId = some ⟨.positional, "*", B, .self, [⟨"args", .varPos, false⟩]⟩
  star : (B != "*") = true
  plain : plainId initId = true
  entry : entryFor table initId = some Builtin.«BaseException.__init__»
theorem InF.of {B newId initId : String} (F : ExcCallFacts B newId initId) : InF B initId := ⟨F.initKind, F.initRow, F.noStar, F.init.plain, F.initEntry⟩
/-- what stands of the class at C in the written part -/
structure ExF (prog : Program) (K : Frag) (C : Addr) (bm0 : List Value) (B newId initId : String) (bmB : List Value) (cn p : Str) : Prop where
  FB : ∃ (B1 i1 : String) (b1 : List Value), ExcBaseFacts B1 newId i1 b1 ∧ bmB.contains (.type B1) = true
  noA : bmB.contains (.type "AttributeError") = false
  noN : bmB.contains (.type "NameError") = false
  IF : InF B initId
  KF : KxsFacts B initId
  pass : ∀ self : Value, refuseLoop self "__setattr__" bmB = pure ()
  ob : bmB.contains (.type "object") = true
  q : excInitIn K C bmB newId = true
  ov : excOver K C bmB = true
  init : ∃ (fI cc cda : Addr) (par : Arguments) (msg : Str) (q0 q1 q2 q3 q4 q5 q6 q7 q8 q9 : Pos) (j : Nat) (kV doc pm ct : Value) (an : Option Addr) (oc : Value) (od : Option Addr) (osl : Array (Option Value)) (ar a2 : Arg)
      (ccl cl : Value) (cdd cld : Option Addr) (ccs csl : Array (Option Value)) (vs : Array Value) (file : Str) (tf : Tok) (qn : Str),
    findIn K (.ref C) "__init__" = some (some (.ref fI)) ∧ typeIn K (.ref fI) = some (.type "function") ∧
    K.lookup fI = some ⟨oc, od, .func (ksFn "__init__" qn par (ibody p msg q0 q1 q2 q3 q4 q5 q6 q7 q8 q9 j) (isc p) .none kV doc pm an (.ref cda) ct cc), osl⟩ ∧
    codeIn K (.ref cda) qn = true ∧ (par.posonlyargs ++ par.args) = [ar, a2] ∧ ar.arg = ("self" : Str) ∧
    (∀ (u v : Value) , bindArgs (ksFn "__init__" qn par (ibody p msg q0 q1 q2 q3 q4 q5 q6 q7 q8 q9 j) (isc p) .none kV doc pm an (.ref cda) ct cc) ⟨[u, v], []⟩ = pure [(("self" : Str), u), (p, v)]) ∧
    (∀ (u v : Value) , bindArgs (ksFn "__init__" qn par (ibody p msg q0 q1 q2 q3 q4 q5 q6 q7 q8 q9 j) (isc p) .none kV doc pm an (.ref cda) ct cc) ⟨[u], [(p, v)]⟩ = pure [(("self" : Str), u), (p, v)]) ∧
    K.lookup cda = some ⟨ccl, cdd, .fields vs, ccs⟩ ∧ vs[2]? = some (.str file tf) ∧ ((prog.main.file : Str) == file) = true ∧
    K.lookup cc = some ⟨cl, cld, .cell (some (.ref C)), csl⟩ ∧ (q2.endLine == q4.line) = true
  noany : nsIn K cStatics "thirdparty.any" = some none
  sup : ks_superIn K C C "__init__" = some (some (.builtin initId))
  subB : subIn K (.ref C) (.type B) = some true
  subC : mroIn K C (.ref C) = some true
  topS : (prog.main.scope.names.lookup ("super" : Str)).isSome = false
  sa : findIn K (.ref C) "__setattr__" = some (some (.builtin "object.__setattr__"))
  hd : hasDictIn K C = true
  hf : findIn K (.ref C) p = some none
  ps : p ≠ ("self" : Str)
  pc : p ≠ ("__class__" : Str)
  pd : (p == ("__debug__" : Str)) = false
  pu : p ≠ ("super" : Str)
/-- an exception's object, without and with its dict -/
abbrev eo (C t : Addr) (dd : Option Addr) : Obj := { cls := .ref C, dict := dd, data := .fields #[.ref t, .none, .none, .none, .bool false, .none] }
section
variable {prog : Program} {w : World} {A : Around} {R : Result → Shared → Prop} {hp : Heap} {g : Array GenState} {d : Drawn} {t : Nat} {os : OsState}
/-- self.p = v on an exception without a dict, the class's tail any -/
theorem osa_any {K : Frag} {name : Str} {tk : Tok} {v : Value} {x C t0 : Addr} {bmB : List Value} {m : List Value}
    (X : K.In hp) (hx : hp.get? x = some (eo C t0 none)) (hov : excOver K C bmB = true) (hob : bmB.contains (.type "object") = true) (pass : ∀ self : Value, refuseLoop self "__setattr__" bmB = pure ()) (hh : hasDictIn K C = true) (ha : findIn K (.ref C) name = some none)
    (hq : ∀ h' tk' dx, (∀ b o, b ≠ x → hp.get? b = some o → h'.get? b = some o) → hp.objs.size ≤ dx → dx ≠ x → h'.get? x = some (eo C t0 (some dx)) →
      h'.Ns1 dx (fun y => if y = name then some v else none) → R (.ok (.ret .none)) ⟨h', g, d, tk', os⟩) :
    codeAny (model prog w) A (.call (.builtin "object.__setattr__") ⟨[.ref x, .str name tk, v], []⟩) R ⟨hp, g, d, t, os⟩ := by
  obtain ⟨cd, hcd, hdct⟩ := any_some hh
  have hmro : ∃ bm, cd.mro = .ref C :: bm ∧ excTail bmB bm = true := by
    unfold excOver at hov
    rw [hcd] at hov
    simp only [Option.any_some] at hov
    split at hov
    · rename_i C' bm e
      simp only [Bool.and_eq_true, beq_iff_eq] at hov
      obtain ⟨rfl, ht⟩ := hov
      exact ⟨bm, e, ht⟩
    · cases hov
  obtain ⟨bm, hm, ht⟩ := hmro
  have hpass := excTail_pass (.ref x) (pass (.ref x)) bm ht
  have hcon := excTail_contains "object" bm ht
  have I : InstAt hp x (eo C t0 none) C none := ⟨hx, rfl, rfl, trivial⟩
  have SF := F.store_object
  have hxs : x ≠ hp.objs.size := Nat.ne_of_lt (Heap.lt_size hx)
  have sub : Looks (model prog w) hp (isInstance (.ref x) (.type "object")) true := I.type.andThen (looks_mroIn X (by
    unfold mroIn
    rw [hcd, Option.bind_some, hm, if_neg (show ¬ (List.isEmpty (Value.ref C :: bm) = true) from Bool.false_ne_true), List.contains_cons, hcon, hob, Bool.or_true]))
  have hcls : Looks (model prog w) hp (classData C) cd := looks_clsIn X hcd
  have hmr : Looks (model prog w) hp (mroOf (.ref C)) (.ref C :: bm) := by
    rw [← hm]
    exact (looks_clsIn X hcd).andThen .now
  have L3 : Looks (model prog w) hp (Builtin.ObjectAttr.storeTaker? none) none := .now
  refine codeAny_call_builtin SF.slot.plain SF.entry (@check_slot (model prog w) _ _ ⟨hp, g, d, t, os⟩ "object.__setattr__" "object" "__setattr__" (.ref x) [.str name tk, v] [] _ SF.kind SF.split sub (SF.args (.ref x) (.str name tk) v) ?_)
  rw [osa_eq, refuse_eq]
  refine wpAny_bind (wpAny_bind (I.type.at (wpAny_bind (hmr.at ?_))))
  rw [refuseLoop_ref, hpass]
  refine wpAny_pure (wpAny_bind (I.type.at (wpAny_bind ((looks_findIn X ha).at (wpAny_bind (L3.at ?_))))))
  show wpAny _ _ (Builtin.ObjectAttr.storeInOwnDict (.ref x) (.ref C) (.str name tk) name v false) _ _ _
  obtain ⟨nm, bs, mro, ns, qn, hdd, sn, sb, ab, col, del⟩ := cd
  dsimp only at hdct
  subst hdct
  unfold Builtin.ObjectAttr.storeInOwnDict Builtin.ObjectAttr.ownDictForStores
  repeat (first | with_reducible refine HandSPX.store_in_new ?_ ?_ | with_reducible refine wpAny_loadPart_at hx ?_ | with_reducible refine hcls.at ?_ | wp_step)
  · exact ⟨_, #[], _, (Heap.get?_update_ne _ _ _ _ hxs.symm).trans (Heap.get?_push_at rfl rfl), rfl, fun e he => absurd he (by simp), fun _ => rfl⟩
  · intro h' tk' hn' hs
    have hx₁ : (hp.push { cls := .type "dict", data := .dict #[] }).get? x = some (eo C t0 none) := Heap.get?_push_of_some _ hx
    refine hq h' tk' hp.objs.size (fun b o hb ho => ?_) (Nat.le_refl _) hxs.symm ?_ hn'
    · exact (hs.2 b (Nat.ne_of_lt (Heap.lt_size ho))).trans ((Heap.get?_update_ne _ _ _ _ hb).trans (Heap.get?_push_of_some _ ho))
    · exact (hs.2 x hxs).trans (Heap.get?_update_self _ hx₁ rfl)
end
end LX
namespace LX
open PySem PySem.Spec PySem.W PySem.Calls PyProof.Rows
section
variable {prog : Program} {w : World} {K : Frag} {C : Addr} {bm0 bmB : List Value} {B newId initId : String} {cn p : Str}
theorem isc_self : (isc p).names.lookup ("self" : Str) = some .local := rfl
theorem isc_p (h : p ≠ ("self" : Str)) : (isc p).names.lookup p = some .local := by
  have e : (p == ("self" : Str)) = false := beq_eq_false_iff_ne.mpr h
  unfold isc
  simp [List.lookup, e]
theorem isc_cls (h : p ≠ ("__class__" : Str)) : (isc p).names.lookup ("__class__" : Str) = some .free := by
  have e : (("__class__" : Str) == p) = false := beq_eq_false_iff_ne.mpr (Ne.symm h)
  have e1 : (("__class__" : Str) == ("self" : Str)) = false := by decide
  unfold isc
  simp [List.lookup, e, e1]
theorem isc_sup (h : p ≠ ("super" : Str)) : (isc p).names.lookup ("super" : Str) = some .globalImplicit := by
  have e : (("super" : Str) == p) = false := beq_eq_false_iff_ne.mpr (Ne.symm h)
  have e1 : (("super" : Str) == ("self" : Str)) = false := by decide
  have e2 : (("super" : Str) == ("__class__" : Str)) = false := by decide
  unfold isc
  simp [List.lookup, e, e1, e2]
theorem call_shape {o : Expr} {q2 q4 q3 : Pos} {msg : Str} {j : Nat} {env : Env} {n : Str} (h : (q2.endLine == q4.line) = true) : eval (.Call (.Attribute o n q2) [.Constant (.str msg) j q3] [] q4) env = (do
      let ov ← attributeBase o n env (eval o env)
      standAt q2.atName
      let (f, first) ← holding [ov] (getMethod ov n (do return (← importBound o env).getD true))
      callWith q4 f first (backTo q4 (starEach [.Constant (.str msg) j q3] env)) []) := by
  rw [arm_eval_Call]
  have e : methodCallForm ([Expr.Constant (.str msg) j q3].length + ([] : List Keyword).length) (backTo q4 (starEach [.Constant (.str msg) j q3] env)) (backToKw q4 (keywordEach [] env)) = true := rfl
  have e2 : ∀ ov : Value, methodCall o n q2 q4 env ov ([Expr.Constant (.str msg) j q3].length + ([] : List Keyword).length) (backTo q4 (starEach [.Constant (.str msg) j q3] env)) (backToKw q4 (keywordEach [] env)) = (do
      let (f, first) ← holding [ov] (getMethod ov n (do return (← importBound o env).getD true))
      callWith q4 f first (backTo q4 (starEach [.Constant (.str msg) j q3] env)) []) := fun ov => by
    unfold methodCall methodCallPos calleeOf
    rw [e]
    simp only [h, Bool.not_true, Bool.false_or, if_true]
    rfl
  simp only [e2]
theorem check_b {M : Model} {A : Around} {E : Value → Shared → Prop} {h : Heap} {g : Array GenState} {d : Drawn} {t : Nat} {os : OsState} (IF : InF B initId) {nm q : Str} {N e : Addr} {oe : Obj} {bs bm : List Value} {hdct : Bool} {sn : List Str} {sub : List Value} {ab : Bool} {col : Option Bool} {dd : Option Addr} {k0 k1 k2 k3 k5 : Option Value} {rest : List Value} {Q : Unit → Shared → Prop}
    (hC : h.get? C = some (excClassObj nm q C N bs bm hdct sn sub ab col dd k0 k1 k2 k3 k5 newId)) (he : h.get? e = some oe) (hcls : oe.cls = .ref C) (hq : Q () ⟨h, g, d, t, os⟩) : wpAny M A (checkBoundCall initId { pos := .ref e :: rest, kw := [] }) Q E ⟨h, g, d, t, os⟩ := by
  have hstar := IF.star
  simp only [checkBoundCall, IF.kind, IF.row]
  repeat (first
    | (with_reducible refine wpAny_loadPart_at he ?_; rw [hcls])
    | with_reducible refine wpAny_loadPart_at hC ?_
    | wp_step)
  refine wpAny_onRaise ?_
  have e0 : ∀ (x y : String) (n : Nat), Bind.check ⟨.positional, "*", B, .self, [⟨"args", .varPos, false⟩]⟩ x y n (List.map (fun z => z.fst) ({ pos := Value.ref e :: rest } : Args).kw) = pure () := fun x y n => check_star_args _ _ _ _ _ _
  rw [e0]
  exact wpAny_pure hq
/-- the built-in __init__, bound to e, called with these -/
theorem call_bound {A : Around} {E : Value → Shared → Prop} {s : Shared} {u e t0 : Addr} {rest : List Value} {Q : Value → Shared → Prop} (IF : InF B initId) (q : excInitIn K C bmB newId = true) (X : K.In s.heap)
    (hu : s.heap.get? u = some (kxs_mw initId e)) (he : s.heap.get? e = some (eo C t0 none)) (hz : rest.length ≤ sizeLine)
    (h : ∀ h' t1, (∀ b o, b ≠ e → s.heap.get? b = some o → h'.get? b = some o) → h'.get? e = some (eo C t1 none) → Q .none { s with heap := h' }) :
    wpAny (model prog w) A (call (.ref u) rest) Q E s := by
  obtain ⟨nm, N', qn, bs, bm, hdct, sn, sub, ab, col, dd, k0, k1, k2, k3, k5, hC, hT⟩ := excInit_of X q
  obtain ⟨hh, g, d, tk, os⟩ := s
  refine wpAny_call (codeAny_of_tree ?_)
  show wpAny _ A.in1 (callAny (.ref u) { pos := rest, kw := [] }) _ _ _
  simp only [callAny]
  refine wpAny_bind (wpAny_load hu ?_)
  have hb : (Value.type "method-wrapper" == Value.type "method" || Value.type "method-wrapper" == Value.type "builtin_function_or_method" || Value.type "method-wrapper" == Value.type "method-wrapper") = true := by decide
  simp only [kxs_mw, hb, if_true]
  refine KFB.if_so (by decide) (wpAny_bind (check_b IF hC he rfl ?_))
  refine wpAny_bind (wpAny_pure (wpAny_pure ⟨plainId_quiet IF.plain _, codeAny_builtin IF.entry ?_⟩))
  exact exc_init_tree (cls := .ref C) (t0 := t0) (dv := none) (c2 := .none) (c3 := .none) (b4 := .bool false) he hz fun h' k e' _ => h h' _ k e'
/-- the __init__ of such a class, called -/
theorem init_run (T : ExF prog K C bm0 B newId initId bmB cn p) : ∃ fI : Addr, findIn K (.ref C) "__init__" = some (some (.ref fI)) ∧ typeIn K (.ref fI) = some (.type "function") ∧
    ∀ {A : Around} {R : Result → Shared → Prop} {s : Shared} {e t0 : Addr} {v : Value} {args : Args} {mg mb : Str → Option Value} (X : K.In s.heap) (G : s.heap.Ns mainGlobals mg) (hs : mg "super" = none) (Bl : s.heap.Ns builtinsNs mb) (hb : mb "super" = some (.type "super"))
      (lim : s.heap.NoLimit) (hroom : A.depth < recursionLimit) (ke : K.lookup e = none) (he : s.heap.get? e = some (eo C t0 none)) (ha : args = { pos := [.ref e, v], kw := [] } ∨ args = { pos := [.ref e], kw := [(p, v)] })
      (hq : ∀ h' tk' dx t1, (∀ b o, b ≠ e → s.heap.get? b = some o → h'.get? b = some o) → s.heap.objs.size ≤ dx → dx ≠ e → h'.get? e = some (eo C t1 (some dx)) →
        h'.Ns1 dx (fun y => if y = p then some v else none) → R (.ok (.ret .none)) { s with heap := h', toks := tk' }),
      codeAny (model prog w) A (.call (.ref fI) args) R s := by
  obtain ⟨fI, cc, cda, par, msg, q0, q1, q2, q3, q4, q5, q6, q7, q8, q9, j, kV, doc, pm, ct, an, oc, od, osl, ar, a2, ccl, cl, cdd, cld, ccs, csl, vs, file, tf, qn, h1, h2, h3, h4, h5, h6, h7, h8, h9, h10, h11, h12, h13⟩ := T.init
  refine ⟨fI, h1, h2, fun {A R s e t0 v args mg mb} X G hs Bl hb lim hroom ke he ha hq => ?_⟩
  have hbind : bindArgs (ksFn "__init__" qn par (ibody p msg q0 q1 q2 q3 q4 q5 q6 q7 q8 q9 j) (isc p) .none kV doc pm an (.ref cda) ct cc) args = pure [(("self" : Str), .ref e), (p, v)] := by
    rcases ha with rfl | rfl
    · exact h7 _ _
    · exact h8 _ _
  have hl : (fun x => ([(("self" : Str), Value.ref e), (p, v)] : List (Str × Value)).reverse.lookup x) ("self" : Str) = some (.ref e) := by
    have e1 : (("self" : Str) == p) = false := beq_eq_false_iff_ne.mpr (Ne.symm T.ps)
    simp [List.lookup, e1]
  have hl2 : (fun x => ([(("self" : Str), Value.ref e), (p, v)] : List (Str × Value)).reverse.lookup x) p = some v := by simp [List.lookup]
  obtain ⟨cd, hcd, hdct⟩ := any_some T.hd
  obtain ⟨oD, hD1, hD2⟩ : ∃ oD, s.heap.get? C = some oD ∧ oD.data = .cls cd := by
    have hcd' := hcd
    unfold clsIn at hcd'
    split at hcd'
    · rename_i c d cd' sl ho
      cases hcd'
      exact ⟨_, X _ _ ho, rfl⟩
    · cases hcd'
  have hal : alongIn K "__init__" ((cd.mro.dropWhile (· != .ref C)).drop 1) = some (some (.builtin initId)) := by
    have z := T.sup
    unfold ks_superIn at z
    rw [hcd] at z
    exact z
  refine ks_codeAny_call_defAt (fd := ksFn "__init__" qn par (ibody p msg q0 q1 q2 q3 q4 q5 q6 q7 q8 q9 j) (isc p) .none kV doc pm an (.ref cda) ct cc) (binds := [(("self" : Str), .ref e), (p, v)]) hroom (X _ _ h3) rfl lim (codeRec_of X h4) rfl (.of_eq hbind)
    (fun x hx => ?_) (fun x hx => ?_) (fun h₀ hns k0 => ?_)
  · have hx' : x ∈ (isc p).names := hx
    unfold isc at hx'
    simp only [List.mem_cons, List.not_mem_nil, or_false] at hx'
    rcases hx' with rfl | rfl | rfl | rfl <;> exact fun z => nomatch z
  · simp only [List.mem_cons, List.not_mem_nil, or_false] at hx
    rcases hx with rfl | rfl
    · exact isc_self
    · exact isc_p T.ps
  · show PySem.wpAt _ (A.deeper (ksEnv qn (isc p) s.heap.objs.size fI (.ref cda) cc)) (.func (ibody p msg q0 q1 q2 q3 q4 q5 q6 q7 q8 q9 j) (ksEnv qn (isc p) s.heap.objs.size fI (.ref cda) cc)) (execs (ibody p msg q0 q1 q2 q3 q4 q5 q6 q7 q8 q9 j) (ksEnv qn (isc p) s.heap.objs.size fI (.ref cda) cc)) _ _ _
    have X0 : K.In h₀ := X.keeps k0
    have hk : (ksEnv qn (isc p) s.heap.objs.size fI (.ref cda) cc).scope.kind = .function := rfl
    have sz0 : s.heap.objs.size ≤ h₀.objs.size := by
      obtain ⟨oL, _, _, hL, _⟩ := hns
      exact Nat.le_of_lt (Heap.lt_size hL)
    obtain ⟨hh, g, d, t, os⟩ := s
    refine ks_wpAt_execs_cons (ks_wpAt_Expr_any (ks_wpAt_MethodCall ?_ (call_shape h13)))
    refine ks_wpAt_super_base (env := ksEnv qn (isc p) hh.objs.size fI (.ref cda) cc) (isc_sup T.pu) (isc_cls T.pc) (by decide) rfl (X0 _ _ h3) rfl (ar := ar) ?_ rfl (X0 _ _ h9) rfl h10 h11 T.topS ?_
    · show (par.posonlyargs ++ par.args).head? = some ar
      rw [h5]
      rfl
    refine ks_loadName_global hk (isc_sup T.pu) (loadGlobal_builtin (env := ksEnv qn (isc p) hh.objs.size fI (.ref cda) cc) (G.keeps k0) hs (Bl.keeps k0) hb ⟨rfl, ?_⟩)
    refine wpAny_loadName_free hk (isc_cls T.pc) rfl ⟨_, X0 _ _ h12, rfl⟩ ?_
    rw [h6]
    refine wpAny_loadName_local hk isc_self hns hl ?_
    refine ks_wpAny_isType_cls (k0 _ _ hD1) hD2 ⟨rfl, ?_⟩
    refine ks_wpAny_call_super (k0 _ _ hD1) hD2 (k0 _ _ he) rfl (fun c z => nomatch z) (looks_mroIn X0 T.subC) (fun h2 es k2 => ?_)
    have X2 : K.In h2 := X0.keeps k2
    have he2 : h2.get? e = some (eo C t0 none) := k2 _ _ (k0 _ _ he)
    have I2 : InstAt h2 e (eo C t0 none) C none := ⟨he2, rfl, rfl, trivial⟩
    have neC : e ≠ C := by
      rintro rfl
      rw [he] at hD1
      cases hD1
      cases hD2
    refine kxs_getMethod T.KF es (looks_opaque X2 T.noany) (l₀ := cd.mro) ((looks_clsIn X2 hcd).andThen .now) rfl X2 hal (I2.type.andThen (looks_subIn X2 T.subB)) neC (by decide) ?_
    have k3 : ∀ b o, h2.get? b = some o → (h2.push (kxs_mw initId e)).get? b = some o := fun b o z => Heap.get?_push_of_some _ z
    have hu3 : (h2.push (kxs_mw initId e)).get? h2.objs.size = some (kxs_mw initId e) := Heap.get?_push_at rfl rfl
    refine kxs_callWith (i := initId) (x := e) (by rfl) (evalArgs_plain ?_)
    show wpAny _ _ (spliced ((false, eval (.Constant (.str msg) j q3) (ksEnv qn (isc p) hh.objs.size fI (.ref cda) cc)) :: [])) _ _ _
    refine spliced_cons (Constant_str (spliced_nil ⟨hu3, ?_⟩))
    refine call_bound T.IF T.q (X2.keeps k3) hu3 (k3 _ _ he2) (by show 1 ≤ sizeLine; rw [sizeLine_eq]; omega) (fun h4' t1 k4 e4 => ?_)
    -- the field
    have kA : ∀ b o, b ≠ e → hh.get? b = some o → h4'.get? b = some o := fun b o n z => k4 b o n (k3 _ _ (k2 _ _ (k0 _ _ z)))
    have kB : ∀ b o, b ≠ e → h₀.get? b = some o → h4'.get? b = some o := fun b o n z => k4 b o n (k3 _ _ (k2 _ _ z))
    have eL : hh.objs.size ≠ e := Nat.ne_of_gt (Heap.lt_size he)
    have ns4 : h4'.Ns hh.objs.size (fun x => ([(("self" : Str), Value.ref e), (p, v)] : List (Str × Value)).reverse.lookup x) := by
      obtain ⟨oL, es', ep, hL, r⟩ := hns
      exact ⟨oL, es', ep, kB _ _ eL hL, r⟩
    have X4 : K.In h4' := fun b o z => by
      refine kA b o (fun y => ?_) (X b o z)
      rw [y] at z
      exact absurd (show K.lookup e = some o from z) (by rw [ke]; exact fun y => nomatch y)
    show PySem.wpAt _ _ _ (execs [.Assign [.Attribute (.Name "self" q6) p q7] (.Name p q8) q9] _) _ _ _
    refine ks_wpAt_execs_cons (ks_wpAt_Assign_Attr ?_)
    refine wpAt_of_wpAny (wpAny_Name ?_ T.pd)
    refine wpAny_loadName_local (m := fun x => ([(("self" : Str), Value.ref e), (p, v)] : List (Str × Value)).reverse.lookup x) hk (isc_p T.ps) ns4 hl2 ?_
    refine wpAny_Name ?_ (by decide)
    refine wpAny_loadName_local (m := fun x => ([(("self" : Str), Value.ref e), (p, v)] : List (Str × Value)).reverse.lookup x) hk isc_self ns4 hl ?_
    have I4 : InstAt h4' e (eo C t1 none) C none := ⟨e4, rfl, rfl, trivial⟩
    refine set_plain (od := none) X4 I4 T.sa ?_
    refine osa_any (m := []) X4 e4 T.ov T.ob T.pass T.hd T.hf fun h5' tk' dx k5 hdx dne e5 ns5 => ?_
    have sz4 : hh.objs.size ≤ h4'.objs.size := by
      obtain ⟨oL, es', ep, hL, r⟩ := ns4
      exact Nat.le_of_lt (Heap.lt_size hL)
    show PySem.wpAt _ _ _ (execs [] _) _ _ _
    exact wpAt_of_wpAny (wpAny_pure (hq h5' _ dx t1 (fun b o n z => k5 b o n (kA b o n z)) (Nat.le_trans sz4 hdx) dne e5 ns5))
end
end LX
namespace LX
open PySem PySem.Spec PySem.W PySem.Calls PyProof.Rows
section
variable {prog : Program} {w : World} {A : Around} {E : Value → Shared → Prop} {R : Result → Shared → Prop} {h : Heap} {g : Array GenState} {d : Drawn} {t : Nat} {os : OsState}
variable {nm q : Str} {C N : Addr} {bs bm bmB : List Value} {hdct : Bool} {sn : List Str} {sub : List Value} {ab : Bool} {col : Option Bool} {dd : Option Addr} {k0 k1 k2 k3 k5 : Option Value} {B newId initId : String}
theorem kcheck_new {M : Model} (F : ExcBaseFacts B newId initId bmB) (hB : bm.contains (.type B) = true) (hA : bm.contains (.type "AttributeError") = false) (hN : bm.contains (.type "NameError") = false) {rest : List Value} {kw : List (Str × Value)} {Q : Unit → Shared → Prop}
    (hC : h.get? C = some (excClassObj nm q C N bs bm hdct sn sub ab col dd k0 k1 k2 k3 k5 newId)) (hq : Q () ⟨h, g, d, t, os⟩) : wpAny M A (checkBuiltinCall newId { pos := .ref C :: rest, kw := kw }) Q E ⟨h, g, d, t, os⟩ := by
  have c1 : (Value.ref C :: bm).contains (.type B) = true := by
    rw [List.contains_cons, hB]
    exact Bool.or_true _
  have c2 := F.noStar
  simp only [checkBuiltinCall, F.newKind, F.newSplit, F.newRow]
  repeat (first
    | refine wpAny_loadPart_at hC ?_
    | (refine wpAny_isSubtype_exc hC ?_; rw [c1])
    | refine wpAny_staticBase_exc hC ?_
    | refine wpAny_madeBy_exc hC ?_
    | simp only [bne_self_eq_false, Bool.false_eq_true, if_false]
    | wp_step)
  exact hq
theorem knew (F : ExcBaseFacts B newId initId bmB) (hB : bm.contains (.type B) = true) (hA : bm.contains (.type "AttributeError") = false) (hN : bm.contains (.type "NameError") = false) {rest : List Value} {kw : List (Str × Value)} (hz : rest.length ≤ sizeLine)
    (hC : h.get? C = some (excClassObj nm q C N bs bm hdct sn sub ab col dd k0 k1 k2 k3 k5 newId))
    (hq : R (.ok (.ret (.ref (h.objs.size + 1)))) ⟨(h.push (kdv_tup rest)).push (eo C h.objs.size none), g, d, t, os⟩) :
    codeAny (model prog w) A (.builtin newId { pos := .ref C :: rest, kw := kw }) R ⟨h, g, d, t, os⟩ := by
  have c0 := F.ends
  have c1 : (Value.ref C :: bm).contains (.type B) = true := by
    rw [List.contains_cons, hB]
    exact Bool.or_true _
  have c2 : (Value.ref C :: bm).contains (.type "AttributeError") = false := by
    rw [List.contains_cons, hA]
    exact rfl
  have c3 : (Value.ref C :: bm).contains (.type "NameError") = false := by
    rw [List.contains_cons, hN]
    exact rfl
  refine codeAny_builtinAt F.entry ?_
  unfold Builtin.«BaseException.__new__»
  refine PySem.wpAt_bind ?_
  show PySem.wpAt _ _ _ (stack >>= _) _ _ _
  refine PySem.wpAt_bind (PySem.wpAt_stack fun p below => wpAt_of_wpAny ?_)
  wp_walk
  refine wpAt_of_wpAny ?_
  rw [F.owner]
  repeat (first
    | with_reducible refine wpAny_madeHere_exc F.canon hC ?_
    | with_reducible refine wpAny_loadPart_at hC ?_
    | (with_reducible refine wpAny_isSubtype_exc hC ?_; first | rw [c1] | rw [c2] | rw [c3])
    | wp_step)
  show R _ _
  rw [Heap.size_push]
  exact hq
theorem ktype (F : ExcBaseFacts B newId initId bmB) (hB : bm.contains (.type B) = true) (hA : bm.contains (.type "AttributeError") = false) (hN : bm.contains (.type "NameError") = false) {rest : List Value} {kw : List (Str × Value)} (hz : rest.length ≤ sizeLine) {fI : Addr} {Q : Fin → Shared → Prop}
    (hC : h.get? C = some (excClassObj nm q C N bs bm hdct sn sub ab col dd k0 k1 k2 k3 k5 newId))
    (hi : Looks (model prog w) h (typeLookup (.ref C) "__init__") (some (.ref fI))) (hb : ∀ self, Looks (model prog w) h (bindSpecial (.ref fI) self) (.ref fI, [self]))
    (hq : codeAny (model prog w) A (.call (.ref fI) { pos := .ref (h.objs.size + 1) :: rest, kw := kw })
      (fun r s' => match r with | .ok (.ret v) => v = .none ∧ Q (.done (.ret (.ref (h.objs.size + 1)))) s' | .ok _ => False | .error e => E e s')
      ⟨(h.push (kdv_tup rest)).push (eo C h.objs.size none), g, d, t, os⟩) :
    wpAny (model prog w) A (Builtin.«type.__call__» { pos := .ref C :: rest, kw := kw }) Q E ⟨h, g, d, t, os⟩ := by
  repeat (first
    | with_reducible refine wpAny_loadPart_at hC ?_
    | with_reducible refine wpAny_madeBy_exc hC ?_
    | wp_step)
  refine codeAny_call_builtin_code (Code.quiet_builtin _ F.quiet) (kcheck_new F hB hA hN hC (knew F hB hA hN hz hC ?_))
  show wpAny _ _ _ _ _ _
  have k : ∀ b o, h.get? b = some o → ((h.push (kdv_tup rest)).push (eo C h.objs.size none)).get? b = some o := fun b o e => Heap.get?_push_of_some _ (Heap.get?_push_of_some _ e)
  have hC1 := k _ _ hC
  have hget : ((h.push (kdv_tup rest)).push (eo C h.objs.size none)).get? (h.objs.size + 1) = some (eo C h.objs.size none) := by heap_get
  have c1 : (Value.ref C :: bm).contains (.ref C) = true := by simp
  have i1 := hi.keeps k
  have b1 := (hb (.ref (h.objs.size + 1))).keeps k
  unfold isInstance
  repeat (first
    | with_reducible refine wpAny_loadPart_at hget ?_
    | (with_reducible refine wpAny_isSubtype_exc hC1 ?_; rw [c1])
    | wp_step)
  show wpAny _ _ (typeLookup (.ref C) _) _ _ _
  refine i1.at (wpAny_holding (wpAny_bind (b1.at (wpAny_bind (wpAny_call (codeAny_mono hq fun r s' z => ?_))))))
  rcases r with e | (v | _ | _ | _) <;> first | exact z | exact z.elim | skip
  obtain ⟨rfl, z⟩ := z
  first
    | exact wpAny_pure (wpAny_pure z)
    | (wp_walk; exact z)
theorem kcall (F : ExcBaseFacts B newId initId bmB) (hB : bm.contains (.type B) = true) (hA : bm.contains (.type "AttributeError") = false) (hN : bm.contains (.type "NameError") = false) {rest : List Value} {kw : List (Str × Value)} (hz : rest.length ≤ sizeLine) {fI : Addr}
    (hC : h.get? C = some (excClassObj nm q C N bs bm hdct sn sub ab col dd k0 k1 k2 k3 k5 newId))
    (hi : Looks (model prog w) h (typeLookup (.ref C) "__init__") (some (.ref fI))) (hb : ∀ self, Looks (model prog w) h (bindSpecial (.ref fI) self) (.ref fI, [self]))
    (hq : codeAny (model prog w) (A.under (.builtin "type.__call__" { pos := .ref C :: rest, kw := kw })) (.call (.ref fI) { pos := .ref (h.objs.size + 1) :: rest, kw := kw }) (InitBack (h.objs.size + 1) R)
      ⟨(h.push (kdv_tup rest)).push (eo C h.objs.size none), g, d, t, os⟩) :
    codeAny (model prog w) A (.call (.ref C) { pos := rest, kw := kw }) R ⟨h, g, d, t, os⟩ := by
  have f1 := PySem.tc_lookup
  have f2 := PySem.tc_bind (.ref C)
  have hTy : (⟨h, g, d, t, os⟩ : Shared).TypeIs (.ref C) "type" := ⟨_, hC, rfl⟩
  refine codeAny_of_tree ?_
  show wpAny _ _ (callAny (.ref C) _) _ _ _
  repeat (any_goals (first | assumption | with_reducible refine wpAny_loadPart_at hC ?_ | wp_step))
  refine ⟨rfl, codeAny_call_builtin_at (Code.quiet_builtin _ (by decide +kernel)) entry_typeCall (wpAny_check_type_call_sub hC (ktype F hB hA hN hz hC hi hb ?_))⟩
  refine codeAny_mono hq fun r s' z => ?_
  rcases r with e | (v | _ | _ | _) <;> exact z
end
end LX
namespace LX
open PySem PySem.Spec PyProof.Rows L2
/-- at a: an error of the class at C, its dict at d -/
def er (a C d : Addr) : HO := .ext fun h => ∃ t1 : Addr, h.get? a = some (eo C t1 (some d))
theorem er_ok {P : Program} {w : World} {H : Hp} {h : Heap} {a C d t1 : Addr} (e : h.get? a = some (eo C t1 (some d))) : ObjOk P w H h a (er a C d) :=
  ⟨⟨t1, e⟩, ⟨_, e⟩, fun h1 h2 z k => by
    obtain ⟨t, q⟩ := z
    exact ⟨t, k _ q⟩⟩
theorem er_at {P : Program} {w : World} {H : Hp} {h : Heap} {a C d : Addr} (hok : HOk P w H h) (e : H a = some (er a C d)) : ∃ t1 : Addr, h.get? a = some (eo C t1 (some d)) := by
  have x : ObjOk P w H h a (.ext fun h => ∃ t1 : Addr, h.get? a = some (eo C t1 (some d))) := hok a _ e
  exact x.1
section
variable {X : Cx} {pins : List (Addr × Obj)} {σ : L2.St} {H : Hp} {s : Shared}
/-- two new objects laid and tracked -/
theorem laid2 {h' : Heap} {a d : Addr} {oa od : HO} {t' : Nat} (I : Inv X pins σ H s) (k : ∀ b u, s.heap.get? b = some u → h'.get? b = some u) (pa : s.heap.objs.size ≤ a) (pd : s.heap.objs.size ≤ d) (ne : d ≠ a)
    (na : ObjOk X.prog X.w (upd (upd H d od) a oa) h' a oa) (nd : ObjOk X.prog X.w (upd (upd H d od) a oa) h' d od) : Inv X pins σ (upd (upd H d od) a oa) { s with heap := h', toks := t' } := by
  have ha : H a = none := I.hok.fresh pa
  have hd : H d = none := I.hok.fresh pd
  have xa : ∀ {b : Addr} {u : Obj}, s.heap.get? b = some u → b ≠ a := fun {b u} q => Nat.ne_of_lt (Nat.lt_of_lt_of_le (Heap.lt_size q) pa)
  have xd : ∀ {b : Addr} {u : Obj}, s.heap.get? b = some u → b ≠ d := fun {b u} q => Nat.ne_of_lt (Nat.lt_of_lt_of_le (Heap.lt_size q) pd)
  have ya : ∀ {b : Addr} {u : HO}, H b = some u → b ≠ a := fun {b u} q => ne_of_none q ha
  have yd : ∀ {b : Addr} {u : HO}, H b = some u → b ≠ d := fun {b u} q => ne_of_none q hd
  refine I.un { keep := fun b u q _ _ _ => k b u q, slot := fun b u q _ _ _ => ⟨u.slots, k b u q⟩, free := fun b u q n _ => ?_, there := fun b u q _ => ⟨u, k b u q⟩, tups := fun b xs q => ?_, frzs := fun b u xs q => ?_, tbls := fun b ps q => ⟨#[], ?_⟩ } (fun b u e => ?_)
  · rw [upd_ne (xa q), upd_ne (xd q)]
    exact n
  · rw [upd_ne (ya q), upd_ne (yd q)]
    exact q
  · rw [upd_ne (ya q), upd_ne (yd q)]
    exact q
  · rw [upd_ne (ya q), upd_ne (yd q), q]
    simp
  · by_cases hb : b = a
    · subst hb
      rw [upd_same] at e
      cases e
      exact na
    · rw [upd_ne hb] at e
      by_cases hb2 : b = d
      · subst hb2
        rw [upd_same] at e
        cases e
        exact nd
      · rw [upd_ne hb2] at e
        exact (I.hok b u e).stay (fun c v _ q => k c v q) (fun c q => by rw [upd_ne (ya q), upd_ne (yd q)]; exact q) fun c xs q => by rw [upd_ne (ya q), upd_ne (yd q)]; exact q
/-- the reading of a new error with this field -/
def rNew (C : Addr) (p : Str) (y : V) (H : Hp) (Q : VK) : Prop := ∀ a d, H a = none → H d = none → d ≠ a → Q (.ref a) (upd (upd H d (.xd [(p, y)])) a (er a C d))
variable {C : Addr} {bm0 bmB : List Value} {B newId initId : String} {cn p : Str}
theorem one_rel {p : Str} {y : V} {u : Value} (ry : RelV y u) (f : Str) : RelO (([(p, y)] : List (Str × V)).lookup f) (if f = p then some u else none) := by
  by_cases e : f = p
  · subst e
    simp [List.lookup]
    exact ry
  · have e' : (f == p) = false := beq_eq_false_iff_ne.mpr e
    simp [List.lookup, e', e]
    trivial
theorem new_core (T : ExF X.prog X.K C bm0 B newId initId bmB cn p) (hr : Room 2 X.A) (hs : X.mg "super" = none) (I : Inv X pins σ H s) {u : Value} {us : List Value} {kw : List (Str × Value)} {R : Value → Shared → Prop} {E : Value → Shared → Prop}
    (ha : (us = [u] ∧ kw = []) ∨ (us = [] ∧ kw = [(p, u)]))
    (h : ∀ h' tk' dx t1, (∀ b o, s.heap.get? b = some o → h'.get? b = some o) → s.heap.objs.size ≤ dx → dx ≠ s.heap.objs.size + 1 → h'.get? (s.heap.objs.size + 1) = some (eo C t1 (some dx)) →
      h'.Ns1 dx (fun y => if y = p then some u else none) → R (.ref (s.heap.objs.size + 1)) { s with heap := h', toks := tk' }) :
    wpAny (model X.prog X.w) X.A (call (.ref C) us kw) R E s := by
  obtain ⟨fI, i1, i2, run⟩ := init_run (w := X.w) T
  have KX := I.kIn
  obtain ⟨nm, N', qn, bs, bm, hdct, sn, sub, ab, col, dd, k0, k1, k2, k3, k5, hC, hT⟩ := PySem.W.excInit_of KX T.q
  obtain ⟨mb, b1, b2⟩ := I.mod.blt
  have hz : us.length ≤ sizeLine := by
    rcases ha with ⟨rfl, _⟩ | ⟨rfl, _⟩ <;> (rw [sizeLine_eq]; simp)
  have lim := I.nolimit
  have glob := I.mod.glob.keeps I.bk
  have blt := b1.keeps I.bk
  have ke : X.K.lookup (s.heap.objs.size + 1) = none := by
    cases z : X.K.lookup (s.heap.objs.size + 1) with
    | none => rfl
    | some o => exact absurd (Heap.lt_size (KX _ _ z)) (Nat.not_lt_of_le (Nat.le_succ _))
  obtain ⟨hp, g, dr, tk, os⟩ := s
  obtain ⟨B1, i1', b1', FB, hcB⟩ := T.FB
  refine wpAny_call (kcall FB ((hT _).trans hcB) ((hT _).trans T.noA) ((hT _).trans T.noN) hz hC (PySem.W.looks_findIn KX i1) (fun self => PySem.W.bind_fn KX self i2) ?_)
  have kk : ∀ b o, hp.get? b = some o → ((hp.push (PySem.W.kdv_tup us)).push (eo C hp.objs.size none)).get? b = some o := fun b o e => Heap.get?_push_of_some _ (Heap.get?_push_of_some _ e)
  have hget : ((hp.push (PySem.W.kdv_tup us)).push (eo C hp.objs.size none)).get? (hp.objs.size + 1) = some (eo C hp.objs.size none) := by heap_get
  have hsz : ((hp.push (PySem.W.kdv_tup us)).push (eo C hp.objs.size none)).objs.size = hp.objs.size + 2 := by rw [Heap.size_push, Heap.size_push]
  refine run (v := u) (s := ⟨(hp.push (PySem.W.kdv_tup us)).push (eo C hp.objs.size none), g, dr, tk, os⟩) (KX.keeps kk) (glob.keeps kk) hs (blt.keeps kk) ((b2 "super" (by decide)).trans (by first | rfl | kernel_rfl)) (lim.keeps kk) (hr.make C us kw).depth ke hget ?_ (fun h' tk' dx t1 k3 hdx dne e5 ns5 => ?_)
  · rcases ha with ⟨rfl, rfl⟩ | ⟨rfl, rfl⟩
    · exact .inl rfl
    · exact .inr rfl
  · have pa : hp.objs.size ≤ hp.objs.size + 1 := Nat.le_succ _
    have pd : hp.objs.size ≤ dx := by
      rw [hsz] at hdx
      omega
    have kf : ∀ b o, hp.get? b = some o → h'.get? b = some o := fun b o z => k3 b o (Nat.ne_of_lt (Nat.lt_succ_of_lt (Heap.lt_size z))) (kk b o z)
    exact ⟨rfl, h h' tk' dx t1 kf pd dne e5 ns5⟩
theorem new_run (T : ExF X.prog X.K C bm0 B newId initId bmB cn p) (hr : Room 2 X.A) (hs : X.mg "super" = none) (I : Inv X pins σ H s) {y : V} {u : Value} {us : List Value} {kw : List (Str × Value)} {Q : VK}
    (ha : (us = [u] ∧ kw = []) ∨ (us = [] ∧ kw = [(p, u)])) (ry : RelV y u) (h : rNew C p y H Q) :
    wpAny (model X.prog X.w) X.A (call (.ref C) us kw) (EP X pins σ Q) X.xe s := by
  refine new_core T hr hs I ha fun h' tk' dx t1 kf pd dne e5 ns5 => ?_
  have pa : s.heap.objs.size ≤ s.heap.objs.size + 1 := Nat.le_succ _
  have J := laid2 (t' := tk') (oa := er (s.heap.objs.size + 1) C dx) (od := .xd [(p, y)]) I kf pa pd dne (er_ok e5) ⟨_, ns5, one_rel ry⟩
  exact ⟨.ref (s.heap.objs.size + 1), _, J, rfl, h _ _ (I.hok.fresh pa) (I.hok.fresh pd) dne⟩
end
end LX
namespace LX
open PySem PySem.Spec PyProof.Rows L2
section
variable {X : Cx} {C : Addr} {bm0 bmB : List Value} {B newId initId : String} {cn p x : Str} {e : Expr} {te : TE} {q pos kpos : Pos}
/-- C(e) -/
def tNw (C : Addr) (p : Str) (te : TE) : TE := fun σ H Q => te σ H fun y H1 => rNew C p y H1 Q
theorem pe_nw (T : ExF X.prog X.K C bm0 B newId initId bmB cn p) (hr : Room 2 X.A) (hs : X.mg "super" = none) (gC : X.mg x = some (.ref C)) (kC : PySem.W.keepIn X.K (.ref C) = true) (hg : Gl X x) (he : PE X e te)
    (hst : starEach [e] X.env = (false, eval e X.env) :: starEach [] X.env := by rfl) (hdb : (x == ("__debug__" : Str)) = false := by decide) : PE X (.Call (.Name x q) [e] [] pos) (tNw C p te) := by
  refine ⟨fun pins s σ H Q I h => wpAny_Call_Name_kw (ld_glob I hg gC ?_ hdb)⟩
  refine PySem.W.callWith_K (h₀ := X.base) I.ok.mod.kin kC ?_ hst (by rfl)
  rw [hst]
  show wpAny _ _ (spliced ((false, eval e X.env) :: backTo pos (starEach [] X.env))) _ _ s
  refine Calls.spliced_cons (thn (he.run pins s σ H _ I h) fun u s1 hu => ?_)
  obtain ⟨y, H1, I1, r1, q1⟩ := hu
  exact Calls.spliced_nil ⟨I1.kIn, new_run (us := [u]) (kw := []) T hr hs I1 (.inl ⟨rfl, rfl⟩) r1 q1⟩
/-- C(p=e) -/
theorem pe_nwK (T : ExF X.prog X.K C bm0 B newId initId bmB cn p) (hr : Room 2 X.A) (hs : X.mg "super" = none) (gC : X.mg x = some (.ref C)) (kC : PySem.W.keepIn X.K (.ref C) = true) (hg : Gl X x) (he : PE X e te)
    (hdb : (x == ("__debug__" : Str)) = false := by decide) (hpl : ((backTo pos (starEach [] X.env)).any (·.1) || (backToKw pos (keywordEach [⟨some p, e, kpos⟩] X.env)).any (·.1.isNone)) = false := by rfl) :
    PE X (.Call (.Name x q) [] [⟨some p, e, kpos⟩] pos) (tNw C p te) := by
  refine ⟨fun pins s σ H Q I h => wpAny_Call_Name_kw (ld_glob I hg gC ?_ hdb)⟩
  refine PySem.W.callWith_KW0 (h₀ := X.base) I.ok.mod.kin kC rfl ?_ hpl
  show wpAny _ _ (evalAll [(do
    let v ← eval e X.env
    standAt pos
    pure v)]) _ _ s
  refine wpAny_evalAll_cons (wpAny_bind (thn (he.run pins s σ H _ I h) fun u s1 hu => wpAny_bind (wpAny_standAt (wpAny_pure ?_))))
  obtain ⟨y, H1, I1, r1, q1⟩ := hu
  exact wpAny_evalAll_nil ⟨I1.kIn, new_run (us := []) (kw := [(p, u)]) T hr hs I1 (.inr ⟨rfl, rfl⟩) r1 q1⟩
/-- e.p, e an error -/
def tFld (C : Addr) (p : Str) (te : TE) : TE := fun σ H Q => te σ H fun x H1 => ∃ a d y, x = .ref a ∧ H1 a = some (er a C d) ∧ H1 d = some (.xd [(p, y)]) ∧ Q y H1
structure FlC (K : PySem.W.Frag) (C : Addr) (p : Str) : Prop where
  ga : PySem.W.findIn K (.ref C) "__getattribute__" = some (some (.builtin "BaseException.__getattribute__"))
  gg : PySem.W.findIn K (.ref C) "__getattr__" = some none
  exC : PySem.W.subIn K (.ref C) (.type "BaseException") = some true
  hdC : PySem.W.hasDictIn K C = true
  no : PySem.W.findIn K (.ref C) p = some none
theorem pe_fld (F : FlC X.K C p) (he : PE X e te) (hb : attributeBase e p X.env (eval e X.env) = eval e X.env := by rfl) :
    PE X (.Attribute e p pos) (tFld C p te) := by
  refine ⟨fun pins s σ H Q I h => attr_of hb (thn (he.run pins s σ H _ I h) fun u s1 hh => ?_)⟩
  obtain ⟨x, H1, I1, rx, a, d, y, ex, ha, hd, q⟩ := hh
  subst ex
  obtain rfl : u = Value.ref a := rx
  obtain ⟨t1, ho⟩ := er_at I1.hok ha
  have hx : ObjOk X.prog X.w H1 s1.heap d (.xd [(p, y)]) := I1.hok d _ hd
  obtain ⟨mA, hns, hr⟩ := hx
  obtain ⟨od, ho2, hl⟩ := lookIn_ns hns
  obtain ⟨v, hv, rv⟩ := RelO.some_of (v := y) (o := mA p) (by have z := hr p; simpa [List.lookup] using z)
  exact HandSPX.exc_get I1.kIn (od := some od) ⟨ho, rfl, rfl, ho2⟩ F.ga F.gg F.exC (PySem.W.findObj_own F.hdC F.no rfl (by rw [hl, hv])) (handed_of rv) ⟨y, H1, I1.tok _, rv, q⟩
end
end LX
namespace LX
open PySem PySem.Spec PyProof.Rows L2
/-- what isinstance asks of an error's class -/
structure IsC (K : PySem.W.Frag) (C : Addr) : Prop where
  ga : PySem.W.findIn K (.ref C) "__getattribute__" = some (some (.builtin "BaseException.__getattribute__"))
  gg : PySem.W.findIn K (.ref C) "__getattr__" = some none
  exC : PySem.W.subIn K (.ref C) (.type "BaseException") = some true
  hdC : PySem.W.hasDictIn K C = true
  cl : PySem.W.findIn K (.ref C) "__class__" = some (some (.builtin "object.__class__"))
  obj : PySem.W.mroIn K C (.type "object") = some true
structure IsG (K : PySem.W.Frag) : Prop where
  sp : PySem.W.specialIn K (.builtin "object.__class__") "__get__" = some (some (.builtin "getset_descriptor.__get__"))
  tk : PySem.W.takesIn K (.builtin "object.__class__") = some true
/-- isinstance(e, c), e an error -/
def rIsX (K : PySem.W.Frag) : List V → Hp → VK → Prop := fun xs H Q => ∃ (a C d : Addr) (fs : List (Str × V)) (c : V) (cv : Value) (b : Bool), xs = [.ref a, c] ∧ H a = some (er a C d) ∧ H d = some (.xd fs) ∧ IsC K C ∧ (∀ u, RelV c u → u = cv) ∧ PySem.W.kitOne K (.ref C) cv = some b ∧ Q (.bl b) H
theorem call_isX {X : Cx} (G : IsG X.K) : CallR X (.builtin "isinstance") (rIsX X.K) := by
  intro pins s σ H xs us Q I r h
  obtain ⟨a, C, d, fs, c, cv, b, rfl, ha, hd, T, hcv, e, q⟩ := h
  obtain ⟨u, v, rfl, ru, rv⟩ := vals2 r
  obtain rfl : u = Value.ref a := ru
  have ec := hcv _ rv
  subst ec
  obtain ⟨t1, ho⟩ := er_at I.hok ha
  have hx : ObjOk X.prog X.w H s.heap d (.xd fs) := I.hok d _ hd
  obtain ⟨mA, hns, _⟩ := hx
  obtain ⟨od, ho2, _⟩ := lookIn_ns hns
  have J : PySem.W.InstAt s.heap a (eo C t1 (some d)) C (some od) := ⟨ho, rfl, rfl, ho2⟩
  obtain ⟨cd, hc, _⟩ := PySem.W.any_some T.hdC
  exact PySem.W.kia_one (PySem.W.kitx_exc (by rw [hc]; rfl) T.ga T.gg T.exC T.cl G.sp G.tk T.obj) I.kIn J e (fun z => nomatch z) fun tk => ⟨.bl b, H, I.kept (t' := tk) fun _ _ z => z, rfl, q⟩
end LX
namespace LX
open PySem PySem.Spec PyProof.Rows L2
open PySem.W (KxsFacts)
abbrev keMro : List Value := [.type "KeyError", .type "LookupError", .type "Exception", .type "BaseException", .type "object"]
theorem ke_kxs : KxsFacts "KeyError" "KeyError.__init__" := by
  constructor
  · show builtinType _ = _
    rw [builtinType_eq_fast]
    kernel_rfl
  · first
      | kernel_rfl
      | rfl
theorem ke_pass (self : Value) : refuseLoop self "__setattr__" keMro = pure () := by kernel_rfl
theorem ke_slot : Slot "KeyError" "__init__" "KeyError.__init__" :=
  .of (owner := "KeyError") (n := "__init__") (by (rw [typeLookup_type, builtinLookup_eq_fast]; kernel_rfl)) (by first | rfl | decide +kernel) (by first | rfl | decide +kernel) (by first | rfl | decide +kernel) (by first | exact .inl (by first | rfl | decide +kernel) | exact .inr (by first | rfl | decide +kernel)) (by (rw [isSubtype_type]; kernel_rfl))
theorem ke_in : InF "KeyError" "KeyError.__init__" :=
  ⟨by kernel_rfl, by kernel_rfl, by first | rfl | decide +kernel, ke_slot.plain, entryFor_alias (id' := "BaseException.__init__") (by (rw [fastTable_eq_tree]; kernel_rfl)) (by first | rfl | decide +kernel) (by first | rfl | decide +kernel) (by (rw [fastTable_eq_tree]; kernel_rfl))⟩
end LX
namespace LX
open PySem PySem.Spec PyProof.Rows L2
section
variable {X : Cx} {C : Addr} {bm0 bmB : List Value} {B newId initId : String} {cn p x : Str} {e : Expr} {te : TE} {q pos kpos : Pos}
/-- raise C(e): what the raised error is made of; its dict stands at d -/
theorem pmk_nw (T : ExF X.prog X.K C bm0 B newId initId bmB cn p) (hr : Room 2 X.A) (hs : X.mg "super" = none) (gC : X.mg x = some (.ref C)) (kC : PySem.W.keepIn X.K (.ref C) = true) (exC : PySem.W.subIn X.K (.ref C) (.type "BaseException") = some true)
    (tyC : PySem.W.typeIn X.K (.ref C) = some (.type "type")) (hg : Gl X x) (he : PE X e te) (hst : starEach [e] X.env = (false, eval e X.env) :: starEach [] X.env := by rfl) (hdb : (x == ("__debug__" : Str)) = false := by decide) :
    PMk X (.Call (.Name x q) [e] [] pos) (fun σ H Q => te σ H fun y H1 => ∀ d, H1 d = none → Q (.ref C) (some d) (upd H1 d (.xd [(p, y)]))) := by
  intro pins s σ H Q I h
  refine wpAny_Call_Name_kw (ld_glob I hg gC ?_ hdb)
  refine PySem.W.callWith_K (h₀ := X.base) I.ok.mod.kin kC ?_ hst (by rfl)
  rw [hst]
  show wpAny _ _ (spliced ((false, eval e X.env) :: backTo pos (starEach [] X.env))) _ _ s
  refine Calls.spliced_cons (thn (he.run pins s σ H _ I h) fun u s1 hu => ?_)
  obtain ⟨y, H1, I1, r1, q1⟩ := hu
  refine Calls.spliced_nil ⟨I1.kIn, ?_⟩
  refine new_core (us := [u]) (kw := []) T hr hs I1 (.inl ⟨rfl, rfl⟩) fun h' tk' dx t1 kf pd dne e5 ns5 => ?_
  obtain ⟨G, g1, g2⟩ := restrict h' fun b => decide (b ≠ s1.heap.objs.size + 1)
  have ga : G.get? (s1.heap.objs.size + 1) = none := g2 _ (by simp)
  have gk : ∀ b, b ≠ s1.heap.objs.size + 1 → G.get? b = h'.get? b := fun b hb => g1 b (decide_eq_true hb)
  have up : ∀ b o, G.get? b = some o → h'.get? b = some o := fun b o z => by
    rw [← gk b (fun w => by rw [w, ga] at z; cases z)]
    exact z
  have kG : ∀ b o, s1.heap.get? b = some o → G.get? b = some o := fun b o z => by
    rw [gk b (Nat.ne_of_lt (Nat.lt_succ_of_lt (Heap.lt_size z)))]
    exact kf b o z
  have J : Inv X pins σ (upd H1 dx (.xd [(p, y)])) { s1 with heap := G, toks := tk' } := I1.laid (t' := tk') (a := dx) (o := .xd [(p, y)]) kG pd ⟨_, ns5.at fun o z => (gk dx dne).trans z, one_rel r1⟩
  have na : H1 (s1.heap.objs.size + 1) = none := I1.hok.fresh (Nat.le_succ _)
  exact ⟨s1.heap.objs.size + 1, _, _, { s1 with heap := G, toks := tk' }, upd H1 dx (.xd [(p, y)]), .ref C, some dx, rfl, J, up, ga, e5, ⟨rfl, rfl⟩, rfl, rfl, (upd_ne (Ne.symm dne)).trans na, rfl, J.bare, raises_own exC tyC, q1 dx (I1.hok.fresh pd)⟩
end
end LX
/-! own rules: tables of the module, told by a look at the written part; error classes by facts -/
namespace LT
open PySem PySem.Spec PyProof.Rows L2 LK
def keyS (e : DictEntry) : Option Str := match e.key with
  | .str x _ => some x
  | _ => none
def absE (e : DictEntry) : Option (Str × V) := match keyS e, absV e.val with
  | some x, some v => some (x, v)
  | _, _ => none
def valW (K : PySem.W.Frag) (a : Addr) : Option (List (Option (Str × V))) := match K.lookup a with
  | some ⟨_, _, .dict es _, _⟩ => some (es.toList.map absE)
  | _ => none
theorem rel_of_abs {u : Value} {x : V} (h : absV u = some x) : L2.RelV x u := by
  unfold absV at h
  split at h <;> first
    | (cases h; rfl)
    | (cases h; exact ⟨_, rfl⟩)
    | cases h
theorem keyS_of {e : DictEntry} {x : Str} (h : keyS e = some x) : ∃ t, e.key = .str x t := by
  unfold keyS at h
  split at h
  · rename_i y t q
    cases h
    exact ⟨t, q⟩
  · cases h
theorem absE_of {e : DictEntry} {r : Str × V} (h : absE e = some r) : (∃ t, e.key = .str r.1 t) ∧ L2.RelV r.2 e.val := by
  unfold absE at h
  cases hk : keyS e with
  | none =>
    rw [hk] at h
    cases h
  | some x =>
    cases hv : absV e.val with
    | none =>
      rw [hk, hv] at h
      cases h
    | some v =>
      rw [hk, hv] at h
      cases h
      exact ⟨keyS_of hk, rel_of_abs hv⟩
theorem paired_absE : ∀ {es : List DictEntry} {tbl : List (Str × V)}, es.map absE = tbl.map some → Paired (fun (r : Str × V) (e : DictEntry) => (∃ t, e.key = .str r.1 t) ∧ L2.RelV r.2 e.val) tbl es
  | [], [], _ => .nil
  | e :: es, r :: tbl, h => by
    rw [List.map_cons, List.map_cons] at h
    injection h with h1 h2
    exact .cons (absE_of h1) (paired_absE h2)
  | [], r :: tbl, h => by simp at h
  | e :: es, [], h => by simp at h
theorem ktab_mk {K : PySem.W.Frag} {w : World} {p : Addr} {ks : List Str} {tbl : List (Str × V)} (h : He.dicW K p = some (He.keysIn w.params ks)) (h2 : valW K p = some (tbl.map some)) : KTab K w p tbl := by
  obtain ⟨es, n, D⟩ := He.dicW_ok h
  unfold valW at h2
  rw [D.at_] at h2
  exact ⟨es, n, D.at_, D.lit, D.low, paired_absE (Option.some.inj h2)⟩
/-! ### tuples of tuples of texts -/
def seqW (K : PySem.W.Frag) (v : Value) : Option (List Value) := match v with
  | .ref b => (match K.lookup b with
    | some ⟨c, _, .seq its _, _⟩ => if c == .type "tuple" && decide (its.size ≤ 1000) then some its.toList else none
    | _ => none)
  | _ => none
theorem seqW_of {K : PySem.W.Frag} {v : Value} {us : List Value} (h : seqW K v = some us) : ∃ b, v = .ref b ∧ ∀ xs, Vals xs us → KTup K b xs := by
  unfold seqW at h
  split at h
  · rename_i b
    cases hl : K.lookup b with
    | none =>
      rw [hl] at h
      cases h
    | some o =>
      obtain ⟨c, dd, dt, sl⟩ := o
      rw [hl] at h
      cases dt with
      | seq its n =>
        simp only at h
        split at h
        · rename_i hc
          rw [Bool.and_eq_true] at hc
          cases h
          refine ⟨b, rfl, fun xs r => ⟨_, its, n, hl, eq_of_beq hc.1, rfl, ?_, r⟩⟩
          have := of_decide_eq_true hc.2
          exact Nat.le_trans this (by decide)
        · cases h
      | _ => cases h
  · cases h
def strW (v : Value) : Option Str := match v with
  | .str x _ => some x
  | _ => none
def allSome {α : Type} : List (Option α) → Option (List α)
  | [] => some []
  | some a :: r => (match allSome r with
    | some l => some (a :: l)
    | none => none)
  | none :: _ => none
theorem allSome_map {α β : Type} {f : α → Option β} {R : β → α → Prop} (hf : ∀ a b, f a = some b → R b a) : ∀ {us : List α} {ks : List β}, allSome (us.map f) = some ks → Paired R ks us
  | [], ks, h => by
    cases h
    exact .nil
  | u :: us, ks, h => by
    rw [List.map_cons] at h
    cases hu : f u with
    | none =>
      rw [hu] at h
      cases h
    | some b =>
      rw [hu] at h
      simp only [allSome] at h
      cases hr : allSome (us.map f) with
      | none =>
        rw [hr] at h
        cases h
      | some l =>
        rw [hr] at h
        cases h
        exact .cons (hf u b hu) (allSome_map hf hr)
def strsW (K : PySem.W.Frag) (v : Value) : Option (List Str) := match seqW K v with
  | some us => allSome (us.map strW)
  | none => none
theorem vals_of_strs : ∀ {ks : List Str} {us : List Value}, Paired (fun (x : Str) (u : Value) => ∃ t, u = .str x t) ks us → Vals (ks.map V.str) us
  | _, _, .nil => .nil
  | _, _, .cons ⟨t, e⟩ r => .cons ⟨t, e⟩ (vals_of_strs r)
theorem strsW_of {K : PySem.W.Frag} {v : Value} {ks : List Str} (h : strsW K v = some ks) : ∃ b, v = .ref b ∧ KTup K b (ks.map V.str) := by
  unfold strsW at h
  cases hs : seqW K v with
  | none =>
    rw [hs] at h
    cases h
  | some us =>
    rw [hs] at h
    obtain ⟨b, e, f⟩ := seqW_of hs
    refine ⟨b, e, f _ (vals_of_strs (allSome_map (f := strW) (fun a x q => ?_) h))⟩
    unfold strW at q
    split at q
    · rename_i y t
      cases q
      exact ⟨t, rfl⟩
    · cases q
def strssW (K : PySem.W.Frag) (v : Value) : Option (List (List Str)) := match seqW K v with
  | some us => allSome (us.map (strsW K))
  | none => none
theorem refs_of {K : PySem.W.Frag} : ∀ {kss : List (List Str)} {us : List Value}, Paired (fun (ks : List Str) (u : Value) => ∃ b, u = .ref b ∧ KTup K b (ks.map V.str)) kss us → ∃ bs : List Addr, Vals (bs.map V.ref) us ∧ Paired (fun (b : Addr) (ks : List Str) => KTup K b (ks.map V.str)) bs kss
  | _, _, .nil => ⟨[], .nil, .nil⟩
  | _, _, .cons ⟨b, e, k⟩ r => by
    obtain ⟨bs, h1, h2⟩ := refs_of r
    exact ⟨b :: bs, .cons e h1, .cons k h2⟩
theorem strssW_of {K : PySem.W.Frag} {v : Value} {kss : List (List Str)} (h : strssW K v = some kss) : ∃ a bs, v = .ref a ∧ KTup K a (bs.map V.ref) ∧ Paired (fun (b : Addr) (ks : List Str) => KTup K b (ks.map V.str)) bs kss := by
  unfold strssW at h
  cases hs : seqW K v with
  | none =>
    rw [hs] at h
    cases h
  | some us =>
    rw [hs] at h
    obtain ⟨a, e, f⟩ := seqW_of hs
    obtain ⟨bs, h1, h2⟩ := refs_of (allSome_map (f := strsW K) (fun a x q => strsW_of q) h)
    exact ⟨a, bs, e, f _ h1, h2⟩
def valK (K : PySem.W.Frag) (a : Addr) : Option (List (Option Str × Option (List (List Str)))) := match K.lookup a with
  | some ⟨_, _, .dict es _, _⟩ => some (es.toList.map fun e => (keyS e, strssW K e.val))
  | _ => none
theorem rows_of {K : PySem.W.Frag} : ∀ {es : List DictEntry} {tab : List (Str × List (List Str))}, es.map (fun e => (keyS e, strssW K e.val)) = tab.map (fun q => (some q.1, some q.2)) →
    ∃ rows : List (Str × V), Paired (fun (r : Str × V) (e : DictEntry) => (∃ t, e.key = .str r.1 t) ∧ L2.RelV r.2 e.val) rows es ∧
      Paired (fun (r : Str × V) (q : Str × List (List Str)) => r.1 = q.1 ∧ ∃ (a : Addr) (bs : List Addr), r.2 = .ref a ∧ KTup K a (bs.map V.ref) ∧ Paired (fun (b : Addr) (ks : List Str) => KTup K b (ks.map V.str)) bs q.2) rows tab
  | [], [], _ => ⟨[], .nil, .nil⟩
  | e :: es, q :: tab, h => by
    rw [List.map_cons, List.map_cons] at h
    injection h with h1 h2
    injection h1 with h3 h4
    obtain ⟨rows, r1, r2⟩ := rows_of h2
    obtain ⟨a, bs, ev, k1, k2⟩ := strssW_of h4
    exact ⟨(q.1, .ref a) :: rows, .cons ⟨keyS_of h3, ev⟩ r1, .cons ⟨rfl, a, bs, rfl, k1, k2⟩ r2⟩
  | [], q :: tab, h => by simp at h
  | e :: es, [], h => by simp at h
theorem kinds_mk {K : PySem.W.Frag} {w : World} {p : Addr} {ks : List Str} {tab : List (Str × List (List Str))} (h : He.dicW K p = some (He.keysIn w.params ks)) (h2 : valK K p = some (tab.map fun q => (some q.1, some q.2))) :
    ∃ rows, KTab K w p rows ∧ Paired (fun (r : Str × V) (q : Str × List (List Str)) => r.1 = q.1 ∧ ∃ (a : Addr) (bs : List Addr), r.2 = .ref a ∧ KTup K a (bs.map V.ref) ∧ Paired (fun (b : Addr) (ks : List Str) => KTup K b (ks.map V.str)) bs q.2) rows tab := by
  obtain ⟨es, n, D⟩ := He.dicW_ok h
  unfold valK at h2
  rw [D.at_] at h2
  obtain ⟨rows, r1, r2⟩ := rows_of (Option.some.inj h2)
  exact ⟨rows, ⟨es, n, D.at_, D.lit, D.low, r1⟩, r2⟩
end LT
/-! a text so many times -/
namespace LT
open PySem PySem.Spec PyProof.Rows L2
def rRepS : R2 := fun x y H Q => ∃ (z : Str) (k : Int) (r : Str), x = .str z ∧ y = .int k ∧ 2 ≤ k ∧ k ≤ 1000 ∧ 0 < z.length ∧ z.length ≤ 1000 ∧ r = ⟨(List.replicate k.toNat z.cps).foldl (· ++ ·) #[]⟩ ∧ r.length ≤ 1000 ∧ Q (.str r) H
theorem op_repS {X : Cx} : OpR X (binaryOp .Mult) rRepS := by
  intro pins s σ H x y v u Q I rx ry h
  obtain ⟨z, k, r, rfl, rfl, h1, h2, z0, hz, rfl, hr, q⟩ := h
  obtain ⟨t, rfl⟩ := rx
  obtain ⟨t', rfl⟩ := ry
  have e1 : ¬ k < 1 := by omega
  have e2 : (k == 1 || z.length == 0) = false := by
    rw [Bool.or_eq_false_iff, beq_eq_false_iff_ne, beq_eq_false_iff_ne]
    exact ⟨by omega, by omega⟩
  refine PySem.P.mul_str ?_ (fun _ _ => ?_) (fun _ _ => ?_) ?_
  · rw [Bool.or_eq_false_iff]
    exact ⟨decide_eq_false (by omega), decide_eq_false (by omega)⟩
  · have h3 : (1000 : Int) ≤ (2 ^ 63 - 1) / k := (Int.le_ediv_iff_mul_le (by omega)).mpr (by omega)
    omega
  · have h3 : z.length * k.toNat ≤ 1000 * 1000 := Nat.mul_le_mul hz (by omega)
    have h4 : ¬ z.length * k.toNat > sizeLine := by
      rw [sizeLine_eq]
      omega
    exact decide_eq_false h4
  · rw [if_neg e1, e2]
    refine ⟨?_, .str _, H, I.tok _, ⟨_, rfl⟩, q⟩
    rw [sizeLine_eq]
    omega
end LT
/-! own rule: sum(xs, []) over a list of lists -/
namespace LSum
open PySem PySem.Spec PyProof.Rows L2
def catF (els : Nat → List Value) : Nat → Nat → List Value
  | 0, _ => []
  | k + 1, i => els i ++ catF els k (i + 1)
section
variable {prog : Program} {w : World} {A : Around} {R : Result → Shared → Prop} {I l S : Addr} {its : Array Value} {els : Nat → List Value}
theorem args_sum2 (a b : Value) : argsOk "sum" ⟨[a, b], []⟩ := by unfold argsOk; kernel_rfl
theorem code_loop (hh : A.in1.handled = none) (hIS : I ≠ S) (hlI : l ≠ I) (hlS : l ≠ S) : ∀ (k i : Nat) (s : Shared) (T : Addr) (acc : List Value) (n c : Nat), its.size - i = k → i ≤ its.size → s.heap.IsListIter I l i → s.heap.IsList l its →
    (∀ j x, its[j]? = some x → ∃ a m, x = .ref a ∧ IsL s.heap a (els j).toArray m ∧ a ≠ I ∧ a ≠ S) →
    s.heap.get? S = some { cls := .type "list", dict := none, data := .seq #[.ref T] c, slots := #[] } → IsL s.heap T acc.toArray n → T ≠ I → T ≠ S → acc.length + (catF els k i).length ≤ sizeLine →
    (∀ h' T' n', (∀ b o, b ≠ I → b ≠ S → s.heap.get? b = some o → h'.get? b = some o) → IsL h' T' (acc ++ catF els k i).toArray n' → (T' = T ∧ k = 0 ∨ s.heap.objs.size ≤ T') → R (.ok (.ret (.ref T'))) { s with heap := h' }) →
    codeAny (model prog w) A (.builtin "sum.loop" ⟨[.ref I, .ref S, rawInt 2, rawInt 0], []⟩) R s := by
  intro k
  induction k with
  | zero =>
    intro i s T acc n c hk hi hst hl hel hS hT hTI hTS hz hR
    refine codeAny_builtin F.entry_sum_loop ?_
    rw [Around.under_plainId F.plain_sum_loop _]
    show wpAny _ A.in1 (seqItems? (.ref S) >>= _) _ _ s
    refine wpAny_bind (wpAny_seqItems hS rfl ?_)
    show wpAny _ A.in1 (tryCatch (pyNext (.ref I)) _ >>= _) _ _ s
    refine wpAny_bind (wpAny_tryCatch (wpAny_pyNext_list_end hh hst hl (by simp; omega) fun h' he => ?_))
    refine wpAny_pure (hR h' T n (fun b o h1 _ e => he b o h1 e) ?_ (.inl ⟨rfl, rfl⟩))
    simp only [catF, List.append_nil]
    exact he T _ hTI hT
  | succ k ih =>
    intro i s T acc n c hk hi hst hl hel hS hT hTI hTS hz hR
    have hlt : i < its.size := by omega
    refine codeAny_builtin F.entry_sum_loop ?_
    rw [Around.under_plainId F.plain_sum_loop _]
    show wpAny _ A.in1 (seqItems? (.ref S) >>= _) _ _ s
    refine wpAny_bind (wpAny_seqItems hS rfl ?_)
    show wpAny _ A.in1 (tryCatch (pyNext (.ref I)) _ >>= _) _ _ s
    obtain ⟨a, m, ex, ha, haI, haS⟩ := hel i its[i] (by simp [hlt])
    refine wpAny_bind (wpAny_tryCatch (wpAny_pyNext_list_item hst hl (x := its[i]) (by simp [hlt]) fun h' hst' hs => ?_))
    rw [ex]
    have kb : ∀ b o, b ≠ I → s.heap.get? b = some o → h'.get? b = some o := fun b o hb e => (hs.2 b hb).trans e
    have hS' := kb S _ (Ne.symm hIS) hS
    have hT' : IsL h' T acc.toArray n := kb T _ hTI hT
    have ha' : IsL h' a (els i).toArray m := kb a _ haI ha
    have hsz : h'.objs.size = s.heap.objs.size := hs.1
    simp only [catF, List.length_append] at hz
    show wpAny _ A.in1 ((holding [Value.ref a] (binaryOp .Add (.ref T) (.ref a))).attempt >>= _) _ _ _
    refine wpAny_bind (wpAny_attempt (wpAny_holding (PySem.P.add_list hT' ha' ?_ (by simp only [List.size_toArray]; omega))))
    have nT : h'.objs.size ≠ I := fun z => by
      obtain ⟨o, eo, _⟩ := hst'
      have := Heap.lt_size eo
      rw [z] at this
      exact Nat.lt_irrefl _ this
    have nS : h'.objs.size ≠ S := fun z => by
      have := Heap.lt_size hS'
      rw [z] at this
      exact Nat.lt_irrefl _ this
    have hS1 : (h'.push { cls := .type "list", data := .seq (acc.toArray ++ (els i).toArray) }).get? S = some { cls := .type "list", dict := none, data := .seq #[.ref T] c, slots := #[] } := Heap.get?_push_of_some _ hS'
    show wpAny _ A.in1 (updateSeq S (fun _ => #[.ref h'.objs.size]) >>= _) _ _ _
    refine wpAny_bind (wpAny_updateSeq hS1 rfl ?_)
    have hS2 := Heap.get?_update_self (Obj.mapSeq fun _ => #[Value.ref h'.objs.size]) hS1 rfl
    refine wpAny_bind (wpAny_letGo ?_)
    have hS3 := Heap.get?_update_self (Obj.mapSeq fun _ => #[Value.ref h'.objs.size]) hS2 rfl
    have keep : ∀ b o, b ≠ S → (h'.push { cls := .type "list", data := .seq (acc.toArray ++ (els i).toArray) }).get? b = some o →
        (((h'.push { cls := .type "list", data := .seq (acc.toArray ++ (els i).toArray) }).update S (Obj.mapSeq fun _ => #[Value.ref h'.objs.size])).update S (Obj.mapSeq fun _ => #[Value.ref h'.objs.size])).get? b = some o := fun b o hb e =>
      (Heap.get?_update_other _ _ (fun h : S = b => hb h.symm)).trans ((Heap.get?_update_other _ _ (fun h : S = b => hb h.symm)).trans e)
    have keep2 : ∀ b o, b ≠ S → h'.get? b = some o → (((h'.push { cls := .type "list", data := .seq (acc.toArray ++ (els i).toArray) }).update S (Obj.mapSeq fun _ => #[Value.ref h'.objs.size])).update S (Obj.mapSeq fun _ => #[Value.ref h'.objs.size])).get? b = some o := fun b o hb e =>
      keep b o hb (Heap.get?_push_of_some _ e)
    have eacc : acc.toArray ++ (els i).toArray = (acc ++ els i).toArray := by simp
    refine wpAny_bind (wpAny_updateSeq hS2 rfl (wpAny_pure ⟨plainId_quiet F.plain_sum_loop _, ih (i + 1) _ h'.objs.size (acc ++ els i) 0 _ (by omega) hlt (hst'.at fun o e => keep2 I o hIS e) ?_ ?_ hS3 ?_ nT nS ?_ fun h2 T2 n2 k2 hT2 hor => ?_⟩))
    · obtain ⟨o, e, r⟩ := hl
      exact ⟨o, keep2 l o hlS (kb l o hlI e), r⟩
    · intro j x hx
      obtain ⟨a2, m2, e2, g2, z1, z2⟩ := hel j x hx
      exact ⟨a2, m2, e2, keep2 a2 _ z2 (kb a2 _ z1 g2), z1, z2⟩
    · rw [← eacc]
      exact keep _ _ nS (Heap.get?_push_size _ rfl)
    · rw [List.length_append]
      omega
    · refine hR h2 T2 n2 (fun b o h1 h3 e => k2 b o h1 h3 (keep2 b o h3 (kb b o h1 e))) ?_ (.inr ?_)
      · simp only [catF]
        rw [← List.append_assoc]
        exact hT2
      · rcases hor with ⟨rfl, _⟩ | h
        · omega
        · have z : (((h'.push { cls := .type "list", data := .seq (acc.toArray ++ (els i).toArray) }).update S (Obj.mapSeq fun _ => #[Value.ref h'.objs.size])).update S (Obj.mapSeq fun _ => #[Value.ref h'.objs.size])).objs.size = h'.objs.size + 1 := by
            rw [Heap.size_update, Heap.size_update]
            simp [Heap.push]
          have h4 : (((h'.push { cls := .type "list", data := .seq (acc.toArray ++ (els i).toArray) }).update S (Obj.mapSeq fun _ => #[Value.ref h'.objs.size])).update S (Obj.mapSeq fun _ => #[Value.ref h'.objs.size])).objs.size ≤ T2 := h
          omega
end
section
variable {prog : Program} {w : World} {A : Around} {E : Value → Shared → Prop} {s : Shared} {l T : Addr} {its : Array Value} {els : Nat → List Value}
theorem call_sum {Q : Value → Shared → Prop} {n : Nat} {acc : List Value} (hh : A.handled = none) (hl : s.heap.IsList l its) (hel : ∀ j x, its[j]? = some x → ∃ a m, x = .ref a ∧ IsL s.heap a (els j).toArray m) (hT : IsL s.heap T acc.toArray n)
    (hz : acc.length + (catF els its.size 0).length ≤ sizeLine)
    (h : ∀ h' T' n', (∀ b o, s.heap.get? b = some o → h'.get? b = some o) → IsL h' T' (acc ++ catF els its.size 0).toArray n' → (T' = T ∧ its.size = 0 ∨ s.heap.objs.size ≤ T') → Q (.ref T') { s with heap := h' }) :
    wpAny (model prog w) A (call (.builtin "sum") [.ref l, .ref T]) Q E s := by
  have ll : l < s.heap.objs.size := by
    obtain ⟨_, e, _⟩ := hl
    exact Heap.lt_size e
  have lT : T < s.heap.objs.size := Heap.lt_size hT
  refine call_function_tree F.kind_sum F.plain_sum F.entry_sum (args_sum2 _ _) ?_
  unfold Builtin.«sum»
  simp only [List.length_cons, List.length_nil]
  rw [if_neg (by decide)]
  refine wpAny_bind (wpAny_of_eq (show Builtin.Builtins.bindParams "sum" ["start"] 0 ⟨[.ref T], []⟩ = pure [some (.ref T)] from rfl) ?_)
  refine wpAny_bind (wpAny_pyIter_list hl ?_)
  refine wpAny_bind (wpAny_pure ?_)
  simp only [List.forIn_cons, List.forIn_nil]
  have hT1 : IsL (s.heap.push { cls := .type "list_iterator", data := .fields #[.ref l, .int 0 0] }) T acc.toArray n := Heap.get?_push_of_some _ hT
  have ty : (Shared.TypeIs { s with heap := s.heap.push { cls := .type "list_iterator", data := .fields #[.ref l, .int 0 0] } } (.ref T) "list") := ⟨_, hT1, rfl⟩
  refine wpAny_bind (wpAny_bind (wpAny_bind (wpAny_isInstance (T := "list") (b := false) ty F.sub_list_str ?_)))
  simp only [Bool.false_eq_true, if_false]
  refine wpAny_pure (wpAny_bind (wpAny_bind (wpAny_isInstance (T := "list") (b := false) ty F.sub_list_bytes ?_)))
  simp only [Bool.false_eq_true, if_false]
  refine wpAny_pure (wpAny_bind (wpAny_bind (wpAny_isInstance (T := "list") (b := false) ty (show isSubtype (.type "list") (.type "bytearray") = pure false by rw [isSubtype_type]; kernel_rfl) ?_)))
  simp only [Bool.false_eq_true, if_false]
  refine wpAny_pure (wpAny_pure ?_)
  refine wpAny_bind (wpAny_newObj_type ?_)
  have sz1 : (s.heap.push { cls := .type "list_iterator", data := .fields #[.ref l, .int 0 0] }).objs.size = s.heap.objs.size + 1 := by simp [Heap.push]
  have k1 : ∀ b o, s.heap.get? b = some o → (s.heap.push { cls := .type "list_iterator", data := .fields #[.ref l, .int 0 0] }).get? b = some o := fun b o e => Heap.get?_push_of_some _ e
  have g1 : (s.heap.push { cls := .type "list_iterator", data := .fields #[.ref l, .int 0 0] }).get? s.heap.objs.size = some { cls := .type "list_iterator", data := .fields #[.ref l, .int 0 0] } := Heap.get?_push_size _ rfl
  generalize (s.heap.push { cls := .type "list_iterator", data := .fields #[.ref l, .int 0 0] }) = H1 at *
  have k2 : ∀ b o, H1.get? b = some o → (H1.push { cls := .type "list", dict := none, data := .seq #[.ref T] }).get? b = some o := fun b o e => Heap.get?_push_of_some _ e
  have lt1 : ∀ b o, s.heap.get? b = some o → b < s.heap.objs.size := fun b o e => Heap.lt_size e
  refine wpAny_pure ⟨plainId_quiet F.plain_sum_loop _, code_loop (l := l) (S := H1.objs.size) (its := its) (els := els) hh ?_ ?_ ?_ its.size 0 _ T acc n 0 (Nat.sub_zero _) (Nat.zero_le _) ?_ ?_ ?_ ?_ (k2 _ _ hT1) ?_ ?_ hz fun h' T' n' kk hT' hor => ?_⟩
  · rw [sz1]
    exact Nat.ne_of_lt (Nat.lt_succ_self _)
  · exact Nat.ne_of_lt ll
  · rw [sz1]
    exact Nat.ne_of_lt (Nat.lt_succ_of_lt ll)
  · exact ⟨_, k2 _ _ g1, rfl, rfl⟩
  · obtain ⟨o, e, r⟩ := hl
    exact ⟨o, k2 _ _ (k1 _ _ e), r⟩
  · intro j x hx
    obtain ⟨a, m, e, g⟩ := hel j x hx
    have la := lt1 _ _ g
    refine ⟨a, m, e, k2 _ _ (k1 _ _ g), Nat.ne_of_lt la, ?_⟩
    rw [sz1]
    exact Nat.ne_of_lt (Nat.lt_succ_of_lt la)
  · exact Heap.get?_push_size _ rfl
  · exact Nat.ne_of_lt lT
  · rw [sz1]
    exact Nat.ne_of_lt (Nat.lt_succ_of_lt lT)
  · refine h h' T' n' (fun b o e => ?_) hT' ?_
    · have lb := lt1 _ _ e
      refine kk b o (Nat.ne_of_lt lb) ?_ (k2 _ _ (k1 _ _ e))
      rw [sz1]
      exact Nat.ne_of_lt (Nat.lt_succ_of_lt lb)
    · rcases hor with hor | hor
      · exact .inl hor
      · refine .inr (Nat.le_trans ?_ hor)
        show s.heap.objs.size ≤ (H1.push { cls := .type "list", dict := none, data := .seq #[.ref T] }).objs.size
        simp only [Heap.push, Array.size_push]
        omega
end
/-! ### in the abstract heap -/
theorem vals_refs {as : List Addr} {us : List Value} (r : Vals (as.map V.ref) us) : us = as.map Value.ref := by
  induction as generalizing us with
  | nil => cases r; rfl
  | cons a as ih =>
    cases r with
    | cons r1 r2 =>
      cases r1
      rw [ih r2]
      rfl
/-- sum(a, b), a a list of tracked lists, b a tracked list -/
def rSumL : List V → Hp → VK → Prop := fun vs H Q => ∃ (a b : Addr) (as : List Addr) (yss : List (List V)) (acc : List V), vs = [.ref a, .ref b] ∧ H a = some (.lst (as.map V.ref)) ∧ Paired (fun c ys => H c = some (.lst ys)) as yss ∧ H b = some (.lst acc) ∧
  acc.length + yss.flatten.length ≤ sizeLine ∧ ∀ p H', p = b ∨ H p = none → Same H H' → H' p = some (.lst (acc ++ yss.flatten)) → Q (.ref p) H'
theorem call_sumL {X : Cx} (hc : X.calm = true) : CallR X (.builtin "sum") rSumL := by
  intro pins s σ H vs us Q I r h
  obtain ⟨a, b, as, yss, acc, rfl, ha, hp, hb, hz, q⟩ := h
  obtain ⟨u1, u2, rfl, r1, r2⟩ := vals2 r
  cases r1
  cases r2
  obtain ⟨z1, its, n1, rv, l1, e1⟩ := I.lstM ha
  obtain ⟨z2, itb, n2, rb, l2, e2⟩ := I.lstM hb
  have ei := vals_refs rv
  -- the lists' items
  have ex : ∀ (as : List Addr) (yss : List (List V)), Paired (fun c ys => H c = some (.lst ys)) as yss → ∃ els : List (List Value), Paired (fun (ys : List V) (us : List Value) => Vals ys us) yss els ∧ ∀ (j : Nat) (c : Addr), as[j]? = some c → ∃ m, IsL s.heap c ((els[j]?).getD []).toArray m := by
    intro as yss hp
    induction hp with
    | nil => exact ⟨[], .nil, fun j c h => by simp at h⟩
    | cons h t ih =>
      obtain ⟨els, p1, p2⟩ := ih
      obtain ⟨_, it, m, rt, _, et⟩ := I.lstM h
      refine ⟨it :: els, .cons rt p1, fun j c hj => ?_⟩
      cases j with
      | zero =>
        simp only [List.getElem?_cons_zero, Option.some.injEq] at hj
        subst hj
        exact ⟨m, et⟩
      | succ j =>
        simp only [List.getElem?_cons_succ] at hj ⊢
        exact p2 j c hj
  obtain ⟨els, pe, pl⟩ := ex as yss hp
  have lp : ∀ {α β : Type} {P : α → β → Prop} {xs : List α} {ys : List β}, Paired P xs ys → xs.length = ys.length := fun h => by
    induction h with
    | nil => rfl
    | cons _ _ ih => simp only [List.length_cons]; omega
  have la : as.length = els.length := (lp hp).trans (lp pe)
  have lits : its.toArray.size = els.length := by
    rw [List.size_toArray, ei, List.length_map, la]
  have ec : ∀ (k i : Nat), i + k = els.length → catF (fun j => (els[j]?).getD []) k i = (els.drop i).flatten := by
    intro k
    induction k with
    | zero =>
      intro i h
      rw [List.drop_eq_nil_of_le (by omega)]
      rfl
    | succ k ih =>
      intro i h
      have hi : i < els.length := by omega
      rw [List.drop_eq_getElem_cons hi, List.flatten_cons, ← ih (i + 1) (by omega)]
      simp only [catF]
      rw [List.getElem?_eq_getElem hi]
      rfl
  have ecat : catF (fun j => (els[j]?).getD []) its.toArray.size 0 = els.flatten := by
    rw [ec _ 0 (by omega)]
    rfl
  have vf : ∀ {yss : List (List V)} {els : List (List Value)}, Paired (fun (ys : List V) (us : List Value) => Vals ys us) yss els → Vals yss.flatten els.flatten := fun h => by
    induction h with
    | nil => exact .nil
    | cons h _ ih =>
      simp only [List.flatten_cons]
      exact h.append ih
  have rvf := vf pe
  have rall := rb.append rvf
  have lf := rvf.length
  have lall := rall.length
  refine call_sum (s := s) (els := fun j => (els[j]?).getD []) (I.ok.hd hc) (l := a) (T := b) (its := its.toArray) (acc := itb) ⟨_, e1, rfl, _, rfl⟩ (fun j x hx => ?_) e2 (by rw [ecat, ← lf, ← l2]; exact hz) fun h' T' n' kk hT' hor => ?_
  · rw [ei] at hx
    simp only [List.getElem?_toArray, List.getElem?_map] at hx
    obtain ⟨c, hc1, rfl⟩ := Option.map_eq_some_iff.mp hx
    obtain ⟨m, hm⟩ := pl j c hc1
    exact ⟨c, m, rfl, hm⟩
  · rw [ecat] at hT'
    rcases hor with ⟨rfl, h0⟩ | hge
    · have e0 : els = [] := by
        rw [lits] at h0
        exact List.eq_nil_of_length_eq_zero h0
      have y0 : yss = [] := by
        have := lp pe
        rw [e0] at this
        exact List.eq_nil_of_length_eq_zero this
      refine ⟨.ref T', H, I.kept (t' := s.toks) kk, rfl, q T' H (.inl rfl) (Same.refl _) ?_⟩
      rw [y0]
      simpa using hb
    · have nT := I.hok.fresh hge
      refine ⟨.ref T', upd H T' (.lst (acc ++ yss.flatten)), I.laid (t' := s.toks) kk hge ⟨by rw [List.length_append]; exact hz, itb ++ els.flatten, n', rall, hT'⟩, rfl, q T' _ (.inr nT) (fun b o e => ?_) upd_same⟩
      rw [upd_ne (ne_of_none e nT)]
      exact e
end LSum
namespace My
open PySem PySem.Spec PyProof.Rows L2
/-! ### the text -/
def top (i : Nat) : Stmt := PySem.Challenge.pw_mendedruns_k03_whole_values_of_expressio.main.body.getD i (.Pass ⟨0, 0, 0, 0⟩)
abbrev sKind : Stmt := top 12
abbrev sIsValue : Stmt := top 13
abbrev sIsPlain : Stmt := top 14
abbrev sIsText : Stmt := top 15
abbrev sHasOnly : Stmt := top 16
abbrev sIsList : Stmt := top 17
abbrev sIsKey : Stmt := top 18
abbrev sIsName : Stmt := top 19
abbrev sIsState : Stmt := top 20
abbrev sPool : Stmt := top 41
abbrev sDraw : Stmt := top 42
abbrev sIsVars : Stmt := top 21
abbrev sEqual : Stmt := top 22
abbrev sEvaluate : Stmt := top 28
abbrev sNamesIn : Stmt := top 29
abbrev sCheckE : Stmt := top 30
abbrev sIsExpr : Stmt := top 31
abbrev sNested : Stmt := top 32
abbrev sIsForm : Stmt := top 33
abbrev sWritten : Stmt := top 34
abbrev sEvaluated : Stmt := top 35
abbrev sLooked : Stmt := top 36
abbrev sApplied : Stmt := top 37
abbrev sKinds : Stmt := top 38
abbrev sResult : Stmt := top 39
theorem scPool : FnScope ["_law_script", "_law_k", "_law_cell", "_law_great", "_law_mixed"] ["_law_script", "_law_k"] (defScope sPool) := ⟨rfl, rfl, rfl, by decide +kernel, rfl, by decide +kernel, by decide +kernel⟩
theorem scDraw : FnScope ["_law_pool_here", "_law_many", "_law_found"] ["_law_pool_here", "_law_many"] (defScope sDraw) := ⟨rfl, rfl, rfl, by decide +kernel, rfl, by decide +kernel, by decide +kernel⟩

/-! ### heaps -/
theorem same_upd {H : Hp} {p : Addr} {o : HO} (h : H p = none) : Same H (upd H p o) := fun b x e => by
  rw [upd_ne (ne_of_none e h)]
  exact e
/-- all that stands elsewhere than at p stays -/
def Off (p : Addr) (H H' : Hp) : Prop := ∀ b o, b ≠ p → H b = some o → H' b = some o
theorem Off.refl (p : Addr) (H : Hp) : Off p H H := fun _ _ _ e => e
theorem Off.trans {p : Addr} {H H1 H2 : Hp} (a : Off p H H1) (b : Off p H1 H2) : Off p H H2 := fun c o n e => b c o n (a c o n e)
theorem Off.of_same {p : Addr} {H H' : Hp} (s : Same H H') : Off p H H' := fun b o _ e => s b o e
theorem Off.upd {p : Addr} {H : Hp} {o : HO} : Off p H (upd H p o) := fun b u n e => by
  rw [upd_ne n]
  exact e
/-- a pool: two numbers -/
def PoolAt (H : Hp) (p : Addr) : Prop := ∃ g m : Int, H p = some (.lst [.int g, .int m]) ∧ 0 ≤ g ∧ 0 ≤ m ∧ m < 2147483647
theorem PoolAt.same {H H' : Hp} {p : Addr} (P : PoolAt H p) (s : Same H H') : PoolAt H' p := by
  obtain ⟨g, m, e, h⟩ := P
  exact ⟨g, m, s _ _ e, h⟩
theorem cut63 {ns : List Int} (h : ns.length ≤ 63) : cutV (ns.map V.int) none (some 63) = ns.map V.int := by
  unfold cutV
  rw [HT.sIx_none, show HT.sIx (ns.map V.int).length (ns.map V.int).length (some 63) = min 63 (ns.map V.int).length from HT.sIx_nat _ _ 63]
  rw [List.drop_zero, List.length_map, Nat.min_eq_right h, Nat.sub_zero]
  exact List.take_of_length_le (by rw [List.length_map]; exact Nat.le_refl _)

structure TxtP (mg : Str → Option Value) : Prop where
  sum : mg "sum" = none
  len : mg "len" = none
  abs : mg "abs" = none
  int : mg "int" = none

def spPool (K : PySem.W.Frag) : Sp := fun vs H Q _ => ∃ (a : Addr) (ns : List Int) (k : Nat), vs = [.ref a, .int (k : Int)] ∧ SqL K H a (ns.map V.int) ∧ ns.length ≤ 63 ∧ k < 64 ∧
  ∀ H' p, Same H H' → H p = none → PoolAt H' p → Q (.ref p) H'
def spDraw : Sp := fun vs H Q _ => ∃ (p : Addr) (n : Int), vs = [.ref p, .int n] ∧ 0 < n ∧ n < 1000 ∧ PoolAt H p ∧
  ∀ (r : Int) (g m : Int), 0 ≤ r → r < n → 0 ≤ g → 0 ≤ m → m < 2147483647 → Q (.int r) (upd H p (.lst [.int g, .int m]))
section
variable {P : Program} {w : World} {K : PySem.W.Frag} {mg : Str → Option Value} {base : Heap}
theorem ok_pool {f : Addr} {fd : FuncData} (F : Fun K "_law_pool" "_law_pool" sPool f fd) (T : TxtP mg) : FnOk P w K mg base CX0 1 f fd ["_law_script", "_law_k"] (spPool K) := by
  refine F.ok scPool (fun vs H Q E h => ?_) (fun cdv A outer s H vs Q E hr h => ?_)
  · obtain ⟨a, ns, k, rfl, _⟩ := h
    rfl
  · obtain ⟨a, ns, k, rfl, hS, hlen, hk, q⟩ := h
    refine ⟨_, pss_cons (ps_set (i := 2) scPool.nd rfl (.inl rfl) (pe_op op_add (pe_op op_mul pe_int (pe_callB (cr_sum rfl) (by rfl) T.sum (by decide +kernel) (pa_cons (pe_slice sl_list (pv 0) po_none (po_some pe_int)) pa_nil))) (pv 1)))
      (C8.pss_cut (ps_if (pt_cmpR op_lt (pv 1) (pe_callB call_len_seq (by rfl) T.len PySem.boot_len (pa_cons (pv 0) pa_nil)) (nomark _)) (pss_one (ps_set (i := 2) scPool.nd rfl (.inl rfl) (pe_ix ix_list (pv 0) (pv 1) (fun _ _ => rfl)))) pss_nil)
      (pss_cons (ps_set (i := 3) scPool.nd rfl (.inl rfl) (pe_callB call_abs (by rfl) T.abs (by decide +kernel) (pa_cons (pv 2) pa_nil)))
      (pss_cons (ps_set (i := 4) scPool.nd rfl (.inl rfl) (pe_op op_mod (pe_op op_mul (pe_op op_add (pe_op op_add (pe_op op_add (pe_op op_mod (pv 3) pe_int) (pe_op op_mul (pe_op op_mul pe_int (pv 1)) (pv 1))) (pe_op op_mul pe_int (pv 1))) pe_int) pe_int) pe_int))
      (pss_one (ps_ret (pe_lst (pa_cons (pe_op op_mul (pv 3) (pe_callTy call_int1 (by rfl) T.int (by decide +kernel) (pa_cons (pe_cmpR op_ge (pv 3) (pe_op op_pow pe_int pe_int) (nomark _)) pa_nil))) (pa_cons (pe_op op_mod (pe_op op_mul (pv 4) (pv 4)) pe_int) pa_nil)))))))), ?_⟩
    refine ⟨.ref a, rfl, 63, rfl, a, _, rfl, hS, fun p np => ?_⟩
    rw [cut63 hlen]
    have s1 : Same H (upd H p (.lst (ns.map V.int))) := same_upd np
    refine ⟨p, ns, rfl, .inl (.inl upd_same), _, _, rfl, rfl, .inl ⟨by decide, by decide⟩, _, rfl, _, _, rfl, rfl, ?_⟩
    refine ⟨fun σ H' => H' = upd H p (.lst (ns.map V.int)) ∧ ∃ c : Int, σ = [some (.ref a), some (.int k), some (.int c), none, none], ?_, ?_⟩
    · refine ⟨_, rfl, _, rfl, a, _, rfl, .inl (s1.seq hS), _, _, rfl, rfl, _, rfl, ?_⟩
      refine ite2 (fun hc => ?_) (fun _ => ?_)
      · have hc' := of_decide_eq_true hc
        rw [List.length_map] at hc'
        have hkn : k < ns.length := by omega
        refine ⟨_, rfl, _, rfl, a, _, _, .int ns[k], rfl, rfl, s1.seq hS, atI_nat ?_, ?_⟩
        · rw [List.getElem?_map, List.getElem?_eq_getElem hkn]
          rfl
        · exact ⟨rfl, ns[k], rfl⟩
      · exact ⟨rfl, _, rfl⟩
    · rintro σ' H' ⟨rfl, c, rfl⟩
      refine ⟨_, rfl, c, rfl, ?_⟩
      have hg : ∃ g : Int, (if c < 0 then -c else c) = g ∧ 0 ≤ g := ⟨_, rfl, by split <;> omega⟩
      obtain ⟨g, eg, hg⟩ := hg
      rw [eg]
      refine ⟨_, rfl, _, _, rfl, rfl, by show (0 : Int) < 2147483629; decide, ?_⟩
      refine ⟨_, rfl, _, _, rfl, rfl, .inl ⟨by decide, by decide⟩, _, rfl, _, _, rfl, rfl, .inr ⟨by omega, by omega⟩, _, _, rfl, rfl, ?_⟩
      refine ⟨_, rfl, _, _, rfl, rfl, .inl ⟨by decide, by decide⟩, _, _, rfl, rfl, _, _, rfl, rfl, _, _, rfl, rfl, .inr ⟨by decide, by decide⟩, _, _, rfl, rfl, by show (0 : Int) < 2147483647; decide, ?_⟩
      have hm := Int.emod_nonneg ((g % 2147483629 + 7919 * (k : Int) * (k : Int) + 31 * (k : Int) + 17) * 48271) (show (2147483647 : Int) ≠ 0 by decide)
      have hm2 := Int.emod_lt_of_pos ((g % 2147483629 + 7919 * (k : Int) * (k : Int) + 31 * (k : Int) + 17) * 48271) (show (0 : Int) < 2147483647 by decide)
      generalize em : (g % 2147483629 + 7919 * (k : Int) * (k : Int) + 31 * (k : Int) + 17) * 48271 % 2147483647 = m at hm hm2
      refine ⟨_, rfl, _, rfl, _, _, rfl, rfl, ⟨by decide, by decide, by decide⟩, _, _, rfl, rfl, .inr ⟨_, rfl, _, _, rfl, rfl, .inr ?_, ?_⟩⟩
      · split <;> exact ⟨by decide, by decide⟩
      refine ⟨_, rfl, _, rfl, _, _, rfl, rfl, .inl ⟨by omega, by omega⟩, _, _, rfl, rfl, by show (0 : Int) < 2147483629; decide, ?_⟩
      refine ⟨by show 2 ≤ sizeLine; decide, fun p2 np2 => ?_⟩
      have np2' : H p2 = none := s1.free np2
      refine q _ p2 (s1.trans (same_upd np2)) np2' ⟨_, _, upd_same, ?_, Int.emod_nonneg _ (by decide), ?_⟩
      · exact Int.mul_nonneg hg (by split <;> decide)
      · have h3 := Int.emod_lt_of_pos (m * m) (show (0 : Int) < 2147483629 by decide)
        omega
theorem ok_draw {f : Addr} {fd : FuncData} (F : Fun K "_law_draw" "_law_draw" sDraw f fd) : FnOk P w K mg base CX0 1 f fd ["_law_pool_here", "_law_many"] spDraw := by
  refine F.ok scDraw (fun vs H Q E h => ?_) (fun cdv A outer s H vs Q E hr h => ?_)
  · obtain ⟨p, n, rfl, _⟩ := h
    rfl
  · obtain ⟨p, n, rfl, hn, hn2, ⟨g, m, hp, hg, hm, hm2⟩, q⟩ := h
    refine ⟨_, pss_cons (ps_if (pt_cmpR op_gt (pe_ix ix_list (pv 0) pe_int (fun _ _ => rfl)) pe_int (nomark _))
        (pss_cons (ps_set (i := 2) scDraw.nd rfl (.inl rfl) (pe_op op_mod (pe_ix ix_list (pv 0) pe_int (fun _ _ => rfl)) (pv 1)))
        (pss_cons (ps_asg (pe_op op_fdiv (pe_ix ix_list (pv 0) pe_int (fun _ _ => rfl)) (pv 1)) (pg_sub (pv 0) pe_int set_list))
        (pss_one (ps_ret (pv 2))))) pss_nil)
      (pss_cons (ps_asg (pe_op op_mod (pe_op op_add (pe_op op_mul (pe_ix ix_list (pv 0) pe_int (fun _ _ => rfl)) pe_int) pe_int) pe_int) (pg_sub (pv 0) pe_int set_list))
      (pss_one (ps_ret (pe_op op_mod (pe_op op_fdiv (pe_op op_mod (pe_op op_mul (pe_ix ix_list (pv 0) pe_int (fun _ _ => rfl)) (pe_ix ix_list (pv 0) pe_int (fun _ _ => rfl))) pe_int) pe_int) (pv 1))))), ?_⟩
    have at0 : atI [V.int g, V.int m] 0 = some (.int g) := rfl
    have at1 : atI [V.int g, V.int m] 1 = some (.int m) := rfl
    have hS : SqL K H p [V.int g, V.int m] := SqL.of hp
    refine ⟨_, rfl, p, _, _, _, rfl, rfl, hS, at0, _, _, rfl, rfl, _, rfl, ?_⟩
    refine ite2 (fun hc => ?_) (fun _ => ?_)
    · refine ⟨_, rfl, p, _, _, _, rfl, rfl, hS, at0, _, rfl, _, _, rfl, rfl, hn, ?_⟩
      refine ⟨_, rfl, p, _, _, _, rfl, rfl, hS, at0, _, rfl, _, _, rfl, rfl, ⟨hn, by omega⟩, ?_⟩
      refine ⟨_, rfl, p, _, _, 0, rfl, rfl, hp, rfl, ?_⟩
      refine ⟨_, rfl, ?_⟩
      exact q _ _ _ (Int.emod_nonneg _ (by omega)) (Int.emod_lt_of_pos _ hn) (Int.ediv_nonneg hg (by omega)) hm hm2
    · refine ⟨_, rfl, p, _, _, _, rfl, rfl, hS, at1, _, _, rfl, rfl, .inr ⟨by decide, by decide⟩, _, _, rfl, rfl, _, _, rfl, rfl, by show (0 : Int) < 2147483647; decide, ?_⟩
      refine ⟨_, rfl, p, _, _, 1, rfl, rfl, hp, rfl, ?_⟩
      have hy := Int.emod_nonneg (m * 48271 + 11) (show (2147483647 : Int) ≠ 0 by decide)
      have hy2 := Int.emod_lt_of_pos (m * 48271 + 11) (show (0 : Int) < 2147483647 by decide)
      have hS2 : SqL K (upd H p (.lst [V.int g, V.int ((m * 48271 + 11) % 2147483647)])) p [V.int g, V.int ((m * 48271 + 11) % 2147483647)] := SqL.of upd_same
      have at2 : atI [V.int g, V.int ((m * 48271 + 11) % 2147483647)] 1 = some (.int ((m * 48271 + 11) % 2147483647)) := rfl
      refine ⟨_, rfl, p, _, _, _, rfl, rfl, hS2, at2, _, rfl, p, _, _, _, rfl, rfl, hS2, at2, _, _, rfl, rfl, .inl ⟨by omega, by omega⟩, _, _, rfl, rfl, by show (0 : Int) < 2147483629; decide, _, _, rfl, rfl, ⟨by decide, by decide⟩, _, rfl, _, _, rfl, rfl, hn, ?_⟩
      exact q _ _ _ (Int.emod_nonneg _ (by omega)) (Int.emod_lt_of_pos _ hn) hg hy hy2
end
end My
namespace My
open PySem PySem.Spec PyProof.Rows L2
/-! ### things -/
inductive T where
  | non | bl (b : Bool) | int (i : Int) | str (x : Str) | oth (d : Bool) | tup (ts : List T)
mutual
/-- the thing t is the value v at the heap -/
def Th (H : Hp) : T → V → Prop
  | .non, v => v = .non
  | .bl b, v => v = .bl b
  | .int i, v => v = .int i
  | .str x, v => v = .str x
  | .oth d, v => ∃ a, v = .ref a ∧ if d = true then ∃ kvs, H a = some (.dK kvs) else ∃ xs, H a = some (.lst xs)
  | .tup ts, v => ∃ a xs, v = .ref a ∧ H a = some (.tup xs) ∧ xs.length < 1000 ∧ ThAll H ts xs
def ThAll (H : Hp) : List T → List V → Prop
  | [], vs => vs = []
  | t :: ts, vs => ∃ v r, vs = v :: r ∧ Th H t v ∧ ThAll H ts r
end
theorem thAll_len {H : Hp} : ∀ {ts : List T} {vs : List V}, ThAll H ts vs → ts.length = vs.length
  | [], _, h => by
    unfold ThAll at h
    rw [h]
    rfl
  | t :: ts, _, h => by
    unfold ThAll at h
    obtain ⟨v, r, rfl, _, h2⟩ := h
    rw [List.length_cons, List.length_cons, thAll_len h2]
mutual
theorem Th.keep {H H' : Hp} (k : ∀ b o, (∀ l, o ≠ .lst l) → H b = some o → H' b = some o) (kl : ∀ b l, H b = some (.lst l) → ∃ l', H' b = some (.lst l')) : ∀ (t : T) (v : V), Th H t v → Th H' t v
  | .non, _, h => h
  | .bl _, _, h => h
  | .int _, _, h => h
  | .str _, _, h => h
  | .oth d, _, h => by
    unfold Th at h ⊢
    obtain ⟨a, e, h⟩ := h
    refine ⟨a, e, ?_⟩
    cases d with
    | true =>
      obtain ⟨kvs, h⟩ := h
      exact ⟨kvs, k _ _ (fun l q => nomatch q) h⟩
    | false =>
      obtain ⟨xs, h⟩ := h
      exact kl _ _ h
  | .tup ts, _, h => by
    unfold Th at h ⊢
    obtain ⟨a, xs, e, h1, h2, h3⟩ := h
    exact ⟨a, xs, e, k _ _ (fun l q => nomatch q) h1, h2, ThAll.keep k kl ts xs h3⟩
theorem ThAll.keep {H H' : Hp} (k : ∀ b o, (∀ l, o ≠ .lst l) → H b = some o → H' b = some o) (kl : ∀ b l, H b = some (.lst l) → ∃ l', H' b = some (.lst l')) : ∀ (ts : List T) (vs : List V), ThAll H ts vs → ThAll H' ts vs
  | [], _, h => h
  | t :: ts, _, h => by
    unfold ThAll at h ⊢
    obtain ⟨v, r, e, h1, h2⟩ := h
    exact ⟨v, r, e, Th.keep k kl t v h1, ThAll.keep k kl ts r h2⟩
end
theorem Th.same {H H' : Hp} (s : Same H H') (t : T) (v : V) (h : Th H t v) : Th H' t v := Th.keep (fun b o _ e => s b o e) (fun b l e => ⟨l, s b _ e⟩) t v h
theorem ThAll.same {H H' : Hp} (s : Same H H') (ts : List T) (vs : List V) (h : ThAll H ts vs) : ThAll H' ts vs := ThAll.keep (fun b o _ e => s b o e) (fun b l e => ⟨l, s b _ e⟩) ts vs h

/-! ### heaps that change mildly: lists stay lists, all else stays -/
structure Mild (H H' : Hp) : Prop where
  oth : ∀ b o, (∀ l, o ≠ .lst l) → H b = some o → H' b = some o
  lst : ∀ b l, H b = some (.lst l) → ∃ l', H' b = some (.lst l')
theorem Mild.refl (H : Hp) : Mild H H := ⟨fun _ _ _ e => e, fun _ l e => ⟨l, e⟩⟩
theorem Mild.of_same {H H' : Hp} (s : Same H H') : Mild H H' := ⟨fun b o _ e => s b o e, fun b l e => ⟨l, s b _ e⟩⟩
theorem Mild.trans {H H1 H2 : Hp} (a : Mild H H1) (b : Mild H1 H2) : Mild H H2 := ⟨fun c o n e => b.oth c o n (a.oth c o n e), fun c l e => by
  obtain ⟨l1, e1⟩ := a.lst c l e
  exact b.lst c l1 e1⟩
theorem Mild.updL {H : Hp} {D : Addr} {l l' : List V} (h : H D = some (.lst l)) : Mild H (upd H D (.lst l')) := ⟨fun b o n e => by
    rw [upd_ne (fun z => by rw [z, h] at e; cases e; exact n _ rfl)]
    exact e, fun b m e => by
    by_cases z : b = D
    · exact ⟨l', by rw [z, upd_same]⟩
    · exact ⟨m, by rw [upd_ne z]; exact e⟩⟩
theorem Mild.off {p : Addr} {H H' : Hp} (o : Off p H H') (h : PoolAt H p) (h' : PoolAt H' p) : Mild H H' := by
  obtain ⟨g, m, e, _⟩ := h
  obtain ⟨g', m', e', _⟩ := h'
  refine ⟨fun b u n eb => o b u (fun z => by rw [z, e] at eb; cases eb; exact n _ rfl) eb, fun b l eb => ?_⟩
  by_cases z : b = p
  · exact ⟨_, by rw [z]; exact e'⟩
  · exact ⟨l, o b _ z eb⟩
theorem Mild.th {H H' : Hp} (m : Mild H H') {t : T} {v : V} (h : Th H t v) : Th H' t v := Th.keep m.oth m.lst t v h
theorem Mild.thAll {H H' : Hp} (m : Mild H H') {ts : List T} {vs : List V} (h : ThAll H ts vs) : ThAll H' ts vs := ThAll.keep m.oth m.lst ts vs h
theorem thAll_snoc {H : Hp} {t : T} {v : V} (h : Th H t v) : ∀ {ts : List T} {vs : List V}, ThAll H ts vs → ThAll H (ts ++ [t]) (vs ++ [v])
  | [], vs, hs => by
    simp only [ThAll] at hs
    subst hs
    simp only [List.nil_append, ThAll]
    exact ⟨v, [], rfl, h, rfl⟩
  | t' :: ts, vs, hs => by
    simp only [ThAll] at hs
    obtain ⟨v', r, rfl, h1, h2⟩ := hs
    simp only [List.cons_append, ThAll]
    exact ⟨v', r ++ [v], rfl, h1, thAll_snoc h h2⟩
theorem thAll_get {H : Hp} : ∀ {ts : List T} {vs : List V} {i : Nat} (_ : ThAll H ts vs) (_ : i < ts.length), ∃ t v, ts[i]? = some t ∧ vs[i]? = some v ∧ Th H t v
  | [], _, _, _, h => by simp at h
  | t :: ts, vs, 0, hs, _ => by
    simp only [ThAll] at hs
    obtain ⟨v, r, rfl, h1, _⟩ := hs
    exact ⟨t, v, rfl, rfl, h1⟩
  | t :: ts, vs, i + 1, hs, h => by
    simp only [ThAll] at hs
    obtain ⟨v, r, rfl, _, h2⟩ := hs
    obtain ⟨t', v', e1, e2, h3⟩ := thAll_get (i := i) h2 (by simpa using h)
    exact ⟨t', v', by simpa using e1, by simpa using e2, h3⟩

theorem tYes_if {σ : L2.St} {H : Hp} {A B : Hp → Prop} (h : A H) : tYes σ H (fun b H3 => if b = true then A H3 else B H3) := by
  show (if true = true then A H else B H)
  rw [if_pos rfl]
  exact h
/-! ### kind_of -/
def kindS : T → Str
  | .non => "none"
  | .bl _ => "truth"
  | .int _ => "integer"
  | .str _ => "text"
  | .tup _ => "list"
  | .oth _ => "other"
structure TxtK (mg : Str → Option Value) : Prop where
  isi : mg "isinstance" = none
  bool : mg "bool" = none
  int : mg "int" = none
  str : mg "str" = none
  tuple : mg "tuple" = none
theorem scKind : FnScope ["value"] ["value"] (defScope sKind) := ⟨rfl, rfl, rfl, by decide +kernel, rfl, by decide +kernel, by decide +kernel⟩
def spKind : Sp := fun vs H Q _ => ∃ (t : T) (v : V), vs = [v] ∧ Th H t v ∧ Q (.str (kindS t)) H
section
variable {P : Program} {w : World} {K : PySem.W.Frag} {mg : Str → Option Value} {base : Heap}
theorem ok_kind {f : Addr} {fd : FuncData} (F : Fun K "kind_of" "kind_of" sKind f fd) (T : TxtK mg) : FnOk P w K mg base CX0 1 f fd ["value"] spKind := by
  refine F.ok scKind (fun vs H Q E h => ?_) (fun cdv A outer s H vs Q E hr h => ?_)
  · obtain ⟨t, v, rfl, _⟩ := h
    rfl
  · obtain ⟨t, v, rfl, ht, q⟩ := h
    refine ⟨_, pss_cons (ps_if (pt_cmpR op_isN (pv 0) pe_non (nomark _)) (pss_one (ps_ret pe_str)) pss_nil)
      (pss_cons (ps_if (pt_val (pe_callB call_isi (by rfl) T.isi PyProof.Rows.boot_isinstance (pa_cons (pv 0) (pa_cons (pe_bltn (v := .ty "bool") (by rfl) T.bool (by decide +kernel) rfl) pa_nil)))) (pss_one (ps_ret pe_str)) pss_nil)
      (pss_cons (ps_if (pt_val (pe_callB call_isi (by rfl) T.isi PyProof.Rows.boot_isinstance (pa_cons (pv 0) (pa_cons (pe_bltn (v := .ty "int") (by rfl) T.int (by decide +kernel) rfl) pa_nil)))) (pss_one (ps_ret pe_str)) pss_nil)
      (pss_cons (ps_if (pt_val (pe_callB call_isi (by rfl) T.isi PyProof.Rows.boot_isinstance (pa_cons (pv 0) (pa_cons (pe_bltn (v := .ty "str") (by rfl) T.str (by decide +kernel) rfl) pa_nil)))) (pss_one (ps_ret pe_str)) pss_nil)
      (pss_cons (ps_if (pt_val (pe_callB call_isi (by rfl) T.isi PyProof.Rows.boot_isinstance (pa_cons (pv 0) (pa_cons (pe_bltn (v := .ty "tuple") (by rfl) T.tuple (by decide +kernel) rfl) pa_nil)))) (pss_one (ps_ret pe_str)) pss_nil)
      (pss_one (ps_ret pe_str)))))), ?_⟩
    cases t with
    | non =>
      unfold Th at ht
      subst ht
      refine ⟨_, rfl, rfl, _, rfl, ?_⟩
      exact iteT q
    | bl b =>
      unfold Th at ht
      subst ht
      refine ⟨_, rfl, rfl, _, rfl, ?_⟩
      refine iteF ⟨_, rfl, _, _, _, _, true, rfl, .ty "bool", .base (.bl b), kit_ty (by decide +kernel), _, rfl, ?_⟩
      exact iteT q
    | int i =>
      unfold Th at ht
      subst ht
      refine ⟨_, rfl, rfl, _, rfl, ?_⟩
      refine iteF ⟨_, rfl, _, _, _, _, false, rfl, .ty "bool", .base (.int i), kit_ty (by decide +kernel), _, rfl, ?_⟩
      refine iteF ⟨_, rfl, _, _, _, _, true, rfl, .ty "int", .base (.int i), kit_ty (by decide +kernel), _, rfl, ?_⟩
      exact iteT q
    | str x =>
      unfold Th at ht
      subst ht
      refine ⟨_, rfl, rfl, _, rfl, ?_⟩
      refine iteF ⟨_, rfl, _, _, _, _, false, rfl, .ty "bool", .base (.str x), kit_ty (by decide +kernel), _, rfl, ?_⟩
      refine iteF ⟨_, rfl, _, _, _, _, false, rfl, .ty "int", .base (.str x), kit_ty (by decide +kernel), _, rfl, ?_⟩
      refine iteF ⟨_, rfl, _, _, _, _, true, rfl, .ty "str", .base (.str x), kit_ty (by decide +kernel), _, rfl, ?_⟩
      exact iteT q
    | tup ts =>
      unfold Th at ht
      obtain ⟨a, xs, rfl, e, _, _⟩ := ht
      refine ⟨_, rfl, rfl, _, rfl, ?_⟩
      refine iteF ⟨_, rfl, _, _, _, _, false, rfl, .ty "bool", .base (.tup e), kit_ty (by decide +kernel), _, rfl, ?_⟩
      refine iteF ⟨_, rfl, _, _, _, _, false, rfl, .ty "int", .base (.tup e), kit_ty (by decide +kernel), _, rfl, ?_⟩
      refine iteF ⟨_, rfl, _, _, _, _, false, rfl, .ty "str", .base (.tup e), kit_ty (by decide +kernel), _, rfl, ?_⟩
      refine iteF ⟨_, rfl, _, _, _, _, true, rfl, .ty "tuple", .base (.tup e), kit_ty (by decide +kernel), _, rfl, ?_⟩
      exact iteT q
    | oth d =>
      unfold Th at ht
      obtain ⟨a, rfl, e⟩ := ht
      have ty : ∃ n, TyOf K H (.ref a) (.type n) ∧ (n = "list" ∨ n = "dict") := by
        cases d with
        | true =>
          obtain ⟨kvs, e⟩ := e
          exact ⟨_, .dK e, .inr rfl⟩
        | false =>
          obtain ⟨xs, e⟩ := e
          exact ⟨_, .lst e, .inl rfl⟩
      obtain ⟨n, ty, hn⟩ := ty
      refine ⟨_, rfl, rfl, _, rfl, ?_⟩
      refine iteF ⟨_, rfl, _, _, _, _, false, rfl, .ty "bool", .base ty, kit_ty (by rcases hn with rfl | rfl <;> decide +kernel), _, rfl, ?_⟩
      refine iteF ⟨_, rfl, _, _, _, _, false, rfl, .ty "int", .base ty, kit_ty (by rcases hn with rfl | rfl <;> decide +kernel), _, rfl, ?_⟩
      refine iteF ⟨_, rfl, _, _, _, _, false, rfl, .ty "str", .base ty, kit_ty (by rcases hn with rfl | rfl <;> decide +kernel), _, rfl, ?_⟩
      refine iteF ⟨_, rfl, _, _, _, _, false, rfl, .ty "tuple", .base ty, kit_ty (by rcases hn with rfl | rfl <;> decide +kernel), _, rfl, ?_⟩
      exact iteF q
end
end My
namespace My
open PySem PySem.Spec PyProof.Rows L2
/-! ### what the program's functions say -/
def ltS : Str := "abcdefghijklmnopqrstuvwxyz"
def ldS : Str := "abcdefghijklmnopqrstuvwxyz0123456789"
def onlyS (x cs : Str) : Bool := decide (Txt.stripChars x cs = "")
def textS (x : Str) : Bool := !decide (60 < (x.length : Int)) && onlyS x ldS
def isText : T → Bool
  | .str x => textS x
  | _ => false
def isPlain : T → Bool
  | .int i => decide (-(10 ^ 60) < i) && decide (i < 10 ^ 60)
  | .str x => textS x
  | _ => false
def isTupT : T → Bool
  | .tup _ => true
  | _ => false
def kids : T → List T
  | .tup ts => ts
  | _ => []
def lev : Nat → List T → Nat → Bool
  | 0, ls, _ => ls.isEmpty
  | n + 1, ls, c =>
    let c' := c + (ls.map fun l => (kids l).length).sum
    if 50 < c' then false else
      let items := (ls.map kids).flatten
      if (items.filter fun t => !isTupT t).all isPlain then lev n (items.filter isTupT) c' else false
def isVal (t : T) : Bool := if isTupT t then lev 5 [t] 0 else isPlain t
def isKey (t : T) : Bool := match t with
  | .str x => textS x && decide (0 < (x.length : Int))
  | _ => false
def isName (t : T) : Bool := match t with
  | .str x => (textS x && decide (0 < (x.length : Int))) && (decide ((x.length : Int) ≤ 12) && onlyS x ltS)
  | _ => false
/-- texts are not too long -/
def short : T → Prop
  | .str x => x.length ≤ 1000
  | _ => True
structure TxtV (mg : Str → Option Value) : Prop where
  len : mg "len" = none
  lt : ∃ t, mg "LETTERS" = some (.str ltS t)
  ld : ∃ t, mg "LETTERS_AND_DIGITS" = some (.str ldS t)
  ib : ∃ t, mg "INTEGER_BOUND" = some (.int (10 ^ 60) t)
  mt : ∃ t, mg "LONGEST_TEXT" = some (.int 60 t)
  mn : ∃ t, mg "LONGEST_NAME" = some (.int 12 t)
theorem scHasOnly : FnScope ["text", "characters"] ["text", "characters"] (defScope sHasOnly) := ⟨rfl, rfl, rfl, by decide +kernel, rfl, by decide +kernel, by decide +kernel⟩
theorem scIsText : FnScope ["value"] ["value"] (defScope sIsText) := ⟨rfl, rfl, rfl, by decide +kernel, rfl, by decide +kernel, by decide +kernel⟩
theorem scIsPlain : FnScope ["value"] ["value"] (defScope sIsPlain) := ⟨rfl, rfl, rfl, by decide +kernel, rfl, by decide +kernel, by decide +kernel⟩
theorem scIsKey : FnScope ["value"] ["value"] (defScope sIsKey) := ⟨rfl, rfl, rfl, by decide +kernel, rfl, by decide +kernel, by decide +kernel⟩
theorem scIsName : FnScope ["value"] ["value"] (defScope sIsName) := ⟨rfl, rfl, rfl, by decide +kernel, rfl, by decide +kernel, by decide +kernel⟩
def spHasOnly : Sp := fun vs H Q _ => ∃ x cs : Str, vs = [.str x, .str cs] ∧ x.length ≤ 1000 ∧ Q (.bl (onlyS x cs)) H
def spB (g : T → Bool) : Sp := fun vs H Q _ => ∃ (t : T) (v : V), vs = [v] ∧ Th H t v ∧ short t ∧ Q (.bl (g t)) H
theorem dec_str (a b : Str) : decide (V.str a = V.str b) = decide (a = b) := by
  by_cases e : a = b
  · rw [e]
    simp
  · rw [decide_eq_false e, decide_eq_false fun q => e (V.str.inj q)]
theorem dec_ne {a b : Str} (h : ¬ a = b) : decide (V.str a = V.str b) = false := decide_eq_false fun q => h (V.str.inj q)
def isStrT : T → Bool
  | .str _ => true
  | _ => false
def isIntT : T → Bool
  | .int _ => true
  | _ => false
theorem kindS_text : ∀ t : T, decide (V.str (kindS t) = V.str "text") = isStrT t
  | .non => dec_ne (by simp only [kindS]; decide +kernel)
  | .bl _ => dec_ne (by simp only [kindS]; decide +kernel)
  | .int _ => dec_ne (by simp only [kindS]; decide +kernel)
  | .str _ => by simp [kindS, isStrT]
  | .oth _ => dec_ne (by simp only [kindS]; decide +kernel)
  | .tup _ => dec_ne (by simp only [kindS]; decide +kernel)
theorem kindS_int : ∀ t : T, decide (V.str (kindS t) = V.str "integer") = isIntT t
  | .non => dec_ne (by simp only [kindS]; decide +kernel)
  | .bl _ => dec_ne (by simp only [kindS]; decide +kernel)
  | .int _ => by simp [kindS, isIntT]
  | .str _ => dec_ne (by simp only [kindS]; decide +kernel)
  | .oth _ => dec_ne (by simp only [kindS]; decide +kernel)
  | .tup _ => dec_ne (by simp only [kindS]; decide +kernel)
theorem kindS_list : ∀ t : T, decide (V.str (kindS t) = V.str "list") = isTupT t
  | .non => dec_ne (by simp only [kindS]; decide +kernel)
  | .bl _ => dec_ne (by simp only [kindS]; decide +kernel)
  | .int _ => dec_ne (by simp only [kindS]; decide +kernel)
  | .str _ => dec_ne (by simp only [kindS]; decide +kernel)
  | .oth _ => dec_ne (by simp only [kindS]; decide +kernel)
  | .tup _ => by simp [kindS, isTupT]
section
variable {P : Program} {w : World} {K : PySem.W.Frag} {mg : Str → Option Value} {base : Heap}
theorem ok_hasOnly {f : Addr} {fd : FuncData} (F : Fun K "has_only" "has_only" sHasOnly f fd) : FnOk P w K mg base CX0 1 f fd ["text", "characters"] spHasOnly := by
  refine F.ok scHasOnly (fun vs H Q E h => ?_) (fun cdv A outer s H vs Q E hr h => ?_)
  · obtain ⟨x, cs, rfl, _⟩ := h
    rfl
  · obtain ⟨x, cs, rfl, hx, q⟩ := h
    refine ⟨_, pss_one (ps_ret (pe_cmpR op_eq (pe_m1 PySem.F.slot_str_strip PySem.F.type_str_strip mt_stripChars (pv 0) (pv 1)) pe_str (nomark _))), ?_⟩
    refine ⟨_, rfl, ⟨_, rfl⟩, _, rfl, x, cs, rfl, rfl, Nat.le_of_lt (small1000 hx), rfl, ?_⟩
    show Q (.bl (decide (V.str (Txt.stripChars x cs) = V.str ""))) H
    rw [dec_str]
    exact q
theorem ok_isText {f fK fO : Addr} {fd fdK fdO : FuncData} (F : Fun K "is_text" "is_text" sIsText f fd) (FK : Fun K "kind_of" "kind_of" sKind fK fdK) (bK : Binds K fdK ["value"] []) (gK : mg "kind_of" = some (.ref fK)) (TK : TxtK mg)
    (FO : Fun K "has_only" "has_only" sHasOnly fO fdO) (bO : Binds K fdO ["text", "characters"] []) (gO : mg "has_only" = some (.ref fO)) (T : TxtV mg) : FnOk P w K mg base CX0 2 f fd ["value"] (spB isText) := by
  have GK : FnOk P w K mg base CX0 1 fK fdK ["value"] spKind := ok_kind FK TK
  have GO : FnOk P w K mg base CX0 1 fO fdO ["text", "characters"] spHasOnly := ok_hasOnly FO
  obtain ⟨t1, m1⟩ := T.mt
  obtain ⟨t2, m2⟩ := T.ld
  refine F.ok scIsText (fun vs H Q E h => ?_) (fun cdv A outer s H vs Q E hr h => ?_)
  · obtain ⟨t, v, rfl, _⟩ := h
    rfl
  · obtain ⟨t, v, rfl, ht, hs, q⟩ := h
    refine ⟨_, pss_cons (ps_if (PW.pt (pw_or (pt_cmpR op_ne (pe_call GK hr rfl gK FK.kp bK .nil pass0 (pa_cons (pv 0) pa_nil)) pe_str (nomark _))
        (pw_or1 (pt_cmpR op_gt (pe_callB call_len_str (by rfl) T.len PySem.boot_len (pa_cons (pv 0) pa_nil)) (pe_glob (v := .int 60) rfl m1 ⟨_, rfl⟩) (nomark _))))) (pss_one (ps_ret pe_bl)) pss_nil)
      (pss_one (ps_ret (pe_call GO hr rfl gO FO.kp bO .nil pass0 (pa_cons (pv 0) (pa_cons (pe_glob (v := .str ldS) rfl m2 ⟨_, rfl⟩) pa_nil))))), ?_⟩
    refine ⟨_, rfl, t, v, rfl, ht, rfl, _, rfl, ?_⟩
    rw [kindS_text]
    cases t with
    | str x =>
      simp only [Th] at ht
      subst ht
      refine iteF ⟨_, rfl, x, rfl, Nat.le_of_lt (small1000 hs), _, _, rfl, rfl, _, rfl, ?_⟩
      refine ite2 (fun hc => ?_) (fun hc => ?_)
      · have e : isText (.str x) = false := by
          simp only [isText, textS]
          rw [hc]
          rfl
        rw [e] at q
        exact q
      · have e : isText (.str x) = onlyS x ldS := by
          simp only [isText, textS]
          rw [Bool.eq_false_iff.mpr hc]
          rfl
        rw [e] at q
        exact ⟨_, rfl, x, ldS, rfl, hs, q⟩
    | non => exact iteT q
    | bl b => exact iteT q
    | int i => exact iteT q
    | oth d => exact iteT q
    | tup ts => exact iteT q
theorem ok_isPlain {f fK fX : Addr} {fd fdK fdX : FuncData} (F : Fun K "is_plain_value" "is_plain_value" sIsPlain f fd) (FK : Fun K "kind_of" "kind_of" sKind fK fdK) (bK : Binds K fdK ["value"] []) (gK : mg "kind_of" = some (.ref fK)) (TK : TxtK mg)
    (FX : Fun K "is_text" "is_text" sIsText fX fdX) (bX : Binds K fdX ["value"] []) (gX : mg "is_text" = some (.ref fX)) (GX : FnOk P w K mg base CX0 2 fX fdX ["value"] (spB isText)) (T : TxtV mg) :
    FnOk P w K mg base CX0 3 f fd ["value"] (spB isPlain) := by
  have GK : FnOk P w K mg base CX0 1 fK fdK ["value"] spKind := ok_kind FK TK
  obtain ⟨t1, m1⟩ := T.ib
  refine F.ok scIsPlain (fun vs H Q E h => ?_) (fun cdv A outer s H vs Q E hr h => ?_)
  · obtain ⟨t, v, rfl, _⟩ := h
    rfl
  · obtain ⟨t, v, rfl, ht, hs, q⟩ := h
    refine ⟨_, pss_cons (ps_if (pt_cmpR op_eq (pe_call GK (hr.mono (by decide)) rfl gK FK.kp bK .nil pass0 (pa_cons (pv 0) pa_nil)) pe_str (nomark _))
        (pss_one (ps_ret (pe_chain op_lt op_lt (pe_un un_neg (pe_glob (v := .int (10 ^ 60)) rfl m1 ⟨_, rfl⟩)) (pv 0) (pe_glob (v := .int (10 ^ 60)) rfl m1 ⟨_, rfl⟩)))) pss_nil)
      (pss_one (ps_ret (pe_call GX hr rfl gX FX.kp bX .nil pass0 (pa_cons (pv 0) pa_nil)))), ?_⟩
    refine ⟨_, rfl, t, v, rfl, ht, rfl, _, rfl, ?_⟩
    rw [kindS_int]
    cases t with
    | int i =>
      simp only [Th] at ht
      subst ht
      refine iteT ⟨_, rfl, _, rfl, _, _, rfl, rfl, _, rfl, ?_⟩
      refine ite2 (fun hc => ?_) (fun hc => ?_)
      · refine ⟨_, _, rfl, rfl, ?_⟩
        have e : isPlain (.int i) = decide (i < 10 ^ 60) := by
          simp only [isPlain]
          rw [hc, Bool.true_and]
        rw [e] at q
        exact q
      · have e : isPlain (.int i) = false := by
          simp only [isPlain]
          rw [Bool.eq_false_iff.mpr hc, Bool.false_and]
        rw [e] at q
        exact q
    | str x => exact iteF ⟨_, rfl, .str x, v, rfl, ht, hs, q⟩
    | non => exact iteF ⟨_, rfl, .non, v, rfl, ht, hs, q⟩
    | bl b => exact iteF ⟨_, rfl, .bl b, v, rfl, ht, hs, q⟩
    | oth d => exact iteF ⟨_, rfl, .oth d, v, rfl, ht, hs, q⟩
    | tup ts => exact iteF ⟨_, rfl, .tup ts, v, rfl, ht, hs, q⟩
theorem ok_isKey {f fX : Addr} {fd fdX : FuncData} (F : Fun K "is_key" "is_key" sIsKey f fd)
    (FX : Fun K "is_text" "is_text" sIsText fX fdX) (bX : Binds K fdX ["value"] []) (gX : mg "is_text" = some (.ref fX)) (GX : FnOk P w K mg base CX0 2 fX fdX ["value"] (spB isText)) (T : TxtV mg) :
    FnOk P w K mg base CX0 3 f fd ["value"] (spB isKey) := by
  refine F.ok scIsKey (fun vs H Q E h => ?_) (fun cdv A outer s H vs Q E hr h => ?_)
  · obtain ⟨t, v, rfl, _⟩ := h
    rfl
  · obtain ⟨t, v, rfl, ht, hs, q⟩ := h
    refine ⟨_, pss_one (ps_ret (pe_and (pe_call GX hr rfl gX FX.kp bX .nil pass0 (pa_cons (pv 0) pa_nil)) (pe_one (pe_cmpR op_gt (pe_callB call_len_str (by rfl) T.len PySem.boot_len (pa_cons (pv 0) pa_nil)) pe_int (nomark _))))), ?_⟩
    refine ⟨_, rfl, t, v, rfl, ht, hs, _, rfl, ?_⟩
    cases t with
    | str x =>
      simp only [Th] at ht
      subst ht
      simp only [isText]
      refine ite2 (fun hc => ?_) (fun hc => ?_)
      · refine ⟨_, rfl, x, rfl, Nat.le_of_lt (small1000 hs), _, _, rfl, rfl, ?_⟩
        have e : isKey (.str x) = decide (0 < (x.length : Int)) := by
          simp only [isKey]
          rw [hc, Bool.true_and]
        rw [e] at q
        exact q
      · have e : isKey (.str x) = false := by
          simp only [isKey]
          rw [Bool.eq_false_iff.mpr hc, Bool.false_and]
        rw [e] at q
        exact q
    | non => exact iteF q
    | bl b => exact iteF q
    | int i => exact iteF q
    | oth d => exact iteF q
    | tup ts => exact iteF q
theorem ok_isName {f fY fO : Addr} {fd fdY fdO : FuncData} (F : Fun K "is_name" "is_name" sIsName f fd)
    (FY : Fun K "is_key" "is_key" sIsKey fY fdY) (bY : Binds K fdY ["value"] []) (gY : mg "is_key" = some (.ref fY)) (GY : FnOk P w K mg base CX0 3 fY fdY ["value"] (spB isKey))
    (FO : Fun K "has_only" "has_only" sHasOnly fO fdO) (bO : Binds K fdO ["text", "characters"] []) (gO : mg "has_only" = some (.ref fO)) (T : TxtV mg) :
    FnOk P w K mg base CX0 4 f fd ["value"] (spB isName) := by
  have GO : FnOk P w K mg base CX0 1 fO fdO ["text", "characters"] spHasOnly := ok_hasOnly FO
  obtain ⟨t1, m1⟩ := T.mn
  obtain ⟨t2, m2⟩ := T.lt
  refine F.ok scIsName (fun vs H Q E h => ?_) (fun cdv A outer s H vs Q E hr h => ?_)
  · obtain ⟨t, v, rfl, _⟩ := h
    rfl
  · obtain ⟨t, v, rfl, ht, hs, q⟩ := h
    refine ⟨_, pss_one (ps_ret (pe_and (pe_call GY hr rfl gY FY.kp bY .nil pass0 (pa_cons (pv 0) pa_nil)) (pe_and (pe_cmpR op_le (pe_callB call_len_str (by rfl) T.len PySem.boot_len (pa_cons (pv 0) pa_nil)) (pe_glob (v := .int 12) rfl m1 ⟨_, rfl⟩) (nomark _))
      (pe_one (pe_call GO (hr.mono (by decide)) rfl gO FO.kp bO .nil pass0 (pa_cons (pv 0) (pa_cons (pe_glob (v := .str ltS) rfl m2 ⟨_, rfl⟩) pa_nil))))))), ?_⟩
    refine ⟨_, rfl, t, v, rfl, ht, hs, _, rfl, ?_⟩
    cases t with
    | str x =>
      simp only [Th] at ht
      subst ht
      refine ite2 (fun hc => ?_) (fun hc => ?_)
      · refine ⟨_, rfl, x, rfl, Nat.le_of_lt (small1000 hs), _, _, rfl, rfl, _, rfl, ?_⟩
        have e : isName (.str x) = (decide ((x.length : Int) ≤ 12) && onlyS x ltS) := by
          simp only [isKey] at hc
          simp only [isName]
          rw [hc, Bool.true_and]
        rw [e] at q
        refine ite2 (fun hc2 => ?_) (fun hc2 => ?_)
        · rw [hc2, Bool.true_and] at q
          exact ⟨_, rfl, x, ltS, rfl, hs, q⟩
        · rw [Bool.eq_false_iff.mpr hc2, Bool.false_and] at q
          exact q
      · have e : isName (.str x) = false := by
          simp only [isKey] at hc
          simp only [isName]
          rw [Bool.eq_false_iff.mpr hc, Bool.false_and]
        rw [e] at q
        exact q
    | non => exact iteF q
    | bl b => exact iteF q
    | int i => exact iteF q
    | oth d => exact iteF q
    | tup ts => exact iteF q
end
end My
namespace My
open PySem PySem.Spec PyProof.Rows L2
def rLenK (K : PySem.W.Frag) : List V → Hp → VK → Prop := fun xs H Q => ∃ p ys, xs = [V.ref p] ∧ (SqL K H p ys ∨ SqT K H p ys) ∧ Q (.int ys.length) H
theorem call_lenK {X : Cx} {K : PySem.W.Frag} (h : X.K = K) : CallR X (.builtin "len") (rLenK K) := by
  subst h
  exact call_len_seq
/-! ### is_list -/
mutual
def shortA : T → Prop
  | .str x => x.length ≤ 1000
  | .tup ts => shortAll ts
  | _ => True
def shortAll : List T → Prop
  | [] => True
  | t :: ts => shortA t ∧ shortAll ts
end
theorem shortAll_mem : ∀ {ts : List T}, shortAll ts ↔ ∀ t ∈ ts, shortA t
  | [] => by simp [shortAll]
  | t :: ts => by
    simp only [shortAll, List.mem_cons, forall_eq_or_imp]
    rw [shortAll_mem]
theorem shortA.short {t : T} (h : shortA t) : short t := by
  cases t with
  | str x =>
    simp only [shortA] at h
    exact h
  | _ => exact True.intro
theorem shortA.kids {t : T} (h : shortA t) : ∀ u ∈ kids t, shortA u := by
  cases t with
  | tup ts =>
    simp only [shortA] at h
    exact shortAll_mem.mp h
  | _ => exact fun u hu => nomatch hu
theorem tup_of {t : T} (h : isTupT t = true) : t = .tup (kids t) := by
  cases t <;> first | rfl | (simp [isTupT] at h)
theorem th_tup {H : Hp} {t : T} {v : V} (h : isTupT t = true) (hv : Th H t v) : ∃ a ys, v = .ref a ∧ H a = some (.tup ys) ∧ ys.length < 1000 ∧ ThAll H (kids t) ys := by
  rw [tup_of h] at hv
  simp only [Th] at hv
  exact hv
theorem sum_cast : ∀ ls : List Nat, (ls.map (fun n : Nat => (n : Int))).sum = ((ls.sum : Nat) : Int)
  | [] => rfl
  | a :: ls => by
    rw [List.map_cons, List.sum_cons, List.sum_cons, sum_cast ls]
    omega
theorem flat_take (ls : List T) (i : Nat) (h : i < ls.length) : ((ls.take (i + 1)).map kids).flatten = ((ls.take i).map kids).flatten ++ kids ls[i] := by
  rw [List.take_add_one, List.getElem?_eq_getElem h, List.map_append, List.flatten_append]
  simp
theorem flat_len : ∀ ls : List T, ((ls.map kids).flatten).length = (ls.map fun l => (kids l).length).sum
  | [] => rfl
  | l :: ls => by
    rw [List.map_cons, List.flatten_cons, List.length_append, flat_len ls, List.map_cons, List.sum_cons]
theorem flat_le (ls : List T) (i : Nat) : (((ls.take i).map kids).flatten).length ≤ (ls.map fun l => (kids l).length).sum := by
  rw [flat_len, List.map_take]
  generalize ls.map (fun l => (kids l).length) = ns
  induction ns generalizing i with
  | nil => simp
  | cons n ns ih =>
    cases i with
    | zero => simp
    | succ i =>
      have := ih i
      simp only [List.take_succ_cons, List.sum_cons]
      omega
theorem flat_reading {K : PySem.W.Frag} {H0 : Hp} {A : Addr} {xs : List V} {ls : List T} {Q : VK} {s0 s2 s3 s4 s5 s6 s7 : Option V} (hA : H0 A = some (.lst xs)) (hth : ThAll H0 ls xs) (htup : ∀ l ∈ ls, isTupT l = true)
    (hsum : (ls.map fun l => (kids l).length).sum ≤ 50)
    (q : ∀ (D : Addr) (H' : Hp) (acc : List V), H0 D = none → Same H0 H' → H' D = some (.lst acc) → ThAll H0 (ls.map kids).flatten acc → Q (.ref D) H') :
    tLc2 (iList K (tVar 1)) (gName 6) tYes (iTup K (tVar 6)) (gName 7) tYes (tVar 7) [6, 7] [7] [s0, some (.ref A), s2, s3, s4, s5, s6, s7] H0 Q := by
  have hlen := thAll_len hth
  refine ⟨_, rfl, A, rfl, ⟨xs, .inl (.inl hA)⟩, fun D nD => ?_⟩
  refine ⟨fun i m H' => m = ls.length - i ∧ i ≤ ls.length ∧ ∃ acc : List V, H' D = some (.lst acc) ∧ ThAll H0 ((ls.take i).map kids).flatten acc ∧ Same H0 H', ⟨ls.length, rfl, Nat.zero_le _, [], upd_same, by simp [ThAll], same_upd nD⟩, ?_⟩
  rintro i m H' ⟨rfl, hi, acc, hD, hacc, sm⟩
  by_cases hlt : i < ls.length
  · have hltx : i < xs.length := by omega
    obtain ⟨t, x, e1, e2, hx⟩ := thAll_get hth hlt
    have et : t = ls[i] := by
      rw [List.getElem?_eq_getElem hlt] at e1
      exact (Option.some.inj e1).symm
    subst et
    refine .inr ⟨⟨xs, x, .inl (.inl (sm _ _ hA)), e2⟩, fun H'' => ∃ acc : List V, H'' D = some (.lst acc) ∧ ThAll H0 ((ls.take (i + 1)).map kids).flatten acc ∧ Same H0 H'', fun H'' ⟨acc2, h1, h2, h3⟩ => ⟨ls.length - (i + 1), by omega, rfl, hlt, acc2, h1, h2, h3⟩, fun y H'' hy => ?_⟩
    obtain ⟨rfl, hy⟩ := hy
    have ey : y = x := Option.some.inj ((hy xs (.inl (.inl (sm _ _ hA)))).symm.trans e2)
    subst ey
    obtain ⟨b, ys, rfl, hb, hyl, hys⟩ := th_tup (htup _ (List.getElem_mem hlt)) hx
    have hyk := thAll_len hys
    refine ⟨rfl, tYes_if ?_⟩
    refine ⟨_, rfl, b, rfl, ⟨ys, .inl (.inl (sm _ _ hb))⟩, ?_⟩
    refine ⟨fun j k H'' => k = ys.length - j ∧ j ≤ ys.length ∧ ∃ acc : List V, H'' D = some (.lst acc) ∧ ThAll H0 (((ls.take i).map kids).flatten ++ (kids ls[i]).take j) acc ∧ Same H0 H'', ⟨ys.length, rfl, Nat.zero_le _, acc, hD, by simpa using hacc, sm⟩, ?_⟩
    rintro j k H2 ⟨rfl, hj, acc2, hD2, hacc2, sm2⟩
    by_cases hjl : j < ys.length
    · obtain ⟨u, z, f1, f2, hz⟩ := thAll_get hys (show j < (kids ls[i]).length by omega)
      refine .inr ⟨⟨ys, z, .inl (.inl (sm2 _ _ hb)), f2⟩, fun H3 => ∃ acc : List V, H3 D = some (.lst acc) ∧ ThAll H0 (((ls.take i).map kids).flatten ++ (kids ls[i]).take (j + 1)) acc ∧ Same H0 H3, fun H3 ⟨acc3, h1, h2, h3⟩ => ⟨ys.length - (j + 1), by omega, rfl, hjl, acc3, h1, h2, h3⟩, fun y H3 hy => ?_⟩
      obtain ⟨rfl, hy⟩ := hy
      have ey : y = z := Option.some.inj ((hy ys (.inl (.inl (sm2 _ _ hb)))).symm.trans f2)
      subst ey
      refine ⟨rfl, tYes_if ?_⟩
      have hlen2 := thAll_len hacc2
      have hle : (((ls.take (i + 1)).map kids).flatten).length ≤ 50 := Nat.le_trans (flat_le ls (i + 1)) hsum
      rw [flat_take ls i hlt, List.length_append] at hle
      rw [List.length_append, List.length_take] at hlen2
      refine ⟨_, rfl, acc2, hD2, small1000 (by omega), acc2 ++ [y], upd_same, ?_, fun c o ec => ?_⟩
      · rw [List.take_add_one, f1, ← List.append_assoc]
        exact thAll_snoc hz hacc2
      · rw [upd_ne (ne_of_none ec nD)]
        exact sm2 _ _ ec
    · have ej : j = ys.length := by omega
      subst ej
      refine .inl ⟨⟨ys, .inl (.inl (sm2 _ _ hb)), Nat.le_refl _⟩, acc2, hD2, ?_, sm2⟩
      rw [flat_take ls i hlt]
      rw [show (kids ls[i]).take ys.length = kids ls[i] from List.take_of_length_le (by omega)] at hacc2
      exact hacc2
  · have ei : i = ls.length := by omega
    subst ei
    rw [List.take_length] at hacc
    exact .inl ⟨⟨xs, .inl (.inl (sm _ _ hA)), by omega⟩, q D H' acc nD sm hD hacc⟩
theorem filter_take (p : T → Bool) (ls : List T) (i : Nat) (h : i < ls.length) : (ls.take (i + 1)).filter p = (ls.take i).filter p ++ (if p ls[i] = true then [ls[i]] else []) := by
  rw [List.take_add_one, List.getElem?_eq_getElem h, List.filter_append]
  congr 1
  simp only [Option.toList_some, List.filter_cons, List.filter_nil]
theorem scIsList : FnScope ["value", "lists", "count", "level", "items", "plain", "inner", "item"] ["value"] (defScope sIsList) := ⟨rfl, rfl, rfl, by decide +kernel, rfl, by decide +kernel, by decide +kernel⟩
structure TxtI (mg : Str → Option Value) : Prop where
  sum : mg "sum" = none
  range : mg "range" = none
  all : mg "all" = none
  len : mg "len" = none
  dl : ∃ t, mg "DEEPEST_LIST" = some (.int 5 t)
  mv : ∃ t, mg "MOST_VALUES" = some (.int 50 t)
def spIsList : Sp := fun vs H Q _ => ∃ (t : T) (v : V), vs = [v] ∧ isTupT t = true ∧ Th H t v ∧ shortA t ∧ ∀ H', Same H H' → Q (.bl (lev 5 [t] 0)) H'
section
variable {P : Program} {w : World} {K : PySem.W.Frag} {mg : Str → Option Value} {base : Heap}
theorem ok_isList {f fK fX : Addr} {fd fdK fdX : FuncData} (F : Fun K "is_list" "is_list" sIsList f fd) (FK : Fun K "kind_of" "kind_of" sKind fK fdK) (bK : Binds K fdK ["value"] []) (gK : mg "kind_of" = some (.ref fK)) (TK : TxtK mg)
    (FX : Fun K "is_plain_value" "is_plain_value" sIsPlain fX fdX) (bX : Binds K fdX ["value"] []) (gX : mg "is_plain_value" = some (.ref fX)) (GX : FnOk P w K mg base CX0 3 fX fdX ["value"] (spB isPlain)) (TI : TxtI mg) :
    FnOk P w K mg base CX0 4 f fd ["value"] spIsList := by
  have GK : FnOk P w K mg base CX0 1 fK fdK ["value"] spKind := ok_kind FK TK
  obtain ⟨t1, m1⟩ := TI.dl
  obtain ⟨t2, m2⟩ := TI.mv
  refine F.ok scIsList (fun vs H Q E h => ?_) (fun cdv A outer s H vs Q E hr h => ?_)
  · obtain ⟨t, v, rfl, _⟩ := h
    rfl
  · obtain ⟨t0, v, rfl, htp, hv, hs, q⟩ := h
    have hr1 : Room 1 _ := hr.mono (by decide)
    have ND := scIsList.nd
    refine ⟨_, pss_cons (ps_set (i := 1) ND rfl (.inl rfl) (pe_lst (pa_cons (pv 0) pa_nil)))
      (pss_cons (ps_set (i := 2) ND rfl (.inl rfl) pe_int)
      (pss_cons (ps_for PassesOwn.never rfl (pi_range1 rfl TI.range (pa_cons (pe_glob (v := .int 5) rfl m1 ⟨_, rfl⟩) pa_nil)) (pg_name (i := 3) ND rfl (.inl rfl))
        (pss_cons (ps_aug (i := 2) ND rfl (.inl rfl) (pe_callB (cr_sum rfl) (by rfl) TI.sum (by decide +kernel) (pa_cons
            (pe_lc (own := [("inner", 6)]) (g := gName 6) (tt := tYes) rfl ND (pi_list (pv 1)) (blkOk_by (own := [("inner", 6)]) (N := ["value", "lists", "count", "level", "items", "plain", "inner", "item"]) (sc := defScope sIsList) (by decide +kernel))
              (fun _ _ _ _ _ => pg_name (i := 6) ND rfl (Or.inl rfl)) (fun _ _ _ _ _ => pts_nil) (fun _ _ _ _ _ => pe_callB (call_lenK (K := K) rfl) (by rfl) TI.len PySem.boot_len (pa_cons (pv 6) pa_nil))) pa_nil)) ip_add)
        (pss_cons (ps_if (pt_cmpR op_gt (pv 2) (pe_glob (v := .int 50) rfl m2 ⟨_, rfl⟩) (nomark _)) (pss_one (ps_ret pe_bl)) pss_nil)
        (pss_cons (ps_setLc2 (i := 4) (own := [("inner", 6), ("item", 7)]) (vs1 := [7]) (g := gName 6) (g1 := gName 7) (tt := tYes) (tt1 := tYes) (wi1 := iTup K (tVar 6)) rfl ND rfl rfl (sw_true rfl rfl rfl (by decide +kernel)) (pi_list (pv 1))
            (blkOk_by (own := [("inner", 6), ("item", 7)]) (N := ["value", "lists", "count", "level", "items", "plain", "inner", "item"]) (sc := defScope sIsList) (by decide +kernel)) (by decide)
            (fun _ _ _ _ _ => pg_name (i := 6) ND rfl (Or.inl rfl)) (fun _ _ _ _ _ => pts_nil) (fun _ _ _ _ _ => pi_tup (pv 6)) (fun _ _ _ _ _ => pg_name (i := 7) ND rfl (Or.inl rfl)) (fun _ _ _ _ _ => pts_nil) (fun _ _ _ _ _ => pv 7))
        (pss_cons (ps_setLc (i := 1) (own := [("item", 7)]) (g := gName 7) rfl ND rfl rfl (sw_true rfl rfl rfl (by decide +kernel)) (pi_list (pv 4))
            (blkOk_by (own := [("item", 7)]) (N := ["value", "lists", "count", "level", "items", "plain", "inner", "item"]) (sc := defScope sIsList) (by decide +kernel))
            (fun _ _ _ _ _ => pg_name (i := 7) ND rfl (Or.inl rfl)) (fun _ _ _ _ _ => pts_one (pt_cmpR op_eq (pe_call GK hr1 rfl gK FK.kp bK .nil pass0 (pa_cons (pv 7) pa_nil)) pe_str (nomark _))) (fun _ _ _ _ _ => pv 7))
        (pss_cons (ps_setLc (i := 5) (own := [("item", 7)]) (g := gName 7) rfl ND rfl rfl (sw_true rfl rfl rfl (by decide +kernel)) (pi_list (pv 4))
            (blkOk_by (own := [("item", 7)]) (N := ["value", "lists", "count", "level", "items", "plain", "inner", "item"]) (sc := defScope sIsList) (by decide +kernel))
            (fun _ _ _ _ _ => pg_name (i := 7) ND rfl (Or.inl rfl)) (fun _ _ _ _ _ => pts_one (pt_cmpR op_ne (pe_call GK hr1 rfl gK FK.kp bK .nil pass0 (pa_cons (pv 7) pa_nil)) pe_str (nomark _))) (fun _ _ _ _ _ => pv 7))
        (pss_one (ps_if (pt_not (pt_val (pe_callB (cr_all rfl) (by rfl) TI.all (by decide +kernel) (pa_cons
            (pe_lc (own := [("item", 7)]) (g := gName 7) (tt := tYes) rfl ND (pi_list (pv 5)) (blkOk_by (own := [("item", 7)]) (N := ["value", "lists", "count", "level", "items", "plain", "inner", "item"]) (sc := defScope sIsList) (by decide +kernel))
              (fun _ _ _ _ _ => pg_name (i := 7) ND rfl (Or.inl rfl)) (fun _ _ _ _ _ => pts_nil) (fun _ _ _ _ _ => pe_call GX hr rfl gX FX.kp bX .nil pass0 (pa_cons (pv 7) pa_nil))) pa_nil)))) (pss_one (ps_ret pe_bl)) pss_nil))))))))
      (pss_one (ps_ret (pe_cmpR op_eq (pe_callB call_len_seq (by rfl) TI.len PySem.boot_len (pa_cons (pv 1) pa_nil)) pe_int (nomark _)))))), ?_⟩
    refine ⟨_, rfl, by show 1 ≤ sizeLine; decide, fun A0 nA0 => ?_⟩
    refine ⟨5, rfl, by decide, by decide, ?_⟩
    refine for_range (lo := 0) (n := 5) (fun i σ H' => ∃ (A : Addr) (xs : List V) (ls : List T) (c : Nat) (z3 z4 z5 : Option V), σ = [some v, some (.ref A), some (.int (c : Int)), z3, z4, z5, none, none] ∧ Same H H' ∧ H' A = some (.lst xs) ∧ ThAll H' ls xs ∧
        (∀ l ∈ ls, isTupT l = true) ∧ (∀ l ∈ ls, shortA l) ∧ ls.length ≤ 50 ∧ lev (5 - i) ls c = lev 5 [t0] 0)
      ⟨A0, [v], [t0], 0, none, none, none, rfl, same_upd nA0, upd_same, ?_, ?_, ?_, by simp, rfl⟩ (fun i σ H' hi hPv => ?_) (fun σ H' hPv => ?_)
    · simp only [ThAll]
      exact ⟨v, [], rfl, Th.same (same_upd nA0) _ _ hv, rfl⟩
    · intro l hl
      rw [List.mem_singleton.mp hl]
      exact htp
    · intro l hl
      rw [List.mem_singleton.mp hl]
      exact hs
    · obtain ⟨A, xs, ls, c, z3, z4, z5, rfl, sm, hA, hth, htup, hsh, hl50, hlev⟩ := hPv
      have hlen := thAll_len hth
      obtain ⟨n, hn⟩ : ∃ n, 5 - i = n + 1 := ⟨4 - i, by omega⟩
      rw [hn] at hlev
      -- count += sum([len(inner) for inner in lists])
      refine ⟨_, rfl, _, rfl, A, rfl, ⟨xs, .inl (.inl hA)⟩, fun D nD => ?_⟩
      refine lc_list (K := K) (a := A) (xs := xs) (fun j G => G D = some (.lst (((ls.take j).map fun l => ((kids l).length : Int)).map V.int)) ∧ Same H' G) ⟨upd_same, same_upd nD⟩ (fun j G _ ⟨_, s2⟩ => .inl (.inl (s2 _ _ hA))) (fun j x G hx ⟨hD, s2⟩ => ?_) (fun G ⟨hD, s2⟩ => ?_)
      · have hj : j < ls.length := by
          have := (List.getElem?_eq_some_iff.mp hx).1
          omega
        obtain ⟨t, x', e1, e2, hx'⟩ := thAll_get hth hj
        have ex : x' = x := Option.some.inj (e2.symm.trans hx)
        subst ex
        obtain ⟨b, ys, rfl, hb, hyl, hys⟩ := th_tup (htup t (List.mem_of_getElem? e1)) hx'
        have hyk := thAll_len hys
        refine ⟨rfl, tYes_if ?_⟩
        refine ⟨_, rfl, b, ys, rfl, .inr (.inl (.inl (s2 _ _ hb))), _, hD, small1000 ?_, ?_, fun o u eo => ?_⟩
        · rw [List.length_map, List.length_map, List.length_take]
          omega
        · rw [upd_same, List.take_add_one, e1, ← hyk]
          simp
        · rw [upd_ne (ne_of_none eo nD)]
          exact s2 _ _ eo
      · have hD' : G D = some (.lst ((ls.map fun l => ((kids l).length : Int)).map V.int)) := by
          rw [hD, List.take_of_length_le (by omega)]
        have esum : (c : Int) + (ls.map fun l => ((kids l).length : Int)).sum = ((c + (ls.map fun l => (kids l).length).sum : Nat) : Int) := by
          have := sum_cast (ls.map fun l => (kids l).length)
          rw [List.map_map] at this
          have e2 : (ls.map fun l => ((kids l).length : Int)) = ls.map ((fun n : Nat => (n : Int)) ∘ fun l => (kids l).length) := rfl
          rw [e2, this]
          omega
        refine ⟨D, ls.map fun l => ((kids l).length : Int), rfl, .inl (.inl hD'), _, _, rfl, rfl, ?_⟩
        -- if count > MOST_VALUES: return False
        refine ⟨_, rfl, _, _, rfl, rfl, _, rfl, ?_⟩
        simp only [esum]
        refine ite2 (fun hc => ?_) (fun hc => ?_)
        · have hc' := of_decide_eq_true hc
          have e : lev 5 [t0] 0 = false := by
            rw [← hlev]
            simp only [lev]
            rw [if_pos (by omega)]
          have q1 := q G (sm.trans s2)
          rw [e] at q1
          exact q1
        have hc' : ¬ 50 < c + (ls.map fun l => (kids l).length).sum := fun z => hc (decide_eq_true (by omega))
        -- items
        dsimp only [tNext, tSeq, tAsg]
        refine flat_reading (K := K) (H0 := G) (A := A) (xs := xs) (ls := ls) (s2 _ _ hA) (ThAll.same s2 _ _ hth) htup (by omega) fun D2 G2 items nD2 s3 hD2 hit => ?_
        have hilen := thAll_len hit
        rw [flat_len] at hilen
        have hit2 : ThAll G2 (ls.map kids).flatten items := ThAll.same s3 _ _ hit
        have hish : ∀ u ∈ (ls.map kids).flatten, shortA u := fun u hu => by
          obtain ⟨l0, h1, h2⟩ := List.mem_flatten.mp hu
          obtain ⟨l1, h3, rfl⟩ := List.mem_map.mp h1
          exact (hsh l1 h3).kids u h2
        generalize hI : (ls.map kids).flatten = I at hit2 hish
        have hIl : I.length = items.length := thAll_len hit2
        -- lists = [item for item in items if kind_of(item) == "list"]
        refine ⟨_, rfl, D2, rfl, ⟨items, .inl (.inl hD2)⟩, fun D3 nD3 => ?_⟩
        refine lc_list (K := K) (a := D2) (xs := items) (fun j G' => ∃ acc : List V, G' D3 = some (.lst acc) ∧ ThAll G2 ((I.take j).filter isTupT) acc ∧ Same G2 G') ⟨[], upd_same, by simp [ThAll], same_upd nD3⟩ (fun j G' _ ⟨_, _, _, s4⟩ => .inl (.inl (s4 _ _ hD2))) (fun j x G' hx ⟨acc, hD3, hacc, s4⟩ => ?_) (fun G' ⟨acc, hD3, hacc, s4⟩ => ?_)
        · have hj : j < I.length := by
            have := (List.getElem?_eq_some_iff.mp hx).1
            omega
          obtain ⟨t, x', e1, e2, hx'⟩ := thAll_get hit2 hj
          have ex : x' = x := Option.some.inj (e2.symm.trans hx)
          subst ex
          have et : t = I[j] := by
            rw [List.getElem?_eq_getElem hj] at e1
            exact (Option.some.inj e1).symm
          have hal : acc.length ≤ 1000 := by
            have h1 := thAll_len hacc
            have h2 := List.length_filter_le isTupT (I.take j)
            rw [List.length_take] at h2
            omega
          refine ⟨rfl, ⟨_, rfl, t, x', rfl, Th.same s4 _ _ hx', rfl, _, rfl, ?_⟩⟩
          rw [kindS_list]
          cases hb : isTupT t with
          | true =>
            refine iteT ⟨_, rfl, acc, hD3, ?_, acc ++ [x'], upd_same, ?_, fun o u eo => ?_⟩
            · have h1 := thAll_len hacc
              have h2 := List.length_filter_le isTupT (I.take j)
              rw [List.length_take] at h2
              exact small1000 (by omega)
            · rw [filter_take isTupT I j hj, ← et, hb, if_pos rfl]
              exact thAll_snoc hx' hacc
            · rw [upd_ne (ne_of_none eo nD3)]
              exact s4 _ _ eo
          | false =>
            refine iteF ⟨acc, hD3, ?_, s4⟩
            rw [filter_take isTupT I j hj, ← et, hb, if_neg Bool.false_ne_true, List.append_nil]
            exact hacc
        have hI2 : I.take items.length = I := List.take_of_length_le (by omega)
        rw [hI2] at hacc
        -- plain = [item for item in items if kind_of(item) != "list"]
        refine ⟨_, rfl, D2, rfl, ⟨items, .inl (.inl (s4 _ _ hD2))⟩, fun D4 nD4 => ?_⟩
        refine lc_list (K := K) (a := D2) (xs := items) (fun j G3 => ∃ acc4 : List V, G3 D4 = some (.lst acc4) ∧ ThAll G2 ((I.take j).filter fun t => !isTupT t) acc4 ∧ Same G' G3) ⟨[], upd_same, by simp [ThAll], same_upd nD4⟩ (fun j G3 _ ⟨_, _, _, s5⟩ => .inl (.inl (s5 _ _ (s4 _ _ hD2)))) (fun j x G3 hx ⟨acc4, hD4, hacc4, s5⟩ => ?_) (fun G3 ⟨acc4, hD4, hacc4, s5⟩ => ?_)
        · have hj : j < I.length := by
            have := (List.getElem?_eq_some_iff.mp hx).1
            omega
          obtain ⟨t, x', e1, e2, hx'⟩ := thAll_get hit2 hj
          have ex : x' = x := Option.some.inj (e2.symm.trans hx)
          subst ex
          have et : t = I[j] := by
            rw [List.getElem?_eq_getElem hj] at e1
            exact (Option.some.inj e1).symm
          refine ⟨rfl, ⟨_, rfl, t, x', rfl, Th.same (s4.trans s5) _ _ hx', rfl, _, rfl, ?_⟩⟩
          rw [kindS_list]
          cases hb : isTupT t with
          | false =>
            refine iteT ⟨_, rfl, acc4, hD4, ?_, acc4 ++ [x'], upd_same, ?_, fun o u eo => ?_⟩
            · have h1 := thAll_len hacc4
              have h2 := List.length_filter_le (fun t => !isTupT t) (I.take j)
              rw [List.length_take] at h2
              exact small1000 (by omega)
            · rw [filter_take (fun t => !isTupT t) I j hj, ← et, hb]
              exact thAll_snoc hx' hacc4
            · rw [upd_ne (ne_of_none eo nD4)]
              exact s5 _ _ eo
          | true =>
            refine iteF ⟨acc4, hD4, ?_, s5⟩
            rw [filter_take (fun t => !isTupT t) I j hj, ← et, hb]
            simpa using hacc4
        rw [hI2] at hacc4
        have hp4 : ThAll G3 (I.filter fun t => !isTupT t) acc4 := ThAll.same (s4.trans s5) _ _ hacc4
        have hpl := thAll_len hp4
        -- all([is_plain_value(item) for item in plain])
        refine ⟨_, rfl, D4, rfl, ⟨acc4, .inl (.inl hD4)⟩, fun D5 nD5 => ?_⟩
        refine lc_list (K := K) (a := D4) (xs := acc4) (fun j G4 => G4 D5 = some (.lst ((((I.filter fun t => !isTupT t).take j).map isPlain).map V.bl)) ∧ Same G3 G4) ⟨upd_same, same_upd nD5⟩ (fun j G4 _ ⟨_, s6⟩ => .inl (.inl (s6 _ _ hD4))) (fun j x G4 hx ⟨hD5, s6⟩ => ?_) (fun G4 ⟨hD5, s6⟩ => ?_)
        · have hj : j < (I.filter fun t => !isTupT t).length := by
            have := (List.getElem?_eq_some_iff.mp hx).1
            omega
          obtain ⟨t, x', e1, e2, hx'⟩ := thAll_get hp4 hj
          have ex : x' = x := Option.some.inj (e2.symm.trans hx)
          subst ex
          have hmem : t ∈ I := (List.mem_filter.mp (List.mem_of_getElem? e1)).1
          refine ⟨rfl, tYes_if ?_⟩
          refine ⟨_, rfl, t, x', rfl, Th.same s6 _ _ hx', (hish t hmem).short, _, hD5, small1000 ?_, ?_, fun o u eo => ?_⟩
          · have h2 := List.length_filter_le (fun t => !isTupT t) I
            rw [List.length_map, List.length_map, List.length_take]
            omega
          · rw [upd_same, List.take_add_one, e1]
            simp
          · rw [upd_ne (ne_of_none eo nD5)]
            exact s6 _ _ eo
        refine ⟨D5, ((I.filter fun t => !isTupT t).map isPlain), rfl, .inl (.inl ?_), _, rfl, ?_⟩
        · rw [hD5, List.take_of_length_le (by omega)]
        have eall : ((I.filter fun t => !isTupT t).map isPlain).all id = (I.filter fun t => !isTupT t).all isPlain := by
          rw [List.all_map]
          rfl
        rw [eall]
        have elev : lev 5 [t0] 0 = if (I.filter fun t => !isTupT t).all isPlain = true then lev n (I.filter isTupT) (c + (ls.map fun l => (kids l).length).sum) else false := by
          rw [← hlev]
          simp only [lev]
          rw [if_neg hc', hI]
        cases hall : (I.filter fun t => !isTupT t).all isPlain with
        | false =>
          rw [hall, if_neg Bool.false_ne_true] at elev
          have q1 := q G4 ((((sm.trans s2).trans s3).trans (s4.trans s5)).trans s6)
          rw [elev] at q1
          exact iteT q1
        | true =>
          rw [hall, if_pos rfl] at elev
          refine iteF ⟨D3, acc, I.filter isTupT, c + (ls.map fun l => (kids l).length).sum, _, _, _, rfl, (((sm.trans s2).trans s3).trans (s4.trans s5)).trans s6, s6 _ _ (s5 _ _ hD3), ThAll.same ((s4.trans s5).trans s6) _ _ hacc, ?_, ?_, ?_, ?_⟩
          · intro l hl
            exact (List.mem_filter.mp hl).2
          · intro l hl
            exact hish l (List.mem_filter.mp hl).1
          · have h2 := List.length_filter_le isTupT I
            omega
          · rw [show 5 - (i + 1) = n by omega]
            exact elev.symm
    · obtain ⟨A, xs, ls, c, z3, z4, z5, rfl, sm, hA, hth, _, _, _, hlev⟩ := hPv
      have hlen := thAll_len hth
      refine ⟨_, rfl, A, xs, rfl, .inl (.inl (.inl hA)), rfl, ?_⟩
      have e : lev 5 [t0] 0 = decide (V.int ((xs.length : Nat) : Int) = V.int 0) := by
        rw [← hlev]
        simp only [Nat.sub_self, lev]
        cases ls with
        | nil =>
          rw [List.length_nil] at hlen
          rw [← hlen]
          rfl
        | cons l ls =>
          rw [List.length_cons] at hlen
          have : ¬ V.int ((xs.length : Nat) : Int) = V.int 0 := fun z => by
            have := V.int.inj z
            omega
          rw [decide_eq_false this]
          rfl
      have q1 := q H' sm
      rw [e] at q1
      exact q1
end
end My
namespace My
open PySem PySem.Spec PyProof.Rows L2
/-! ### is_value, is_state -/
theorem scIsValue : FnScope ["value"] ["value"] (defScope sIsValue) := ⟨rfl, rfl, rfl, by decide +kernel, rfl, by decide +kernel, by decide +kernel⟩
theorem scIsState : FnScope ["value", "key", "held"] ["value"] (defScope sIsState) := ⟨rfl, rfl, rfl, by decide +kernel, rfl, by decide +kernel, by decide +kernel⟩
def spVal : Sp := fun vs H Q _ => ∃ (t : T) (v : V), vs = [v] ∧ Th H t v ∧ shortA t ∧ ∀ H', Same H H' → Q (.bl (isVal t)) H'
def notD : T → Prop
  | .oth d => d = false
  | _ => True
structure TxtS (mg : Str → Option Value) : Prop where
  isi : mg "isinstance" = none
  all : mg "all" = none
  dict : mg "dict" = none
section
variable {P : Program} {w : World} {K : PySem.W.Frag} {mg : Str → Option Value} {base : Heap}
theorem ok_isVal {f fK fL fX : Addr} {fd fdK fdL fdX : FuncData} (F : Fun K "is_value" "is_value" sIsValue f fd) (FK : Fun K "kind_of" "kind_of" sKind fK fdK) (bK : Binds K fdK ["value"] []) (gK : mg "kind_of" = some (.ref fK)) (TK : TxtK mg)
    (FL : Fun K "is_list" "is_list" sIsList fL fdL) (bL : Binds K fdL ["value"] []) (gL : mg "is_list" = some (.ref fL)) (GL : FnOk P w K mg base CX0 4 fL fdL ["value"] spIsList)
    (FX : Fun K "is_plain_value" "is_plain_value" sIsPlain fX fdX) (bX : Binds K fdX ["value"] []) (gX : mg "is_plain_value" = some (.ref fX)) (GX : FnOk P w K mg base CX0 3 fX fdX ["value"] (spB isPlain)) :
    FnOk P w K mg base CX0 5 f fd ["value"] spVal := by
  have GK : FnOk P w K mg base CX0 1 fK fdK ["value"] spKind := ok_kind FK TK
  refine F.ok scIsValue (fun vs H Q E h => ?_) (fun cdv A outer s H vs Q E hr h => ?_)
  · obtain ⟨t, v, rfl, _⟩ := h
    rfl
  · obtain ⟨t, v, rfl, ht, hs, q⟩ := h
    refine ⟨_, pss_cons (ps_if (pt_cmpR op_eq (pe_call GK (hr.mono (by decide)) rfl gK FK.kp bK .nil pass0 (pa_cons (pv 0) pa_nil)) pe_str (nomark _))
        (pss_one (ps_ret (pe_call GL hr rfl gL FL.kp bL .nil pass0 (pa_cons (pv 0) pa_nil)))) pss_nil)
      (pss_one (ps_ret (pe_call GX (hr.mono (by decide)) rfl gX FX.kp bX .nil pass0 (pa_cons (pv 0) pa_nil)))), ?_⟩
    refine ⟨_, rfl, t, v, rfl, ht, rfl, _, rfl, ?_⟩
    rw [kindS_list]
    cases hb : isTupT t with
    | true =>
      refine iteT ⟨_, rfl, t, v, rfl, hb, ht, hs, fun H' sm => ?_⟩
      have q1 := q H' sm
      rw [show isVal t = lev 5 [t] 0 by simp only [isVal, hb, if_true]] at q1
      exact q1
    | false =>
      refine iteF ⟨_, rfl, t, v, rfl, ht, hs.short, ?_⟩
      have q1 := q H (Same.refl H)
      rw [show isVal t = isPlain t by simp only [isVal, hb]; rfl] at q1
      exact q1
end
end My
namespace My
open PySem PySem.Spec PyProof.Rows L2
/-! ### isinstance over things -/
def tyName : T → String
  | .non => "NoneType"
  | .bl _ => "bool"
  | .int _ => "int"
  | .str _ => "str"
  | .tup _ => "tuple"
  | .oth true => "dict"
  | .oth false => "list"
theorem th_ty {K : PySem.W.Frag} {H : Hp} : ∀ {t : T} {v : V}, Th H t v → TyOf K H v (.type (tyName t))
  | .non, _, h => by
    simp only [Th] at h
    subst h
    exact .non
  | .bl b, _, h => by
    simp only [Th] at h
    subst h
    exact .bl b
  | .int i, _, h => by
    simp only [Th] at h
    subst h
    exact .int i
  | .str x, _, h => by
    simp only [Th] at h
    subst h
    exact .str x
  | .tup ts, _, h => by
    simp only [Th] at h
    obtain ⟨a, xs, rfl, e, _⟩ := h
    exact .tup e
  | .oth true, _, h => by
    simp only [Th] at h
    obtain ⟨a, rfl, kvs, e⟩ := h
    exact .dK e
  | .oth false, _, h => by
    simp only [Th] at h
    obtain ⟨a, rfl, xs, e⟩ := h
    exact .lst e
theorem kt_tup : ∀ t : T, kitB (tyName t) "tuple" = some (isTupT t)
  | .non => by
    show kitB "NoneType" "tuple" = some false
    decide +kernel
  | .bl _ => by
    show kitB "bool" "tuple" = some false
    decide +kernel
  | .int _ => by
    show kitB "int" "tuple" = some false
    decide +kernel
  | .str _ => by
    show kitB "str" "tuple" = some false
    decide +kernel
  | .tup _ => by
    show kitB "tuple" "tuple" = some true
    decide +kernel
  | .oth true => by
    show kitB "dict" "tuple" = some false
    decide +kernel
  | .oth false => by
    show kitB "list" "tuple" = some false
    decide +kernel
theorem kt_str : ∀ t : T, kitB (tyName t) "str" = some (isStrT t)
  | .non => by
    show kitB "NoneType" "str" = some false
    decide +kernel
  | .bl _ => by
    show kitB "bool" "str" = some false
    decide +kernel
  | .int _ => by
    show kitB "int" "str" = some false
    decide +kernel
  | .str _ => by
    show kitB "str" "str" = some true
    decide +kernel
  | .tup _ => by
    show kitB "tuple" "str" = some false
    decide +kernel
  | .oth true => by
    show kitB "dict" "str" = some false
    decide +kernel
  | .oth false => by
    show kitB "list" "str" = some false
    decide +kernel
/-! ### is_form -/
def partTab : List (Str × V) := [("add", .int 2), ("subtract", .int 2), ("multiply", .int 2), ("divide", .int 2), ("less", .int 2), ("equal", .int 2), ("join", .int 2), ("item", .int 2), ("size", .int 1)]
def formT : T → Bool
  | .tup (.str w :: ps) => if w = "list" then decide ((ps.length : Int) ≤ 10) else if w = "value" ∨ w = "name" then decide ((ps.length : Int) = 1) else decide ((partTab.lookup w).getD .non = V.int (ps.length : Int))
  | _ => false
structure TxtF (K : PySem.W.Frag) (w : World) (mg : Str → Option Value) : Prop where
  isi : mg "isinstance" = none
  len : mg "len" = none
  str : mg "str" = none
  tuple : mg "tuple" = none
  ml : ∃ t, mg "MOST_LIST_PARTS" = some (.int 10 t)
  pc : ∃ p, mg "PART_COUNTS" = some (.ref p) ∧ LK.KTab K w p partTab
theorem scForm : FnScope ["expression", "word", "count"] ["expression"] (defScope sIsForm) := ⟨rfl, rfl, rfl, by decide +kernel, rfl, by decide +kernel, by decide +kernel⟩
def spForm : Sp := fun vs H Q _ => ∃ (t : T) (v : V), vs = [v] ∧ Th H t v ∧ Q (.bl (formT t)) H
theorem part_val (w : Str) : (partTab.lookup w).getD .non = .non ∨ ∃ i : Int, (partTab.lookup w).getD .non = .int i := by
  cases h : partTab.lookup w with
  | none => exact .inl rfl
  | some v =>
    have hm := PySem.mem_of_lookup h
    simp only [partTab, List.mem_cons, Prod.mk.injEq, List.not_mem_nil, or_false] at hm
    right
    rcases hm with ⟨_, rfl⟩ | ⟨_, rfl⟩ | ⟨_, rfl⟩ | ⟨_, rfl⟩ | ⟨_, rfl⟩ | ⟨_, rfl⟩ | ⟨_, rfl⟩ | ⟨_, rfl⟩ | ⟨_, rfl⟩ <;> exact ⟨_, rfl⟩
theorem at0 (v : V) (r : List V) : atI (v :: r) 0 = some v := atI_nat (j := 0) rfl
theorem at1 (v u : V) (r : List V) : atI (v :: u :: r) 1 = some u := atI_nat (j := 1) rfl
section
variable {P : Program} {w : World} {K : PySem.W.Frag} {mg : Str → Option Value} {base : Heap}
theorem ok_form {f : Addr} {fd : FuncData} (F : Fun K "is_form" "is_form" sIsForm f fd) (T : TxtF K w mg) : FnOk P w K mg base CX0 1 f fd ["expression"] spForm := by
  obtain ⟨t1, m1⟩ := T.ml
  obtain ⟨p, m2, KT⟩ := T.pc
  refine F.ok scForm (fun vs H Q E h => ?_) (fun cdv A outer s H vs Q E hr h => ?_)
  · obtain ⟨t, v, rfl, _⟩ := h
    rfl
  · obtain ⟨t, v, rfl, ht, q⟩ := h
    refine ⟨_, pss_cons (ps_if (PW.pt (pw_or (pt_not (pt_val (pe_callB call_isi (by rfl) T.isi PyProof.Rows.boot_isinstance (pa_cons (pv 0) (pa_cons (pe_bltn (v := .ty "tuple") (by rfl) T.tuple (by decide +kernel) rfl) pa_nil)))))
          (pw_or (pt_cmpR op_eq (pe_callB call_len_seq (by rfl) T.len PySem.boot_len (pa_cons (pv 0) pa_nil)) pe_int (nomark _))
          (pw_or1 (pt_not (pt_val (pe_callB call_isi (by rfl) T.isi PyProof.Rows.boot_isinstance (pa_cons (pe_ix ix_tup (pv 0) pe_int (fun _ _ => rfl)) (pa_cons (pe_bltn (v := .ty "str") (by rfl) T.str (by decide +kernel) rfl) pa_nil)))))))))
        (pss_one (ps_ret pe_bl)) pss_nil)
      (pss_cons (ps_set (i := 1) scForm.nd rfl (.inl rfl) (pe_ix ix_tup (pv 0) pe_int (fun _ _ => rfl)))
      (pss_cons (ps_set (i := 2) scForm.nd rfl (.inl rfl) (pe_op op_sub (pe_callB call_len_seq (by rfl) T.len PySem.boot_len (pa_cons (pv 0) pa_nil)) pe_int))
      (pss_cons (ps_if (pt_cmpR op_eq (pv 1) pe_str (nomark _)) (pss_one (ps_ret (pe_cmpR op_le (pv 2) (pe_glob (v := .int 10) rfl m1 ⟨_, rfl⟩) (nomark _)))) pss_nil)
      (pss_cons (ps_if (PW.pt (pw_or (pt_cmpR op_eq (pv 1) pe_str (nomark _)) (pw_or1 (pt_cmpR op_eq (pv 1) pe_str (nomark _))))) (pss_one (ps_ret (pe_cmpR op_eq (pv 2) pe_int (nomark _)))) pss_nil)
      (pss_one (ps_ret (pe_cmpR op_eq (LK.pe_kget (pe_glob (v := .ref p) (by rfl) m2 rfl) (pv 1) ⟨rfl, rfl, rfl, rfl⟩) (pv 2) (nomark _)))))))), ?_⟩
    refine ⟨_, rfl, _, _, _, _, isTupT t, rfl, .ty "tuple", .base (th_ty ht), kit_ty (kt_tup t), _, rfl, ?_⟩
    cases t with
    | tup ts =>
      refine iteF ?_
      simp only [Th] at ht
      obtain ⟨a, xs, rfl, ha, hxl, hall⟩ := ht
      have lts := thAll_len hall
      refine ⟨_, rfl, a, xs, rfl, .inr (.inl (.inl ha)), rfl, _, rfl, ?_⟩
      cases ts with
      | nil =>
        have ex : xs = [] := List.length_eq_zero_iff.mp lts.symm
        subst ex
        exact iteT (iteT q)
      | cons t0 ps =>
        simp only [ThAll] at hall
        obtain ⟨v0, r, rfl, h0, hr⟩ := hall
        have e0 : decide (V.int (((v0 :: r).length : Nat) : Int) = V.int 0) = false := decide_eq_false fun z => by
          have y := V.int.inj z
          rw [List.length_cons] at y
          omega
        rw [e0]
        refine iteF ?_
        refine ⟨_, rfl, a, _, _, v0, rfl, rfl, .inl (.inl ha), at0 _ _, ?_⟩
        refine ⟨_, _, _, _, isStrT t0, rfl, .ty "str", .base (th_ty h0), kit_ty (kt_str t0), _, rfl, ?_⟩
        cases t0 with
        | str x =>
          simp only [Th] at h0
          subst h0
          refine iteF ?_
          refine ⟨_, rfl, a, _, _, .str x, rfl, rfl, .inl (.inl ha), at0 _ _, ?_⟩
          refine ⟨_, rfl, a, _, rfl, .inr (.inl (.inl ha)), _, _, rfl, rfl, ?_⟩
          have ec : (((V.str x :: r).length : Nat) : Int) - 1 = (ps.length : Int) := by
            rw [← lts, List.length_cons]
            omega
          refine ⟨_, rfl, rfl, _, rfl, ?_⟩
          rw [dec_str]
          by_cases h1 : x = "list"
          · rw [decide_eq_true h1]
            refine iteT ⟨_, rfl, _, _, rfl, rfl, ?_⟩
            have e : formT (.tup (.str x :: ps)) = decide ((ps.length : Int) ≤ 10) := by
              simp only [formT]
              rw [if_pos h1]
            rw [e, ← ec] at q
            exact q
          · rw [decide_eq_false h1]
            refine iteF ⟨_, rfl, rfl, _, rfl, ?_⟩
            rw [dec_str]
            by_cases h2 : x = "value"
            · rw [decide_eq_true h2]
              refine iteT (iteT ⟨_, rfl, rfl, ?_⟩)
              have e : formT (.tup (.str x :: ps)) = decide ((ps.length : Int) = 1) := by
                simp only [formT]
                rw [if_neg h1, if_pos (.inl h2)]
              rw [e] at q
              have e2 : decide ((ps.length : Int) = 1) = decide (V.int ((((V.str x :: r).length : Nat) : Int) - 1) = V.int 1) := by
                rw [ec]
                simp
              rw [e2] at q
              exact q
            · rw [decide_eq_false h2]
              refine iteF ⟨_, rfl, rfl, _, rfl, ?_⟩
              rw [dec_str]
              by_cases h3 : x = "name"
              · rw [decide_eq_true h3]
                refine iteT ⟨_, rfl, rfl, ?_⟩
                have e : formT (.tup (.str x :: ps)) = decide ((ps.length : Int) = 1) := by
                  simp only [formT]
                  rw [if_neg h1, if_pos (.inr h3)]
                rw [e] at q
                have e2 : decide ((ps.length : Int) = 1) = decide (V.int ((((V.str x :: r).length : Nat) : Int) - 1) = V.int 1) := by
                  rw [ec]
                  simp
                rw [e2] at q
                exact q
              · rw [decide_eq_false h3]
                refine iteF ?_
                refine ⟨p, partTab, rfl, KT, _, rfl, x, rfl, _, rfl, ?_⟩
                have e : formT (.tup (.str x :: ps)) = decide ((partTab.lookup x).getD .non = V.int (ps.length : Int)) := by
                  simp only [formT]
                  rw [if_neg h1, if_neg (fun z => z.elim h2 h3)]
                rw [e, ← ec] at q
                refine ⟨?_, q⟩
                rcases part_val x with z | ⟨i, z⟩ <;> rw [z] <;> rfl
        | oth d => exact iteT q
        | _ => exact iteT q
    | oth d => exact iteT q
    | _ => exact iteT q
end
end My
namespace My
open PySem PySem.Spec PyProof.Rows L2
theorem slA_of {K : PySem.W.Frag} {H : Hp} {Q : VK} {a : Addr} {xs : List V} {lo hi : Option Int} (ha : H a = some (.tup xs))
    (q : ∀ (r : Addr) (H' : Hp), Same H H' → H' r = some (.tup (cutV xs lo hi)) → Q (.ref r) H') : rSlA K (.ref a) lo hi H Q := by
  refine ⟨a, xs, rfl, .inl (.inl ha), fun hw => ?_, fun _ p np => q p _ (same_upd np) upd_same⟩
  refine q a H (Same.refl _) ?_
  unfold cutV
  rw [hw.1, hw.2, List.drop_zero, Nat.sub_zero, List.take_length]
  exact ha
theorem cut_from (xs : List V) (k : Nat) : cutV xs (some (k : Int)) none = xs.drop k := by
  unfold cutV
  rw [HT.sIx_none, HT.sIx_nat]
  by_cases h : k ≤ xs.length
  · rw [Nat.min_eq_left h]
    exact List.take_of_length_le (by rw [List.length_drop]; exact Nat.le_refl _)
  · rw [Nat.min_eq_right (by omega), Nat.sub_self, List.take_zero, List.drop_of_length_le (by omega)]
/-- an expression, nested at most so deep -/
def nestT : Nat → T → Bool
  | 0, _ => false
  | n + 1, t => formT t && match t with
    | .tup (.str w :: ps) => if w = "value" then ps.all isVal else if w = "name" then ps.all isName else ps.all (nestT n)
    | _ => false
theorem form_str {ts : List T} (h : formT (.tup ts) = true) : ∃ w ps, ts = .str w :: ps := by
  match ts, h with
  | .str w :: ps, _ => exact ⟨w, ps, rfl⟩
  | [], h => exact absurd h (by simp [formT])
  | .non :: _, h => exact absurd h (by simp [formT])
  | .bl _ :: _, h => exact absurd h (by simp [formT])
  | .int _ :: _, h => exact absurd h (by simp [formT])
  | .oth _ :: _, h => exact absurd h (by simp [formT])
  | .tup _ :: _, h => exact absurd h (by simp [formT])
theorem form_tup {t : T} (h : formT t = true) : ∃ w ps, t = .tup (.str w :: ps) := by
  cases t with
  | tup ts =>
    obtain ⟨w, ps, rfl⟩ := form_str h
    exact ⟨w, ps, rfl⟩
  | _ => exact absurd h (by simp [formT])
theorem form_one {w : Str} {ps : List T} (h : formT (.tup (.str w :: ps)) = true) (hw : w = "value" ∨ w = "name") : ∃ p, ps = [p] := by
  have h1 : ¬ w = "list" := by
    rcases hw with rfl | rfl <;> decide +kernel
  simp only [formT] at h
  rw [if_neg h1, if_pos hw] at h
  have e := of_decide_eq_true h
  match ps, e with
  | [p], _ => exact ⟨p, rfl⟩
  | [], e => exact absurd e (by decide)
  | _ :: _ :: r, e =>
    simp only [List.length_cons] at e
    omega
theorem scNest : FnScope ["expression", "depth", "word", "part"] ["expression", "depth"] (defScope sNested) := ⟨rfl, rfl, rfl, by decide +kernel, rfl, by decide +kernel, by decide +kernel⟩
def spNest : Nat → Sp
  | 0 => fun vs _ _ _ => vs.length = 2 ∧ False
  | n + 1 => fun vs H Q _ => ∃ (t : T) (v : V), vs = [v, .int n] ∧ Th H t v ∧ shortA t ∧ ∀ H', Same H H' → Q (.bl (nestT n t)) H'
section
variable {P : Program} {w : World} {K : PySem.W.Frag} {mg : Str → Option Value} {base : Heap}
theorem ok_nest {f fF fV fN : Addr} {fd fdF fdV fdN : FuncData} (F : Fun K "is_nested_expression" "is_nested_expression" sNested f fd) (bF : Binds K fd ["expression", "depth"] []) (gF : mg "is_nested_expression" = some (.ref f))
    (FF : Fun K "is_form" "is_form" sIsForm fF fdF) (bFF : Binds K fdF ["expression"] []) (gFF : mg "is_form" = some (.ref fF)) (GFF : FnOk P w K mg base CX0 1 fF fdF ["expression"] spForm)
    (FV : Fun K "is_value" "is_value" sIsValue fV fdV) (bV : Binds K fdV ["value"] []) (gV : mg "is_value" = some (.ref fV)) (GV : FnOk P w K mg base CX0 5 fV fdV ["value"] spVal)
    (FN : Fun K "is_name" "is_name" sIsName fN fdN) (bN : Binds K fdN ["value"] []) (gN : mg "is_name" = some (.ref fN)) (GN : FnOk P w K mg base CX0 4 fN fdN ["value"] (spB isName)) :
    ∀ n : Nat, FnOk P w K mg base CX0 (n + 6) f fd ["expression", "depth"] (spNest n) := by
  intro n
  induction n with
  | zero => exact F.ok scNest (fun vs H Q E h => h.1) (fun cdv A outer s H vs Q E hr h => h.2.elim)
  | succ n GR =>
    refine F.ok scNest (fun vs H Q E h => ?_) (fun cdv A outer s H vs Q E hr h => ?_)
    · obtain ⟨t, v, rfl, _⟩ := h
      rfl
    · obtain ⟨t, v, rfl, ht, hs, q⟩ := h
      have hr1 : Room 1 _ := hr.mono (by omega)
      have hr5 : Room 5 _ := hr.mono (by omega)
      have hr4 : Room 4 _ := hr.mono (by omega)
      have fin : ∀ b : Bool, nestT n t = b → ∀ H', Same H H' → Q (.bl b) H' := fun b e H' sm => e ▸ q H' sm
      refine ⟨_, pss_cons (ps_if (PW.pt (pw_or (pt_cmpR op_eq (pv 1) pe_int (nomark _)) (pw_or1 (pt_not (pt_val (pe_call GFF hr1 rfl gFF FF.kp bFF .nil pass0 (pa_cons (pv 0) pa_nil))))))) (pss_one (ps_ret pe_bl)) pss_nil)
        (pss_cons (ps_set (i := 2) scNest.nd rfl (.inl rfl) (pe_ix ix_tup (pv 0) pe_int (fun _ _ => rfl)))
        (pss_cons (ps_if (pt_cmpR op_eq (pv 2) pe_str (nomark _)) (pss_one (ps_ret (pe_call GV hr5 rfl gV FV.kp bV .nil pass0 (pa_cons (pe_ix ix_tup (pv 0) pe_int (fun _ _ => rfl)) pa_nil)))) pss_nil)
        (pss_cons (ps_if (pt_cmpR op_eq (pv 2) pe_str (nomark _)) (pss_one (ps_ret (pe_call GN hr4 rfl gN FN.kp bN .nil pass0 (pa_cons (pe_ix ix_tup (pv 0) pe_int (fun _ _ => rfl)) pa_nil)))) pss_nil)
        (pss_cons (ps_for PassesOwn.never rfl (pi_tup (pe_slice sl_tupA (pv 0) (po_some pe_int) po_none)) (pg_name (i := 3) scNest.nd rfl (.inl rfl))
          (pss_one (ps_if (pt_not (pt_val (pe_call GR hr rfl gF F.kp bF .nil pass0 (pa_cons (pv 3) (pa_cons (pe_op op_sub (pv 1) pe_int) pa_nil))))) (pss_one (ps_ret pe_bl)) pss_nil)))
        (pss_one (ps_ret pe_bl)))))), ?_⟩
      refine ⟨_, rfl, rfl, _, rfl, ?_⟩
      cases n with
      | zero => exact iteT (iteT (fin false rfl H (Same.refl _)))
      | succ k =>
        have e0 : decide ((V.int ((k + 1 : Nat) : Int)) = V.int 0) = false := decide_eq_false fun z => by
          have := V.int.inj z
          omega
        rw [e0]
        refine iteF ⟨_, rfl, t, v, rfl, ht, _, rfl, ?_⟩
        cases hf : formT t with
        | false => exact iteT (fin false (by simp only [nestT]; rw [hf]; rfl) H (Same.refl _))
        | true =>
          refine iteF ?_
          obtain ⟨x, ps, rfl⟩ := form_tup hf
          simp only [Th] at ht
          obtain ⟨a, xs, rfl, ha, hxl, hall⟩ := ht
          simp only [ThAll] at hall
          obtain ⟨v0, r, rfl, h0, hr'⟩ := hall
          simp only [Th] at h0
          subst h0
          have hsp : ∀ p ∈ ps, shortA p := fun p hp => hs.kids p (List.mem_cons_of_mem _ hp)
          refine ⟨_, rfl, a, _, _, .str x, rfl, rfl, .inl (.inl ha), at0 _ _, ?_⟩
          refine ⟨_, rfl, rfl, _, rfl, ?_⟩
          rw [dec_str]
          have en : nestT (k + 1) (.tup (.str x :: ps)) = if x = "value" then ps.all isVal else if x = "name" then ps.all isName else ps.all (nestT k) := by
            simp only [nestT]
            rw [hf]
            rfl
          by_cases h1 : x = "value"
          · rw [decide_eq_true h1]
            obtain ⟨p, rfl⟩ := form_one hf (.inl h1)
            simp only [ThAll] at hr'
            obtain ⟨u, r2, rfl, hu, rfl⟩ := hr'
            refine iteT ⟨_, rfl, a, _, _, u, rfl, rfl, .inl (.inl ha), at1 _ _ _, p, u, rfl, hu, hsp p (List.mem_singleton.mpr rfl), fun H' sm => fin _ ?_ H' sm⟩
            rw [en, if_pos h1]
            simp
          · rw [decide_eq_false h1]
            refine iteF ⟨_, rfl, rfl, _, rfl, ?_⟩
            rw [dec_str]
            by_cases h2 : x = "name"
            · rw [decide_eq_true h2]
              obtain ⟨p, rfl⟩ := form_one hf (.inr h2)
              simp only [ThAll] at hr'
              obtain ⟨u, r2, rfl, hu, rfl⟩ := hr'
              refine iteT ⟨_, rfl, a, _, _, u, rfl, rfl, .inl (.inl ha), at1 _ _ _, p, u, rfl, hu, (hsp p (List.mem_singleton.mpr rfl)).short, fin _ ?_ H (Same.refl _)⟩
              rw [en, if_neg h1, if_pos h2]
              simp
            · rw [decide_eq_false h2]
              refine iteF ?_
              rw [if_neg h1, if_neg h2] at en
              have lps := thAll_len hr'
              refine ⟨.ref a, rfl, 1, rfl, ?_⟩
              dsimp only [tNoPart]
              refine slA_of ha fun b Hb sb hb => ?_
              have hb' : Hb b = some (.tup r) := hb.trans (congrArg (fun z => some (HO.tup z)) ((cut_from (V.str x :: r) 1).trans rfl))
              have hallB := ThAll.same sb _ _ hr'
              refine ⟨b, rfl, ⟨r, .inl (.inl hb')⟩, ?_⟩
              refine for_tup (K := K) (a := b) (xs := r) (D := { nx := tRet (tC (V.bl true)) { nx := fun x H' => Q V.non H', rt := Q }, rt := Q }) (fun i σ H' => ∃ z : Option V, σ = [some (.ref a), some (.int ((k + 1 : Nat) : Int)), some (.str x), z] ∧ Same Hb H' ∧ (ps.take i).all (nestT k) = true)
                ⟨_, rfl, Same.refl _, rfl⟩ (fun i σ H' _ ⟨_, _, sm, _⟩ => .inl (.inl (sm _ _ hb'))) (fun i y σ H' hy hh => ?_) (fun σ H' hh => ?_)
              · obtain ⟨z, rfl, sm, hall'⟩ := hh
                have hi : i < ps.length := by
                  have := (List.getElem?_eq_some_iff.mp hy).1
                  omega
                obtain ⟨u, y', e1, e2, hu⟩ := thAll_get hallB hi
                have ey : y' = y := Option.some.inj (e2.symm.trans hy)
                subst ey
                have hmem := List.mem_of_getElem? e1
                refine ⟨_, rfl, _, rfl, _, _, rfl, rfl, u, y', ?_, Th.same sm _ _ hu, hsp u hmem, fun G2 s2 => ?_⟩
                · exact congrArg (fun z => [y', V.int z]) (show ((k + 1 : Nat) : Int) - 1 = ((k : Nat) : Int) by omega)
                refine ⟨_, rfl, ?_⟩
                cases hl : nestT k u with
                | true =>
                  refine iteF ⟨_, rfl, sm.trans s2, ?_⟩
                  rw [List.take_add_one, e1, List.all_append, hall']
                  simp [hl]
                | false =>
                  refine iteT (fin false ?_ _ (sb.trans (sm.trans s2)))
                  rw [en]
                  exact List.all_eq_false.mpr ⟨u, hmem, by rw [hl]; exact Bool.false_ne_true⟩
              · obtain ⟨z, rfl, sm, hall'⟩ := hh
                rw [List.take_of_length_le (by omega)] at hall'
                exact fin true (en.trans hall') _ (sb.trans sm)
end
end My
namespace My
open PySem PySem.Spec PyProof.Rows L2 LX
theorem none_of {H H' : Hp} {r : Addr} (s : Same H H') (h : H' r = none) : H r = none := by
  cases e : H r with
  | none => rfl
  | some o =>
    have z := s r o e
    rw [h] at z
    cases z
/-- an error class whose __init__ keeps one field p -/
structure EK (prog : Program) (K : PySem.W.Frag) (mg : Str → Option Value) (x p : Str) (C : Addr) : Prop where
  T : ∃ (bm0 : List Value) (B newId initId : String) (bmB : List Value), ExF prog K C bm0 B newId initId bmB x p
  g : mg x = some (.ref C)
  k : PySem.W.keepIn K (.ref C) = true
  ex : PySem.W.subIn K (.ref C) (.type "BaseException") = some true
  ty : PySem.W.typeIn K (.ref C) = some (.type "type")
theorem scIsExpr : FnScope ["expression"] ["expression"] (defScope sIsExpr) := ⟨rfl, rfl, rfl, by decide +kernel, rfl, by decide +kernel, by decide +kernel⟩
theorem scCheckE : FnScope ["expression"] ["expression"] (defScope sCheckE) := ⟨rfl, rfl, rfl, by decide +kernel, rfl, by decide +kernel, by decide +kernel⟩
def spExpr : Sp := fun vs H Q _ => ∃ (t : T) (v : V), vs = [v] ∧ Th H t v ∧ shortA t ∧ ∀ H', Same H H' → Q (.bl (nestT 8 t)) H'
def spCheck (C : Addr) : Sp := fun vs H Q E => ∃ (t : T) (v : V), vs = [v] ∧ Th H t v ∧ shortA t ∧ (nestT 8 t = true → ∀ H', Same H H' → Q .non H') ∧
  (nestT 8 t = false → ∀ H' d, Same H H' → H d = none → H' d = some (.xd [("value", v)]) → E (.ref C) (some d) H')
section
variable {P : Program} {w : World} {K : PySem.W.Frag} {mg : Str → Option Value} {base : Heap}
theorem ok_isExpr {f fN : Addr} {fd fdN : FuncData} (F : Fun K "is_expression" "is_expression" sIsExpr f fd)
    (FN : Fun K "is_nested_expression" "is_nested_expression" sNested fN fdN) (bN : Binds K fdN ["expression", "depth"] []) (gN : mg "is_nested_expression" = some (.ref fN)) (GN : FnOk P w K mg base CX0 15 fN fdN ["expression", "depth"] (spNest 9))
    (md : ∃ t, mg "DEEPEST_EXPRESSION" = some (.int 8 t)) : FnOk P w K mg base CX0 16 f fd ["expression"] spExpr := by
  obtain ⟨t1, m1⟩ := md
  refine F.ok scIsExpr (fun vs H Q E h => ?_) (fun cdv A outer s H vs Q E hr h => ?_)
  · obtain ⟨t, v, rfl, _⟩ := h
    rfl
  · obtain ⟨t, v, rfl, ht, hs, q⟩ := h
    refine ⟨_, pss_one (ps_ret (pe_call GN hr rfl gN FN.kp bN .nil pass0 (pa_cons (pv 0) (pa_cons (pe_glob (v := .int 8) rfl m1 ⟨_, rfl⟩) pa_nil)))), ?_⟩
    exact ⟨_, rfl, t, v, rfl, ht, hs, q⟩
theorem ok_check {f fX C : Addr} {fd fdX : FuncData} (F : Fun K "check_expression" "check_expression" sCheckE f fd)
    (FX : Fun K "is_expression" "is_expression" sIsExpr fX fdX) (bX : Binds K fdX ["expression"] []) (gX : mg "is_expression" = some (.ref fX)) (GX : FnOk P w K mg base CX0 16 fX fdX ["expression"] spExpr)
    (hsu : mg "super" = none) (IE : EK P K mg "InvalidExpression" "value" C) : FnOk P w K mg base (L2.CX P w) 17 f fd ["expression"] (spCheck C) := by
  obtain ⟨bm0, B, newId, initId, bmB, TE⟩ := IE.T
  refine F.okX scCheckE (fun vs H Q E h => ?_) (fun cdv A outer s H vs Q E hr h => ?_)
  · obtain ⟨t, v, rfl, _⟩ := h
    rfl
  · obtain ⟨t, v, rfl, ht, hs, q, qe⟩ := h
    refine ⟨_, pss_one (ps_if (pt_not (pt_val (pe_call GX hr rfl gX FX.kp bX .nil pass0 (pa_cons (pv 0) pa_nil))))
      (pss_one (ps_raise rfl (takes_of rfl rfl rfl rfl) (pmk_nw TE (hr.mono (by decide)) hsu IE.g IE.k IE.ex IE.ty rfl (pv 0)))) pss_nil), ?_⟩
    refine ⟨_, rfl, t, v, rfl, ht, hs, fun H' sm => ⟨_, rfl, ?_⟩⟩
    cases hb : nestT 8 t with
    | true => exact iteF (q hb H' sm)
    | false => exact iteT ⟨_, rfl, fun d hd => qe hb _ d (sm.trans (same_upd hd)) (none_of sm hd) upd_same⟩
end
end My
namespace My
open PySem PySem.Spec PyProof.Rows L2 LX
theorem same_updN {H G : Hp} {p : Addr} {o : HO} (s : Same H G) (n : H p = none) : Same H (upd G p o) := fun b x e => by
  rw [upd_ne (ne_of_none e n)]
  exact s b x e
/-! ### [e for a in xs for b in ys], over a tuple, over lists -/
theorem lc2_tup {K : PySem.W.Frag} {a : Addr} {xs : List V} {g g1 : TG} {tt tt1 : TT} {wi1 : TI} {te : TE} {vs vs1 : List Nat} {σ : L2.St} {H1 : Hp} {D : Addr} {Qd : Hp → Prop} (Pv : Nat → Hp → Prop) (h0 : Pv 0 (upd H1 D (.lst []))) (hl : ∀ i H, i ≤ xs.length → Pv i H → SqT K H a xs)
    (hs : ∀ i x H, xs[i]? = some x → Pv i H → g x (wipe σ vs) H fun σ2 H2 => wipe σ2 vs = wipe σ vs ∧ tt σ2 H2 fun b H3 =>
      if b = true then wi1 σ2 H3 fun J1 H4 => ∃ W1 : Nat → Nat → Hp → Prop, (∃ m, W1 0 m H4) ∧ ∀ j k H, W1 j k H →
        (J1.stop j H ∧ Pv (i + 1) H) ∨ (J1.go j H ∧ ∃ Nx1 : Hp → Prop, (∀ H', Nx1 H' → ∃ k', k' < k ∧ W1 (j + 1) k' H') ∧ ∀ x H', J1.yld j H x H' → g1 x (wipe σ2 vs1) H' fun σ3 H5 => wipe σ3 vs1 = wipe σ2 vs1 ∧ tt1 σ3 H5 fun b H6 =>
          if b = true then te σ3 H6 fun y H7 => ∃ acc, H7 D = some (.lst acc) ∧ acc.length < sizeLine ∧ Nx1 (upd H7 D (.lst (acc ++ [y]))) else Nx1 H6)
      else Pv (i + 1) H3) (hd : ∀ H, Pv xs.length H → Qd H) :
    ∃ W : Nat → Nat → Hp → Prop, (∃ m, W 0 m (upd H1 D (.lst []))) ∧ ∀ i m H, W i m H →
      ((Itt K a).stop i H ∧ Qd H) ∨ ((Itt K a).go i H ∧ ∃ Nx : Hp → Prop, (∀ H', Nx H' → ∃ m', m' < m ∧ W (i + 1) m' H') ∧ ∀ x H', (Itt K a).yld i H x H' → g x (wipe σ vs) H' fun σ2 H2 => wipe σ2 vs = wipe σ vs ∧ tt σ2 H2 fun b H3 =>
        if b = true then wi1 σ2 H3 fun J1 H4 => ∃ W1 : Nat → Nat → Hp → Prop, (∃ m, W1 0 m H4) ∧ ∀ j k H, W1 j k H →
          (J1.stop j H ∧ Nx H) ∨ (J1.go j H ∧ ∃ Nx1 : Hp → Prop, (∀ H', Nx1 H' → ∃ k', k' < k ∧ W1 (j + 1) k' H') ∧ ∀ x H', J1.yld j H x H' → g1 x (wipe σ2 vs1) H' fun σ3 H5 => wipe σ3 vs1 = wipe σ2 vs1 ∧ tt1 σ3 H5 fun b H6 =>
            if b = true then te σ3 H6 fun y H7 => ∃ acc, H7 D = some (.lst acc) ∧ acc.length < sizeLine ∧ Nx1 (upd H7 D (.lst (acc ++ [y]))) else Nx1 H6)
        else Nx H3) := by
  refine ⟨fun i m H => m = xs.length - i ∧ i ≤ xs.length ∧ Pv i H, ⟨xs.length, by simp, Nat.zero_le _, h0⟩, ?_⟩
  rintro i m H ⟨rfl, hi, p⟩
  have q := hl i H hi p
  by_cases hlt : i < xs.length
  · refine .inr ⟨⟨xs, xs[i], q, by simp [hlt]⟩, Pv (i + 1), fun H' p' => ⟨xs.length - (i + 1), by omega, rfl, hlt, p'⟩, fun x H' y => ?_⟩
    obtain ⟨e, y⟩ := y
    subst e
    exact hs i x _ (y xs q) p
  · have e : i = xs.length := by omega
    subst e
    exact .inl ⟨⟨xs, q, Nat.le_refl _⟩, hd H p⟩
theorem lc_in {K : PySem.W.Frag} {a : Addr} {ys : List V} {g1 : TG} {tt1 : TT} {te : TE} {vs1 : List Nat} {σ2 : L2.St} {H4 : Hp} {D : Addr} {Nx : Hp → Prop} (Pw : Nat → Hp → Prop) (h0 : Pw 0 H4) (hl : ∀ j H, j ≤ ys.length → Pw j H → SqL K H a ys)
    (hs : ∀ j y H, ys[j]? = some y → Pw j H → g1 y (wipe σ2 vs1) H fun σ3 H5 => wipe σ3 vs1 = wipe σ2 vs1 ∧ tt1 σ3 H5 fun b H6 =>
      if b = true then te σ3 H6 fun y H7 => ∃ acc, H7 D = some (.lst acc) ∧ acc.length < sizeLine ∧ Pw (j + 1) (upd H7 D (.lst (acc ++ [y]))) else Pw (j + 1) H6) (hd : ∀ H, Pw ys.length H → Nx H) :
    ∃ W1 : Nat → Nat → Hp → Prop, (∃ m, W1 0 m H4) ∧ ∀ j k H, W1 j k H →
      ((Itl K a).stop j H ∧ Nx H) ∨ ((Itl K a).go j H ∧ ∃ Nx1 : Hp → Prop, (∀ H', Nx1 H' → ∃ k', k' < k ∧ W1 (j + 1) k' H') ∧ ∀ x H', (Itl K a).yld j H x H' → g1 x (wipe σ2 vs1) H' fun σ3 H5 => wipe σ3 vs1 = wipe σ2 vs1 ∧ tt1 σ3 H5 fun b H6 =>
        if b = true then te σ3 H6 fun y H7 => ∃ acc, H7 D = some (.lst acc) ∧ acc.length < sizeLine ∧ Nx1 (upd H7 D (.lst (acc ++ [y]))) else Nx1 H6) := by
  refine ⟨fun i m H => m = ys.length - i ∧ i ≤ ys.length ∧ Pw i H, ⟨ys.length, by simp, Nat.zero_le _, h0⟩, ?_⟩
  rintro i m H ⟨rfl, hi, p⟩
  have q := hl i H hi p
  by_cases hlt : i < ys.length
  · refine .inr ⟨⟨ys, ys[i], q, by simp [hlt]⟩, Pw (i + 1), fun H' p' => ⟨ys.length - (i + 1), by omega, rfl, hlt, p'⟩, fun x H' y => ?_⟩
    obtain ⟨e, y⟩ := y
    subst e
    exact hs i x _ (y ys q) p
  · have e : i = ys.length := by omega
    subst e
    exact .inl ⟨⟨ys, q, Nat.le_refl _⟩, hd H p⟩
/-! ### written_names -/
def wn : Nat → T → List Str
  | 0, _ => []
  | n + 1, .tup (.str w :: ps) => if w = "name" then (match ps with | [.str x] => [x] | _ => []) else if w = "value" then [] else ps.flatMap (wn n)
  | _, _ => []
theorem part_two : ∀ w : Str, ∀ i : Int, (partTab.lookup w).getD .non = .int i → i ≤ 2 := by
  intro w i h
  cases e : partTab.lookup w with
  | none =>
    rw [e] at h
    cases h
  | some v =>
    rw [e] at h
    have hm := PySem.mem_of_lookup e
    have hv : v = .int i := h
    subst hv
    simp only [partTab, List.mem_cons, Prod.mk.injEq, V.int.injEq, List.not_mem_nil, or_false] at hm
    rcases hm with ⟨_, rfl⟩ | ⟨_, rfl⟩ | ⟨_, rfl⟩ | ⟨_, rfl⟩ | ⟨_, rfl⟩ | ⟨_, rfl⟩ | ⟨_, rfl⟩ | ⟨_, rfl⟩ | ⟨_, rfl⟩ <;> decide
theorem form_ten {w : Str} {ps : List T} (h : formT (.tup (.str w :: ps)) = true) : ps.length ≤ 10 := by
  simp only [formT] at h
  by_cases h1 : w = "list"
  · rw [if_pos h1] at h
    have := of_decide_eq_true h
    omega
  · rw [if_neg h1] at h
    by_cases h2 : w = "value" ∨ w = "name"
    · rw [if_pos h2] at h
      have := of_decide_eq_true h
      omega
    · rw [if_neg h2] at h
      have := part_two _ _ (of_decide_eq_true h)
      omega
theorem nest_parts {n : Nat} {t : T} (h : nestT (n + 1) t = true) : formT t = true ∧ ∃ w ps, t = .tup (.str w :: ps) ∧ (if w = "value" then ps.all isVal else if w = "name" then ps.all isName else ps.all (nestT n)) = true := by
  cases hf : formT t with
  | false =>
    simp only [nestT] at h
    rw [hf] at h
    exact absurd h (by simp)
  | true =>
    obtain ⟨w, ps, rfl⟩ := form_tup hf
    refine ⟨rfl, w, ps, rfl, ?_⟩
    simp only [nestT] at h
    rw [hf] at h
    exact h
theorem flat_ten {g : T → List Str} {m : Nat} : ∀ {ps : List T}, (∀ p ∈ ps, (g p).length ≤ m) → (ps.flatMap g).length ≤ ps.length * m
  | [], _ => Nat.zero_le _
  | p :: r, h => by
    rw [List.flatMap_cons, List.length_append, List.length_cons, Nat.succ_mul]
    have a := h p List.mem_cons_self
    have b := flat_ten (ps := r) fun q hq => h q (List.mem_cons_of_mem _ hq)
    omega
theorem wn_len : ∀ (n : Nat) (t : T), nestT (n + 1) t = true → (wn (n + 1) t).length ≤ 10 ^ n := by
  intro n
  induction n with
  | zero =>
    intro t h
    obtain ⟨hf, w, ps, rfl, hp⟩ := nest_parts h
    simp only [wn]
    by_cases h1 : w = "name"
    · rw [if_pos h1]
      split <;> simp
    · rw [if_neg h1]
      by_cases h2 : w = "value"
      · rw [if_pos h2]
        exact Nat.zero_le _
      · rw [if_neg h2]
        rw [if_neg h2, if_neg h1] at hp
        cases ps with
        | nil => exact Nat.zero_le _
        | cons p r => exact absurd hp (by simp [nestT])
  | succ k ih =>
    intro t h
    obtain ⟨hf, w, ps, rfl, hp⟩ := nest_parts h
    have h10 := form_ten hf
    have hpos : 0 < 10 ^ (k + 1) := Nat.pow_pos (by decide)
    simp only [wn]
    by_cases h1 : w = "name"
    · rw [if_pos h1]
      split
      · simp only [List.length_singleton]
        exact hpos
      · exact Nat.zero_le _
    · rw [if_neg h1]
      by_cases h2 : w = "value"
      · rw [if_pos h2]
        exact Nat.zero_le _
      · rw [if_neg h2]
        rw [if_neg h2, if_neg h1] at hp
        have hall := List.all_eq_true.mp hp
        have b := flat_ten (g := wn (k + 1)) (m := 10 ^ k) (ps := ps) fun p hp => ih p (hall p hp)
        calc _ ≤ ps.length * 10 ^ k := b
          _ ≤ 10 * 10 ^ k := Nat.mul_le_mul_right _ h10
          _ = 10 ^ (k + 1) := by rw [Nat.pow_succ, Nat.mul_comm]
theorem flat_more {g : T → List Str} {ps : List T} {i : Nat} {u : T} (h : ps[i]? = some u) : (ps.take (i + 1)).flatMap g = (ps.take i).flatMap g ++ g u := by
  rw [List.take_add_one, h, List.flatMap_append]
  simp
theorem flat_part {g : T → List Str} (ps : List T) (i : Nat) : ((ps.take i).flatMap g).length ≤ (ps.flatMap g).length := by
  have e : (ps.flatMap g).length = ((ps.take i).flatMap g).length + ((ps.drop i).flatMap g).length := by
    rw [← List.length_append, ← List.flatMap_append, List.take_append_drop]
  omega
theorem scWritten : FnScope ["expression", "part", "name"] ["expression"] (defScope sWritten) := ⟨rfl, rfl, rfl, by decide +kernel, rfl, by decide +kernel, by decide +kernel⟩
def spWritten : Nat → Sp
  | 0 => fun vs _ _ _ => vs.length = 1 ∧ False
  | n + 1 => fun vs H Q _ => ∃ (t : T) (v : V), vs = [v] ∧ Th H t v ∧ nestT n t = true ∧ ∀ H' r, Same H H' → H r = none → H' r = some (.lst ((wn n t).map V.str)) → Q (.ref r) H'
section
variable {P : Program} {w : World} {K : PySem.W.Frag} {mg : Str → Option Value} {base : Heap}
theorem ok_written {f : Addr} {fd : FuncData} (F : Fun K "written_names" "written_names" sWritten f fd) (bF : Binds K fd ["expression"] []) (gF : mg "written_names" = some (.ref f)) :
    ∀ n : Nat, n ≤ 9 → FnOk P w K mg base CX0 (n + 1) f fd ["expression"] (spWritten n) := by
  intro n
  induction n with
  | zero => exact fun _ => F.ok scWritten (fun vs H Q E h => h.1) (fun cdv A outer s H vs Q E hr h => h.2.elim)
  | succ n ih =>
    intro hn
    have GR := ih (by omega)
    refine F.ok scWritten (fun vs H Q E h => ?_) (fun cdv A outer s H vs Q E hr h => ?_)
    · obtain ⟨t, v, rfl, _⟩ := h
      rfl
    · obtain ⟨t, v, rfl, ht, hne, q⟩ := h
      have ND := scWritten.nd
      refine ⟨_, pss_cons (ps_if (pt_cmpR op_eq (pe_ix ix_tup (pv 0) pe_int (fun _ _ => rfl)) pe_str (nomark _)) (pss_one (ps_ret (pe_lst (pa_cons (pe_ix ix_tup (pv 0) pe_int (fun _ _ => rfl)) pa_nil)))) pss_nil)
        (pss_cons (ps_if (pt_cmpR op_eq (pe_ix ix_tup (pv 0) pe_int (fun _ _ => rfl)) pe_str (nomark _)) (pss_one (ps_ret (pe_lst pa_nil))) pss_nil)
        (pss_one (ps_ret (pe_lc2 (own := [("part", 1), ("name", 2)]) (vs1 := [2]) (g := gName 1) (g1 := gName 2) (tt := tYes) (tt1 := tYes) (wi1 := iList K (tCall (spWritten n) [] E0 (tCons (tVar 1) tNil))) rfl ND (pi_tup (pe_slice sl_tupA (pv 0) (po_some pe_int) po_none))
          (blkOk_by (own := [("part", 1), ("name", 2)]) (N := ["expression", "part", "name"]) (sc := defScope sWritten) (by decide +kernel)) (by decide)
          (fun _ _ _ _ _ => pg_name (i := 1) ND rfl (Or.inl rfl)) (fun _ _ _ _ _ => pts_nil)
          (fun _ _ _ _ _ => pi_list (pe_call GR hr rfl gF F.kp bF .nil pass0 (pa_cons (pv 1) pa_nil)))
          (fun _ _ _ _ _ => pg_name (i := 2) ND rfl (Or.inl rfl)) (fun _ _ _ _ _ => pts_nil)
          (fun _ _ _ _ _ => pv 2))))), ?_⟩
      cases n with
      | zero => exact absurd hne (by simp [nestT])
      | succ k =>
        obtain ⟨hf, x, ps, rfl, hp⟩ := nest_parts hne
        simp only [Th] at ht
        obtain ⟨a, xs, rfl, ha, hxl, hall⟩ := ht
        simp only [ThAll] at hall
        obtain ⟨v0, r, rfl, h0, hr'⟩ := hall
        simp only [Th] at h0
        subst h0
        refine ⟨_, rfl, a, _, _, .str x, rfl, rfl, .inl (.inl ha), at0 _ _, ?_⟩
        refine ⟨rfl, _, rfl, ?_⟩
        rw [dec_str]
        by_cases h1 : x = "name"
        · rw [decide_eq_true h1]
          obtain ⟨p, rfl⟩ := form_one hf (.inr h1)
          have hv : ¬ x = "value" := by
            rw [h1]
            decide +kernel
          rw [if_neg hv, if_pos h1] at hp
          have hp1 : isName p = true := by simpa using hp
          obtain ⟨y, rfl⟩ : ∃ y, p = .str y := by
            cases p with
            | str y => exact ⟨y, rfl⟩
            | _ => exact absurd hp1 (by simp [isName, isKey])
          simp only [ThAll] at hr'
          obtain ⟨u, r2, rfl, hu, rfl⟩ := hr'
          simp only [Th] at hu
          subst hu
          refine iteT ⟨_, rfl, a, _, _, .str y, rfl, rfl, .inl (.inl ha), at1 _ _ _, by show 1 ≤ sizeLine; decide, fun D nD => ?_⟩
          refine q _ D (same_upd nD) nD ?_
          rw [upd_same]
          have e : wn (k + 1) (.tup (.str x :: [.str y])) = [y] := by
            simp only [wn]
            rw [if_pos h1]
          rw [e]
          rfl
        · rw [decide_eq_false h1]
          refine iteF ⟨_, rfl, a, _, _, .str x, rfl, rfl, .inl (.inl ha), at0 _ _, ?_⟩
          refine ⟨rfl, _, rfl, ?_⟩
          rw [dec_str]
          by_cases h2 : x = "value"
          · rw [decide_eq_true h2]
            refine iteT ⟨by show 0 ≤ sizeLine; decide, fun D nD => ?_⟩
            refine q _ D (same_upd nD) nD ?_
            rw [upd_same]
            have e : wn (k + 1) (.tup (.str x :: ps)) = [] := by
              simp only [wn]
              rw [if_neg h1, if_pos h2]
            rw [e]
            rfl
          · rw [decide_eq_false h2]
            refine iteF ?_
            rw [if_neg h2, if_neg h1] at hp
            have hpa := List.all_eq_true.mp hp
            have e : wn (k + 1) (.tup (.str x :: ps)) = ps.flatMap (wn k) := by
              simp only [wn]
              rw [if_neg h1, if_neg h2]
            have htot : (ps.flatMap (wn k)).length < sizeLine := by
              have b := wn_len k _ hne
              rw [e] at b
              have : 10 ^ k ≤ 10 ^ 7 := Nat.pow_le_pow_right (by decide) (by omega)
              rw [sizeLine_eq]
              omega
            rw [e] at q
            have lps := thAll_len hr'
            refine ⟨.ref a, rfl, 1, rfl, ?_⟩
            dsimp only [tNoPart]
            refine slA_of ha fun b Hb sb hb => ?_
            have hb' : Hb b = some (.tup r) := hb.trans (congrArg (fun z => some (HO.tup z)) ((cut_from (V.str x :: r) 1).trans rfl))
            have hallB := ThAll.same sb _ _ hr'
            refine ⟨b, rfl, ⟨r, .inl (.inl hb')⟩, fun D nD => ?_⟩
            refine lc2_tup (K := K) (a := b) (xs := r) (fun i H' => Same Hb H' ∧ H' D = some (.lst (((ps.take i).flatMap (wn k)).map V.str))) ⟨same_upd nD, by rw [upd_same]; rfl⟩ (fun i H' _ ⟨sm, _⟩ => .inl (.inl (sm _ _ hb'))) (fun i y H' hy hh => ?_) (fun H' hh => ?_)
            · obtain ⟨sm, hD⟩ := hh
              have hi : i < ps.length := by
                have := (List.getElem?_eq_some_iff.mp hy).1
                omega
              obtain ⟨u, y', e1, e2, hu⟩ := thAll_get hallB hi
              have ey : y' = y := Option.some.inj (e2.symm.trans hy)
              subst ey
              have hmem := List.mem_of_getElem? e1
              refine ⟨rfl, tYes_if ?_⟩
              refine ⟨_, rfl, ?_⟩
              cases k with
              | zero => exact absurd (hpa u hmem) (by simp [nestT])
              | succ k2 =>
              refine ⟨u, y', rfl, Th.same sm _ _ hu, hpa u hmem, fun H2 l s2 nl hl => ?_⟩
              refine ⟨l, rfl, ⟨_, SqL.of hl⟩, ?_⟩
              have nlD : l ≠ D := fun z => by
                rw [z, hD] at nl
                cases nl
              refine lc_in (K := K) (a := l) (ys := (wn (k2 + 1) u).map V.str) (fun j H' => Same Hb H' ∧ H' l = some (.lst ((wn (k2 + 1) u).map V.str)) ∧ H' D = some (.lst (((ps.take i).flatMap (wn (k2 + 1)) ++ (wn (k2 + 1) u).take j).map V.str))) ⟨sm.trans s2, hl, ?_⟩ (fun j H' _ hh => SqL.of hh.2.1) (fun j y H' hy hh => ?_) (fun H' hh => ?_)
              · rw [List.take_zero, List.append_nil]
                exact s2 _ _ hD
              · obtain ⟨s3, hl3, hD3⟩ := hh
                obtain ⟨z, hz, ez⟩ : ∃ z, (wn (k2 + 1) u)[j]? = some z ∧ V.str z = y := by
                  rw [List.getElem?_map] at hy
                  exact Option.map_eq_some_iff.mp hy
                subst ez
                refine ⟨rfl, tYes_if ⟨_, rfl, _, hD3, ?_, ?_⟩⟩
                · have b1 := flat_part (g := wn (k2 + 1)) ps (i + 1)
                  rw [flat_more e1, List.length_append] at b1
                  rw [List.length_map, List.length_append, List.length_take]
                  omega
                · refine ⟨same_updN s3 nD, ?_, ?_⟩
                  · rw [upd_ne nlD]
                    exact hl3
                  · rw [upd_same, List.take_add_one, hz, ← List.append_assoc, List.map_append (l₂ := (some z).toList)]
                    rfl
              · obtain ⟨s3, hl3, hD3⟩ := hh
                rw [List.length_map, List.take_length, ← flat_more e1] at hD3
                exact ⟨s3, hD3⟩
            · obtain ⟨sm, hD⟩ := hh
              rw [← lps, List.take_length] at hD
              exact q _ D (sb.trans sm) (none_of sb nD) hD
end
end My
namespace My
open PySem PySem.Spec PyProof.Rows L2 LX
/-! ### {k: v for a in xs}, over a list -/
theorem dc_list {K : PySem.W.Frag} {a : Addr} {xs : List V} {g : TG} {tt : TT} {tk tv : TE} {vs : List Nat} {σ : L2.St} {H1 : Hp} {D : Addr} {Qd : Hp → Prop} (Pv : Nat → Hp → Prop) (h0 : Pv 0 (upd H1 D (.dK []))) (hl : ∀ i H, i ≤ xs.length → Pv i H → SqL K H a xs)
    (hs : ∀ i x H, xs[i]? = some x → Pv i H → g x (wipe σ vs) H fun σ2 H2 => wipe σ2 vs = wipe σ vs ∧ tt σ2 H2 fun b H3 =>
      if b = true then tk σ2 H3 fun y H4 => tv σ2 H4 fun z H5 => ∃ kvs k, y = kV k ∧ H5 D = some (.dK kvs) ∧ kvs.length < sizeLine ∧ Pv (i + 1) (upd H5 D (.dK (putK kvs k z))) else Pv (i + 1) H3) (hd : ∀ H, Pv xs.length H → Qd H) :
    ∃ W : Nat → Nat → Hp → Prop, (∃ m, W 0 m (upd H1 D (.dK []))) ∧ ∀ i m H, W i m H →
      ((Itl K a).stop i H ∧ Qd H) ∨ ((Itl K a).go i H ∧ ∃ Nx : Hp → Prop, (∀ H', Nx H' → ∃ m', m' < m ∧ W (i + 1) m' H') ∧ ∀ x H', (Itl K a).yld i H x H' → g x (wipe σ vs) H' fun σ2 H2 => wipe σ2 vs = wipe σ vs ∧ tt σ2 H2 fun b H3 =>
        if b = true then tk σ2 H3 fun y H4 => tv σ2 H4 fun z H5 => ∃ kvs k, y = kV k ∧ H5 D = some (.dK kvs) ∧ kvs.length < sizeLine ∧ Nx (upd H5 D (.dK (putK kvs k z))) else Nx H3) := by
  refine ⟨fun i m H => m = xs.length - i ∧ i ≤ xs.length ∧ Pv i H, ⟨xs.length, by simp, Nat.zero_le _, h0⟩, ?_⟩
  rintro i m H ⟨rfl, hi, p⟩
  have q := hl i H hi p
  by_cases hlt : i < xs.length
  · refine .inr ⟨⟨xs, xs[i], q, by simp [hlt]⟩, Pv (i + 1), fun H' p' => ⟨xs.length - (i + 1), by omega, rfl, hlt, p'⟩, fun x H' y => ?_⟩
    obtain ⟨e, y⟩ := y
    subst e
    exact hs i x _ (y xs q) p
  · have e : i = xs.length := by omega
    subst e
    exact .inl ⟨⟨xs, q, Nat.le_refl _⟩, hd H p⟩
/-! ### names_in -/
/-- the names as the keys of a dict -/
def nk (l : List Str) : List (Key × V) := l.foldl (fun acc x => putK acc (.inr x) (.bl true)) []
def onceS (l : List Str) : List V := (nk l).map fun kv => kV kv.1
theorem nk_snoc (l : List Str) (x : Str) : nk (l ++ [x]) = putK (nk l) (.inr x) (.bl true) := by
  unfold nk
  rw [List.foldl_append]
  rfl
theorem nk_lenA : ∀ (l : List Str) (acc : List (Key × V)), (l.foldl (fun acc x => putK acc (.inr x) (.bl true)) acc).length ≤ acc.length + l.length
  | [], _ => Nat.le_refl _
  | x :: r, acc => by
    have a := nk_lenA r (putK acc (.inr x) (.bl true))
    have b := length_putK acc (.inr x) (.bl true)
    simp only [List.foldl_cons, List.length_cons]
    omega
theorem nk_len (l : List Str) : (nk l).length ≤ l.length := by
  have := nk_lenA l []
  rw [List.length_nil, Nat.zero_add] at this
  exact this
theorem scNames : FnScope ["expression", "name"] ["expression"] (defScope sNamesIn) := ⟨rfl, rfl, rfl, by decide +kernel, rfl, by decide +kernel, by decide +kernel⟩
def spNames (C : Addr) : Sp := fun vs H Q E => ∃ (t : T) (v : V), vs = [v] ∧ Th H t v ∧ shortA t ∧
  (nestT 8 t = true → ∀ H' r, Same H H' → H r = none → H' r = some (.lst (onceS (wn 8 t))) → Q (.ref r) H') ∧
  (nestT 8 t = false → ∀ H' d, Same H H' → H d = none → H' d = some (.xd [("value", v)]) → E (.ref C) (some d) H')
section
variable {P : Program} {w : World} {K : PySem.W.Frag} {mg : Str → Option Value} {base : Heap}
theorem ok_names {f fC fW C : Addr} {fd fdC fdW : FuncData} (F : Fun K "names_in" "names_in" sNamesIn f fd)
    (FC : Fun K "check_expression" "check_expression" sCheckE fC fdC) (bC : Binds K fdC ["expression"] []) (gC : mg "check_expression" = some (.ref fC)) (GC : FnOk P w K mg base (L2.CX P w) 17 fC fdC ["expression"] (spCheck C))
    (FW : Fun K "written_names" "written_names" sWritten fW fdW) (bW : Binds K fdW ["expression"] []) (gW : mg "written_names" = some (.ref fW)) (GW : FnOk P w K mg base CX0 10 fW fdW ["expression"] (spWritten 9))
    (gl : mg "list" = none) : FnOk P w K mg base (L2.CX P w) 18 f fd ["expression"] (spNames C) := by
  refine F.okX scNames (fun vs H Q E h => ?_) (fun cdv A outer s H vs Q E hr h => ?_)
  · obtain ⟨t, v, rfl, _⟩ := h
    rfl
  · obtain ⟨t, v, rfl, ht, hs, q, qe⟩ := h
    have ND := scNames.nd
    refine ⟨_, pss_cons (ps_expr (pe_call (E := E) GC hr rfl gC FC.kp bC .nil (passes_call (takes_of rfl rfl rfl rfl) (fun _ _ _ _ h => h)) (pa_cons (pv 0) pa_nil)))
      (pss_one (ps_ret (pe_callTy (call_list_dK rfl) (by rfl) gl (by decide +kernel) (pa_cons
        (pe_dc (own := [("name", 1)]) (g := gName 1) (tt := tYes) rfl ND (pi_list (pe_call GW (hr.mono (by decide)) (by rfl) gW FW.kp bW .nil pass0 (pa_cons (pv 0) pa_nil)))
          (blkOk_by (own := [("name", 1)]) (N := ["expression", "name"]) (sc := defScope sNamesIn) (by decide +kernel))
          (fun _ _ _ _ _ => pg_name (i := 1) ND rfl (Or.inl rfl)) (fun _ _ _ _ _ => pts_nil) (fun _ _ _ _ _ => pv 1) (fun _ _ _ _ _ => pe_bl)) pa_nil)))), ?_⟩
    refine ⟨_, rfl, t, v, rfl, ht, hs, fun hb H' sm => ?_, fun hb H' d sm nd hd => qe hb H' d sm nd hd⟩
    refine ⟨_, rfl, t, v, rfl, Th.same sm _ _ ht, hb, fun H2 l s2 nl hl => ?_⟩
    have hlen : (wn 8 t).length < sizeLine := by
      have b : (wn 8 t).length ≤ 10 ^ 7 := wn_len 7 t hb
      rw [sizeLine_eq]
      omega
    refine ⟨l, rfl, ⟨_, SqL.of hl⟩, fun D nD => ?_⟩
    have hlD : l ≠ D := ne_of_none hl nD
    refine dc_list (K := K) (a := l) (xs := (wn 8 t).map V.str) (fun i G => Same H2 G ∧ G D = some (.dK (nk ((wn 8 t).take i)))) ⟨same_upd nD, by rw [upd_same]; rfl⟩ (fun i G _ hh => SqL.of (hh.1 _ _ hl)) (fun i y G hy hh => ?_) (fun G hh => ?_)
    · obtain ⟨s3, hD⟩ := hh
      obtain ⟨z, hz, ez⟩ : ∃ z, (wn 8 t)[i]? = some z ∧ V.str z = y := by
        rw [List.getElem?_map] at hy
        exact Option.map_eq_some_iff.mp hy
      subst ez
      refine ⟨rfl, tYes_if ⟨_, rfl, _, .inr z, rfl, hD, ?_, same_updN s3 nD, ?_⟩⟩
      · have b := nk_len ((wn 8 t).take i)
        rw [List.length_take] at b
        omega
      · rw [upd_same, List.take_add_one, hz]
        exact congrArg (fun z => some (HO.dK z)) (nk_snoc _ _).symm
    · obtain ⟨s3, hD⟩ := hh
      rw [List.length_map, List.take_length] at hD
      refine ⟨D, _, rfl, hD, fun r nr => ?_⟩
      refine q hb _ r (sm.trans (s2.trans (s3.trans (same_upd nr)))) (none_of (sm.trans (s2.trans s3)) nr) ?_
      rw [upd_same]
      rfl
end
end My
namespace My
open PySem PySem.Spec PyProof.Rows L2 LZ
/-! ### are_equal -/
mutual
def eqT : T → T → Bool
  | .non, .non => true
  | .bl a, .bl b => a == b
  | .int a, .int b => a == b
  | .str a, .str b => decide (a = b)
  | .tup ts, .tup us => eqAll ts us
  | _, _ => false
def eqAll : List T → List T → Bool
  | [], [] => true
  | t :: ts, u :: us => eqT t u && eqAll ts us
  | _, _ => false
end
mutual
def szT : T → Nat
  | .tup ts => 1 + szAll ts
  | _ => 1
def szAll : List T → Nat
  | [] => 0
  | t :: ts => szT t + szAll ts
end
theorem eqAll_zip : ∀ (ts us : List T), ts.length = us.length → eqAll ts us = (ts.zip us).all (fun p => eqT p.1 p.2)
  | [], [], _ => by simp [eqAll]
  | t :: ts, u :: us, h => by
    rw [List.length_cons, List.length_cons] at h
    simp only [eqAll, List.zip_cons_cons, List.all_cons]
    rw [eqAll_zip ts us (by omega)]
  | [], u :: us, h => by simp at h
  | t :: ts, [], h => by simp at h
theorem eqAll_len : ∀ (ts us : List T), ts.length ≠ us.length → eqAll ts us = false
  | [], [], h => absurd rfl h
  | t :: ts, u :: us, h => by
    rw [List.length_cons, List.length_cons] at h
    simp only [eqAll]
    rw [eqAll_len ts us (by omega), Bool.and_false]
  | [], u :: us, h => by simp [eqAll]
  | t :: ts, [], h => by simp [eqAll]
theorem scEqual : FnScope ["one", "other", "pairs", "first", "second", "kind"] ["one", "other"] (defScope sEqual) := ⟨rfl, rfl, rfl, by decide +kernel, rfl, by decide +kernel, by decide +kernel⟩
/-! ### kinds -/
theorem kind_list {t : T} (h : kindS t = "list") : ∃ ts, t = .tup ts := by
  cases t with
  | tup ts => exact ⟨ts, rfl⟩
  | _ => exact absurd h (by simp only [kindS]; decide +kernel)
theorem kind_oth {t : T} (h : kindS t = "other") : ∃ d, t = .oth d := by
  cases t with
  | oth d => exact ⟨d, rfl⟩
  | _ => exact absurd h (by simp only [kindS]; decide +kernel)
theorem kind_ne {s t : T} (h : kindS s ≠ kindS t) : eqT s t = false := by
  cases s <;> cases t <;> first | (simp [eqT]; done) | exact absurd rfl h
theorem eqT_oth (d : Bool) (t : T) : eqT (.oth d) t = false := by
  cases t <;> simp [eqT]
theorem kind_eq {H : Hp} {s t : T} {u v : V} (h : kindS s = kindS t) (h1 : kindS s ≠ "other") (h2 : kindS s ≠ "list") (hu : Th H s u) (hv : Th H t v) : scal u v = true ∧ eqT s t = decide (u = v) := by
  cases s <;> cases t <;> first
    | exact absurd h (by simp only [kindS]; decide +kernel)
    | exact absurd rfl h1
    | exact absurd rfl h2
    | skip
  · simp only [Th] at hu hv
    subst hu hv
    exact ⟨rfl, by simp [eqT]⟩
  · simp only [Th] at hu hv
    subst hu hv
    rename_i a b
    exact ⟨rfl, by cases a <;> cases b <;> simp [eqT]⟩
  · simp only [Th] at hu hv
    subst hu hv
    rename_i a b
    refine ⟨rfl, ?_⟩
    simp only [eqT]
    by_cases e : a = b
    · subst e
      simp
    · have e2 : ¬ V.int a = V.int b := fun q => e (V.int.inj q)
      rw [decide_eq_false e2, beq_eq_false_iff_ne.mpr e]
  · simp only [Th] at hu hv
    subst hu hv
    rename_i a b
    refine ⟨rfl, ?_⟩
    simp only [eqT]
    by_cases e : a = b
    · subst e
      simp
    · have e2 : ¬ V.str a = V.str b := fun q => e (V.str.inj q)
      rw [decide_eq_false e2, decide_eq_false e]
/-! ### what is still to be compared -/
abbrev Pend (H H' : Hp) : List V → List (T × T) → Prop := Paired fun r p => ∃ (a : Addr) (u v : V), r = .ref a ∧ H' a = some (.tup [u, v]) ∧ Th H p.1 u ∧ Th H p.2 v
theorem Pend.last {H H' : Hp} : ∀ {rs : List V} {ps : List (T × T)}, Pend H H' rs ps → rs ≠ [] →
    ∃ (rs' : List V) (ps' : List (T × T)) (a : Addr) (u v : V) (p : T × T), rs = rs' ++ [.ref a] ∧ ps = ps' ++ [p] ∧ Pend H H' rs' ps' ∧ H' a = some (.tup [u, v]) ∧ Th H p.1 u ∧ Th H p.2 v
  | _, _, .nil, h => absurd rfl h
  | _, _, .cons (a := r) (b := p) ⟨a, u, v, e, h1, h2, h3⟩ .nil, _ => ⟨[], [], a, u, v, p, by rw [e]; rfl, rfl, .nil, h1, h2, h3⟩
  | _, _, .cons (a := r) (b := p) h (.cons h' t), _ => by
    obtain ⟨rs', ps', a, u, v, q, e1, e2, h1, h2, h3, h4⟩ := Pend.last (.cons h' t) (by simp)
    exact ⟨r :: rs', p :: ps', a, u, v, q, by rw [e1]; rfl, by rw [e2]; rfl, .cons h h1, h2, h3, h4⟩
theorem Pend.keep {H H1 H2 : Hp} (k : ∀ b t, H1 b = some (.tup t) → H2 b = some (.tup t)) : ∀ {rs : List V} {ps : List (T × T)}, Pend H H1 rs ps → Pend H H2 rs ps
  | _, _, .nil => .nil
  | _, _, .cons ⟨a, u, v, e, h1, h2⟩ t => .cons ⟨a, u, v, e, k _ _ h1, h2⟩ (Pend.keep k t)
theorem Pend.app {H H' : Hp} : ∀ {rs rs2 : List V} {ps ps2 : List (T × T)}, Pend H H' rs ps → Pend H H' rs2 ps2 → Pend H H' (rs ++ rs2) (ps ++ ps2)
  | _, _, _, _, .nil, h => h
  | _, _, _, _, .cons h t, h2 => .cons h (Pend.app t h2)
theorem pend_zip {H H' : Hp} : ∀ {ts us : List T} {xs ys rs : List V}, ThAll H ts xs → ThAll H us ys → PairsAt H' rs (xs.zip ys) → ts.length = us.length → Pend H H' rs (ts.zip us)
  | [], [], xs, ys, rs, h1, h2, h3, _ => by
    simp only [ThAll] at h1 h2
    subst h1 h2
    cases h3
    exact .nil
  | t :: ts, u :: us, xs, ys, rs, h1, h2, h3, hl => by
    simp only [ThAll] at h1 h2
    obtain ⟨v, r, rfl, a1, a2⟩ := h1
    obtain ⟨v2, r2, rfl, b1, b2⟩ := h2
    rw [List.zip_cons_cons] at h3
    cases h3 with
    | cons h3 t3 =>
      obtain ⟨A, e, eA⟩ := h3
      rw [List.length_cons, List.length_cons] at hl
      exact .cons ⟨A, v, v2, e, eA, a1, b1⟩ (pend_zip a2 b2 t3 (by omega))
  | [], u :: us, _, _, _, _, _, _, hl => by simp at hl
  | t :: ts, [], _, _, _, _, _, _, hl => by simp at hl
theorem pairsKeepT {H H' : Hp} (k : ∀ b t, H b = some (.tup t) → H' b = some (.tup t)) : ∀ {rs : List V} {ps : List (V × V)}, PairsAt H rs ps → PairsAt H' rs ps
  | _, _, .nil => .nil
  | _, _, .cons ⟨A, e1, e2⟩ t => .cons ⟨A, e1, k _ _ e2⟩ (pairsKeepT k t)
def mu (ps : List (T × T)) : Nat := (ps.map fun p => szT p.1).sum
theorem szT_pos (t : T) : 1 ≤ szT t := by
  cases t <;> simp [szT]
theorem mu_app (ps qs : List (T × T)) : mu (ps ++ qs) = mu ps + mu qs := by
  unfold mu
  rw [List.map_append, List.sum_append]
theorem mu_len : ∀ ps : List (T × T), ps.length ≤ mu ps
  | [] => Nat.zero_le _
  | p :: ps => by
    have h := mu_len ps
    have h2 := szT_pos p.1
    show ps.length + 1 ≤ (szT p.1 :: ps.map fun p => szT p.1).sum
    rw [List.sum_cons]
    unfold mu at h
    omega
theorem mu_zip : ∀ ts us : List T, ts.length = us.length → mu (ts.zip us) = szAll ts
  | [], [], _ => by simp [mu, szAll]
  | t :: ts, u :: us, h => by
    rw [List.length_cons, List.length_cons] at h
    have ih := mu_zip ts us (by omega)
    rw [List.zip_cons_cons]
    show (szT t :: (ts.zip us).map fun p => szT p.1).sum = szAll (t :: ts)
    rw [List.sum_cons]
    unfold mu at ih
    rw [ih]
    simp [szAll]
  | [], u :: us, hl => by simp at hl
  | t :: ts, [], hl => by simp at hl
theorem szAll_len : ∀ ts : List T, ts.length ≤ szAll ts
  | [] => Nat.zero_le _
  | t :: ts => by
    have h := szAll_len ts
    have h2 := szT_pos t
    simp only [szAll, List.length_cons]
    omega
structure TxtE (mg : Str → Option Value) : Prop where
  len : mg "len" = none
  list : mg "list" = none
  zip : mg "zip" = none
def spEq : Sp := fun vs H Q _ => ∃ (d e : T) (x y : V), vs = [x, y] ∧ Th H d x ∧ Th H e y ∧ szT d < 100000 ∧ ∀ H', Same H H' → Q (.bl (eqT d e)) H'
section
variable {P : Program} {w : World} {K : PySem.W.Frag} {mg : Str → Option Value} {base : Heap}
theorem ok_equal {f fK : Addr} {fd fdK : FuncData} (F : Fun K "are_equal" "are_equal" sEqual f fd) (FK : Fun K "kind_of" "kind_of" sKind fK fdK) (bK : Binds K fdK ["value"] []) (gK : mg "kind_of" = some (.ref fK)) (TK : TxtK mg) (TE : TxtE mg) :
    FnOk P w K mg base CX0 2 f fd ["one", "other"] spEq := by
  have GK : FnOk P w K mg base CX0 1 fK fdK ["value"] spKind := ok_kind FK TK
  refine F.ok scEqual (fun vs H Q E h => ?_) (fun cdv A outer s H vs Q E hr h => ?_)
  · obtain ⟨d, e, x, y, rfl, _⟩ := h
    rfl
  · obtain ⟨d, e, x, y, rfl, hd, he, hsz, q⟩ := h
    refine ⟨_, pss_cons (ps_set (i := 2) scEqual.nd rfl (.inl rfl) (pe_lst (pa_cons (pe_tup (pa_cons (pv 0) (pa_cons (pv 1) pa_nil))) pa_nil)))
      (pss_cons (ps_while PassesOwn.never (pt_truth (pv 2) (by intro _; rfl))
        (pss_cons (ps_asg (pe_bm0 PySem.F.plainAttrs_list PySem.F.slot_list_pop PySem.F.type_list_pop mt_pop (pv 2)) (pg_tup (by rfl) (pgs_cons (pg_name (i := 3) scEqual.nd rfl (.inl rfl)) (pgs_cons (pg_name (i := 4) scEqual.nd rfl (.inl rfl)) pgs_nil))))
        (pss_cons (ps_set (i := 5) scEqual.nd rfl (.inl rfl) (pe_call GK hr rfl gK FK.kp bK .nil pass0 (pa_cons (pv 3) pa_nil)))
        (pss_cons (ps_if (PW.pt (pw_or (pt_cmpR op_eq (pv 5) pe_str (nomark _)) (pw_or1 (pt_cmpR op_ne (pv 5) (pe_call GK hr rfl gK FK.kp bK .nil pass0 (pa_cons (pv 4) pa_nil)) (nomark _))))) (pss_one (ps_ret pe_bl)) pss_nil)
        (pss_one (ps_if (pt_cmpR op_eq (pv 5) pe_str (nomark _))
          (pss_cons (ps_if (pt_cmpR op_ne (pe_callB call_len_seq (by rfl) TE.len PySem.boot_len (pa_cons (pv 3) pa_nil)) (pe_callB call_len_seq (by rfl) TE.len PySem.boot_len (pa_cons (pv 4) pa_nil)) (nomark _)) (pss_one (ps_ret pe_bl)) pss_nil)
            (pss_one (ps_expr (pe_bm PySem.F.plainAttrs_list PySem.F.slot_list_extend PySem.F.type_list_extend mt_extend (pv 2) (pa_cons (pe_listZip rfl (by rfl) TE.list (by rfl) TE.zip (pa_cons (pv 3) (pa_cons (pv 4) pa_nil))) pa_nil)))))
          (pss_one (ps_if (pt_cmpR op_ne (pv 3) (pv 4) (nomark _)) (pss_one (ps_ret pe_bl)) pss_nil))))))))
      (pss_one (ps_ret pe_bl))), ?_⟩
    refine ⟨_, rfl, _, rfl, by show 2 ≤ sizeLine; decide, fun p0 np0 => ?_⟩
    refine ⟨by show 1 ≤ sizeLine; decide, fun P0 nP0 => ?_⟩
    have s1 : Same H (upd H p0 (.tup [x, y])) := same_upd np0
    have nP : H P0 = none := s1.free nP0
    refine ⟨fun m σ H' => ∃ (rs : List V) (ps : List (T × T)) (s3 s4 s5 : Option V), σ = [some x, some y, some (.ref P0), s3, s4, s5] ∧ Same H H' ∧ H' P0 = some (.lst rs) ∧ Pend H H' rs ps ∧ (ps.all fun p => eqT p.1 p.2) = eqT d e ∧ mu ps ≤ szT d ∧ m = mu ps, ⟨_, [.ref p0], [(d, e)], none, none, none, rfl, s1.trans (same_upd nP0), upd_same, ?_, by simp, by simp [mu], rfl⟩, ?_⟩
    · have n0 : p0 ≠ P0 := ne_of_none (H := upd H p0 (.tup [x, y])) upd_same nP0
      exact .cons ⟨p0, x, y, rfl, by rw [upd_ne n0, upd_same], hd, he⟩ .nil
    · rintro m σ H' ⟨rs, ps, s3, s4, s5, rfl, sm, hP, hpend, hall, hmu, rfl⟩
      have hS : SqL K H' P0 rs := .inl (.inl hP)
      refine ⟨_, rfl, !rs.isEmpty, .inl ⟨rs, hS, rfl⟩, ?_⟩
      by_cases hrs : rs = []
      · subst hrs
        cases hpend
        refine iteF ?_
        have e1 : eqT d e = true := hall.symm
        have q1 := q H' sm
        rw [e1] at q1
        exact q1
      · have hne : (!rs.isEmpty) = true := by
          cases rs with
          | nil => exact absurd rfl hrs
          | cons r rs => rfl
        rw [hne]
        refine iteT ?_
        obtain ⟨rs', ps', a, u, v, p, rfl, rfl, hp1, ha, hu, hv⟩ := hpend.last hrs
        have hmu2 := hmu
        rw [mu_app] at hmu2
        have hmp : mu [p] = szT p.1 := by simp [mu]
        have hlen : rs'.length = ps'.length := Paired.length hp1
        have hml := mu_len ps'
        have na : a ≠ P0 := ne_of ha hP (by intro z; cases z)
        -- first, second = pairs.pop()
        refine ⟨fun σ2 H2 => ∃ (rs2 : List V) (ps2 : List (T × T)) (t3 t4 t5 : Option V), σ2 = [some x, some y, some (.ref P0), t3, t4, t5] ∧ Same H H2 ∧ H2 P0 = some (.lst rs2) ∧ Pend H H2 rs2 ps2 ∧ (ps2.all fun p => eqT p.1 p.2) = eqT d e ∧ mu ps2 ≤ szT d ∧ mu ps2 < mu (ps' ++ [p]), ?_, ?_⟩
        · rintro σ2 H2 ⟨rs2, ps2, t3, t4, t5, e1, e2, e3, e4, e5, e6, e7⟩
          exact ⟨mu ps2, e7, rs2, ps2, t3, t4, t5, e1, e2, e3, e4, e5, e6, rfl⟩
        refine ⟨_, rfl, .inl ⟨rfl, _, hS⟩, P0, _, .ref a, rfl, rfl, hP, ?_, ?_⟩
        · simp
        rw [List.dropLast_concat]
        have ha2 : upd H' P0 (.lst rs') a = some (.tup [u, v]) := by
          rw [upd_ne na]
          exact ha
        refine ⟨a, [u, v], rfl, .inl (.inl ha2), rfl, u, [v], rfl, v, [], rfl, rfl, ?_⟩
        have sm2 : Same H (upd H' P0 (.lst rs')) := fun b o eb => by
          rw [upd_ne (ne_of_none eb nP)]
          exact sm _ _ eb
        have hu2 : Th (upd H' P0 (.lst rs')) p.1 u := Th.same sm2 _ _ hu
        have hv2 : Th (upd H' P0 (.lst rs')) p.2 v := Th.same sm2 _ _ hv
        have hpend2 : Pend H (upd H' P0 (.lst rs')) rs' ps' := hp1.keep fun b t eb => by
          rw [upd_ne (ne_of eb hP (by intro z; cases z))]
          exact eb
        have hall2 : ((ps'.all fun p => eqT p.1 p.2) && eqT p.1 p.2) = eqT d e := by
          rw [List.all_append] at hall
          simpa using hall
        generalize eH : upd H' P0 (.lst rs') = H2 at ha2 sm2 hu2 hv2 hpend2
        have hP2 : H2 P0 = some (.lst rs') := by rw [← eH, upd_same]
        refine ⟨_, rfl, p.1, u, rfl, hu2, ?_⟩
        have fin_false : eqT p.1 p.2 = false → Q (.bl false) H2 := fun z => by
          have e1 : eqT d e = false := by rw [← hall2, z, Bool.and_false]
          have q1 := q H2 sm2
          rw [e1] at q1
          exact q1
        -- if kind == "other" or kind != kind_of(second): return False
        refine ⟨_, rfl, rfl, _, rfl, ?_⟩
        refine ite2 (fun ho => ?_) (fun ho => ?_)
        · refine iteT ?_
          have ho2 : kindS p.1 = "other" := V.str.inj (of_decide_eq_true ho)
          exact fin_false (by obtain ⟨d0, e0⟩ := kind_oth ho2; rw [e0]; exact eqT_oth _ _)
        have ho2 : kindS p.1 ≠ "other" := fun z => ho (decide_eq_true (by rw [z]))
        refine ⟨_, rfl, _, rfl, p.2, v, rfl, hv2, rfl, _, rfl, ?_⟩
        refine ite2 (fun hk => ?_) (fun hk => ?_)
        · have hk2 : kindS p.1 ≠ kindS p.2 := fun z => by
            rw [z] at hk
            simp at hk
          exact fin_false (kind_ne hk2)
        have hk2 : kindS p.1 = kindS p.2 := by
          by_cases z : kindS p.1 = kindS p.2
          · exact z
          · have z2 : ¬ V.str (kindS p.1) = V.str (kindS p.2) := fun q => z (V.str.inj q)
            exact absurd (by rw [decide_eq_false z2]; rfl) hk
        -- if kind == "list":
        refine ⟨_, rfl, rfl, _, rfl, ?_⟩
        refine ite2 (fun hli => ?_) (fun hli => ?_)
        · have hli2 : kindS p.1 = "list" := V.str.inj (of_decide_eq_true hli)
          obtain ⟨d1, e1⟩ := p
          obtain ⟨ts, ets⟩ := kind_list hli2
          obtain ⟨us, eus⟩ := kind_list (hk2.symm.trans hli2)
          have ets' : d1 = .tup ts := ets
          have eus' : e1 = .tup us := eus
          subst ets' eus'
          simp only [Th] at hu2 hv2 hu hv
          obtain ⟨a1, xs, rfl, hx, hxl, hxs⟩ := hu2
          obtain ⟨b1, ys, rfl, hy, hyl, hys⟩ := hv2
          have l1 := thAll_len hxs
          have l2 := thAll_len hys
          refine ⟨_, rfl, a1, xs, rfl, .inr (.inl (.inl hx)), _, rfl, b1, ys, rfl, .inr (.inl (.inl hy)), rfl, _, rfl, ?_⟩
          refine ite2 (fun hn => ?_) (fun hn => ?_)
          · refine fin_false ?_
            simp only [eqT]
            refine eqAll_len _ _ fun z => ?_
            rw [show xs.length = ys.length by omega] at hn
            simp at hn
          have hn2 : xs.length = ys.length := by
            by_cases z : xs.length = ys.length
            · exact z
            · have z2 : ¬ V.int ((xs.length : Nat) : Int) = V.int ((ys.length : Nat) : Int) := fun q => z (by have := V.int.inj q; omega)
              exact absurd (by rw [decide_eq_false z2]; rfl) hn
          have hlts : ts.length = us.length := by omega
          -- pairs.extend(list(zip(first, second)))
          refine ⟨_, rfl, .inl ⟨rfl, _, .inl (.inl hP2)⟩, _, rfl, _, rfl, a1, b1, xs, ys, rfl, .inl (.inl hx), .inl (.inl hy), hn2, small1000 (by omega), fun q2 H3 rs3 nq2 sm3 hq3 hps3 => ?_⟩
          have hP3 : H3 P0 = some (.lst rs') := sm3 _ _ hP2
          have hsz1 : mu (ts.zip us) = szAll ts := mu_zip ts us hlts
          have hszt : szT (.tup ts) = 1 + szAll ts := by simp [szT]
          have hmp2 : mu [((.tup ts : T), (.tup us : T))] = 1 + szAll ts := by rw [hmp]; exact hszt
          have hlz : rs3.length = (ts.zip us).length := by
            have e1 := Paired.length hps3
            rw [e1, List.length_zip, List.length_zip]
            omega
          have hz3 := mu_len (ts.zip us)
          refine ⟨P0, q2, rs', rs3, rfl, rfl, hP3, hq3, Nat.le_trans (show rs'.length + rs3.length ≤ 100000 by omega) (by decide), ?_⟩
          have nqP : q2 ≠ P0 := fun z => by
            rw [z, hP2] at nq2
            cases nq2
          have k4 : ∀ b t, H3 b = some (.tup t) → upd H3 P0 (.lst (rs' ++ rs3)) b = some (.tup t) := fun b t eb => by
            rw [upd_ne (ne_of eb hP3 (by intro z; cases z))]
            exact eb
          have hxs0 : ThAll H ts xs ∧ ThAll H us ys := by
            obtain ⟨a2, xs2, e2, h2, _, h3⟩ := hu
            obtain ⟨b2, ys2, e4, h4, _, h5⟩ := hv
            cases e2
            cases e4
            have e5 : xs2 = xs := by
              have := (sm2 _ _ h2).symm.trans hx
              cases this
              rfl
            have e6 : ys2 = ys := by
              have := (sm2 _ _ h4).symm.trans hy
              cases this
              rfl
            subst e5 e6
            exact ⟨h3, h5⟩
          refine ⟨rs' ++ rs3, ps' ++ ts.zip us, _, _, _, rfl, fun b o eb => ?_, upd_same, (hpend2.keep fun b t eb => k4 b t (sm3 _ _ eb)).app (pend_zip hxs0.1 hxs0.2 (pairsKeepT k4 hps3) hlts), ?_, ?_, ?_⟩
          · rw [upd_ne (ne_of_none eb nP)]
            exact sm3 _ _ (sm2 _ _ eb)
          · rw [List.all_append, ← eqAll_zip ts us hlts]
            simp only [eqT] at hall2
            exact hall2
          · rw [mu_app, hsz1]
            omega
          · rw [mu_app, mu_app, hsz1, hmp2]
            omega
        · have hli2 : kindS p.1 ≠ "list" := fun z => hli (decide_eq_true (by rw [z]))
          obtain ⟨hsc, heq⟩ := kind_eq hk2 ho2 hli2 hu2 hv2
          refine ⟨_, rfl, _, rfl, ?_, _, rfl, ?_⟩
          · exact hsc
          refine ite2 (fun hn => ?_) (fun hn => ?_)
          · refine fin_false ?_
            rw [heq]
            simpa using hn
          · have heq2 : eqT p.1 p.2 = true := by
              rw [heq]
              simpa using hn
            have hpos := szT_pos p.1
            refine ⟨rs', ps', _, _, _, rfl, sm2, hP2, hpend2, ?_, by omega, ?_⟩
            · rw [← hall2, heq2, Bool.and_true]
            · rw [mu_app, hmp]
              omega
end
end My
namespace My
open PySem PySem.Spec PyProof.Rows L2 LX
/-! ### comprehensions over a dict with texts and ints as keys -/
theorem lc_items {d : Addr} {o : Obj} {kvs : List (L2.Key × V)} {g : TG} {tt : TT} {te : TE} {vs : List Nat} {σ : L2.St} {H1 : Hp} {D : Addr} {Qd : Hp → Prop} (Pv : Nat → Hp → Prop) (h0 : Pv 0 (upd H1 D (.lst []))) (hl : ∀ i H, Pv i H → H d = some (.frz o (.dK kvs)))
    (hs : ∀ i k v H T, kvs[i]? = some (k, v) → Pv i H → H T = none → g (.ref T) (wipe σ vs) (upd H T (.tup [kV k, v])) fun σ2 H2 => wipe σ2 vs = wipe σ vs ∧ tt σ2 H2 fun b H3 =>
      if b = true then te σ2 H3 fun y H4 => ∃ acc, H4 D = some (.lst acc) ∧ acc.length < sizeLine ∧ Pv (i + 1) (upd H4 D (.lst (acc ++ [y]))) else Pv (i + 1) H3) (hd : ∀ H, Pv kvs.length H → Qd H) :
    ∃ W : Nat → Nat → Hp → Prop, (∃ m, W 0 m (upd H1 D (.lst []))) ∧ ∀ i m H, W i m H →
      ((Iti d o kvs).stop i H ∧ Qd H) ∨ ((Iti d o kvs).go i H ∧ ∃ Nx : Hp → Prop, (∀ H', Nx H' → ∃ m', m' < m ∧ W (i + 1) m' H') ∧ ∀ x H', (Iti d o kvs).yld i H x H' → g x (wipe σ vs) H' fun σ2 H2 => wipe σ2 vs = wipe σ vs ∧ tt σ2 H2 fun b H3 =>
        if b = true then te σ2 H3 fun y H4 => ∃ acc, H4 D = some (.lst acc) ∧ acc.length < sizeLine ∧ Nx (upd H4 D (.lst (acc ++ [y]))) else Nx H3) := by
  refine ⟨fun i m H => m = kvs.length - i ∧ i ≤ kvs.length ∧ Pv i H, ⟨kvs.length, by simp, Nat.zero_le _, h0⟩, ?_⟩
  rintro i m H ⟨rfl, hi, p⟩
  by_cases hlt : i < kvs.length
  · refine .inr ⟨⟨hl i H p, hlt⟩, Pv (i + 1), fun H' p' => ⟨kvs.length - (i + 1), by omega, rfl, hlt, p'⟩, fun x H' y => ?_⟩
    obtain ⟨T, k, v, e, rfl, hT, rfl⟩ := y
    exact hs i k v H T e p hT
  · have e : i = kvs.length := by omega
    subst e
    exact .inl ⟨⟨hl _ H p, Nat.le_refl _⟩, hd H p⟩
theorem lc_keys {d : Addr} {o : Obj} {kvs : List (L2.Key × V)} {g : TG} {tt : TT} {te : TE} {vs : List Nat} {σ : L2.St} {H1 : Hp} {D : Addr} {Qd : Hp → Prop} (Pv : Nat → Hp → Prop) (h0 : Pv 0 (upd H1 D (.lst []))) (hl : ∀ i H, Pv i H → H d = some (.frz o (.dK kvs)))
    (hs : ∀ i k v H, kvs[i]? = some (k, v) → Pv i H → g (kV k) (wipe σ vs) H fun σ2 H2 => wipe σ2 vs = wipe σ vs ∧ tt σ2 H2 fun b H3 =>
      if b = true then te σ2 H3 fun y H4 => ∃ acc, H4 D = some (.lst acc) ∧ acc.length < sizeLine ∧ Pv (i + 1) (upd H4 D (.lst (acc ++ [y]))) else Pv (i + 1) H3) (hd : ∀ H, Pv kvs.length H → Qd H) :
    ∃ W : Nat → Nat → Hp → Prop, (∃ m, W 0 m (upd H1 D (.lst []))) ∧ ∀ i m H, W i m H →
      ((Itk d o kvs).stop i H ∧ Qd H) ∨ ((Itk d o kvs).go i H ∧ ∃ Nx : Hp → Prop, (∀ H', Nx H' → ∃ m', m' < m ∧ W (i + 1) m' H') ∧ ∀ x H', (Itk d o kvs).yld i H x H' → g x (wipe σ vs) H' fun σ2 H2 => wipe σ2 vs = wipe σ vs ∧ tt σ2 H2 fun b H3 =>
        if b = true then te σ2 H3 fun y H4 => ∃ acc, H4 D = some (.lst acc) ∧ acc.length < sizeLine ∧ Nx (upd H4 D (.lst (acc ++ [y]))) else Nx H3) := by
  refine ⟨fun i m H => m = kvs.length - i ∧ i ≤ kvs.length ∧ Pv i H, ⟨kvs.length, by simp, Nat.zero_le _, h0⟩, ?_⟩
  rintro i m H ⟨rfl, hi, p⟩
  by_cases hlt : i < kvs.length
  · refine .inr ⟨⟨hl i H p, hlt⟩, Pv (i + 1), fun H' p' => ⟨kvs.length - (i + 1), by omega, rfl, hlt, p'⟩, fun x H' y => ?_⟩
    obtain ⟨rfl, k, v, e, rfl⟩ := y
    exact hs i k v _ e p
  · have e : i = kvs.length := by omega
    subst e
    exact .inl ⟨⟨hl _ H p, Nat.le_refl _⟩, hd H p⟩
/-! ### states -/
def kT : L2.Key → T
  | .inl i => .int i
  | .inr x => .str x
theorem kT_th (H : Hp) (k : L2.Key) : Th H (kT k) (kV k) := by
  cases k with
  | inl i =>
    show Th H (.int i) (kV (.inl i))
    unfold Th
    rfl
  | inr x =>
    show Th H (.str x) (kV (.inr x))
    unfold Th
    rfl
/-- rows of a state: keys and the things held -/
abbrev KvT (H : Hp) : List (L2.Key × T) → List (L2.Key × V) → Prop := Paired fun p q => p.1 = q.1 ∧ Th H p.2 q.2
theorem kvT_get {H : Hp} : ∀ {prs : List (L2.Key × T)} {kvs : List (L2.Key × V)} {i : Nat} {k : L2.Key} {v : V} (_ : KvT H prs kvs) (_ : kvs[i]? = some (k, v)), ∃ b, prs[i]? = some (k, b) ∧ Th H b v
  | _, _, i, _, _, .nil, h => by simp at h
  | _, _, 0, k, v, .cons (a := p) (b := q) r _, h => by
    simp only [List.getElem?_cons_zero, Option.some.injEq] at h
    subst h
    obtain ⟨e, r⟩ := r
    refine ⟨p.2, ?_, r⟩
    rw [← show p.1 = k from e]
    rfl
  | _, _, i + 1, k, v, .cons _ t, h => by
    obtain ⟨b, e, h2⟩ := kvT_get (i := i) t (by simpa using h)
    exact ⟨b, by simpa using e, h2⟩
theorem KvT.same {H H' : Hp} (s : Same H H') {prs : List (L2.Key × T)} {kvs : List (L2.Key × V)} (h : KvT H prs kvs) : KvT H' prs kvs := Paired.mapP h fun _ _ r => ⟨r.1, Th.same s _ _ r.2⟩
/-- t speaks of no dict that is not empty, so it lives through a dict's lock when it has no empty dict -/
def noD : T → Prop
  | .oth d => d = false
  | .tup ts => ∀ t ∈ ts, noD t
  | _ => True
mutual
theorem Th.keep3 {H H' : Hp} (kt : ∀ b l, H b = some (.tup l) → H' b = some (.tup l)) (kl : ∀ b l, H b = some (.lst l) → ∃ l', H' b = some (.lst l')) : ∀ (t : T) (v : V), noD t → Th H t v → Th H' t v
  | .non, _, _, h => h
  | .bl _, _, _, h => h
  | .int _, _, _, h => h
  | .str _, _, _, h => h
  | .oth d, _, n, h => by
    unfold Th at h ⊢
    obtain ⟨a, e, h⟩ := h
    refine ⟨a, e, ?_⟩
    unfold noD at n
    subst n
    obtain ⟨xs, h⟩ := h
    exact kl _ _ h
  | .tup ts, _, n, h => by
    unfold Th at h ⊢
    obtain ⟨a, xs, e, h1, h2, h3⟩ := h
    exact ⟨a, xs, e, kt _ _ h1, h2, ThAll.keep3 kt kl ts xs (by unfold noD at n; exact n) h3⟩
theorem ThAll.keep3 {H H' : Hp} (kt : ∀ b l, H b = some (.tup l) → H' b = some (.tup l)) (kl : ∀ b l, H b = some (.lst l) → ∃ l', H' b = some (.lst l')) : ∀ (ts : List T) (vs : List V), (∀ t ∈ ts, noD t) → ThAll H ts vs → ThAll H' ts vs
  | [], _, _, h => h
  | t :: ts, _, n, h => by
    unfold ThAll at h ⊢
    obtain ⟨v, r, e, h1, h2⟩ := h
    exact ⟨v, r, e, Th.keep3 kt kl t v (n t List.mem_cons_self) h1, ThAll.keep3 kt kl ts r (fun u hu => n u (List.mem_cons_of_mem _ hu)) h2⟩
end
theorem Th.lockK {H : Hp} {d : Addr} {kvs : List (L2.Key × V)} {o : HO} (hd : H d = some (.dK kvs)) {t : T} {v : V} (n : noD t) (h : Th H t v) : Th (upd H d o) t v := by
  refine Th.keep3 (fun b l e => ?_) (fun b l e => ⟨l, ?_⟩) t v n h
  · rw [upd_ne (fun z => by rw [z, hd] at e; cases e)]
    exact e
  · rw [upd_ne (fun z => by rw [z, hd] at e; cases e)]
    exact e
def stOk (prs : List (L2.Key × T)) : Bool := prs.all fun p => isKey (kT p.1) && isVal p.2
def nmOk (prs : List (L2.Key × T)) : Bool := prs.all fun p => isName (kT p.1)
def varsOk (prs : List (L2.Key × T)) : Bool := stOk prs && nmOk prs
def shortK : L2.Key → Prop
  | .inr x => x.length ≤ 1000
  | _ => True
theorem shortK.short {k : L2.Key} (h : shortK k) : short (kT k) := by
  cases k with
  | inl i => exact True.intro
  | inr x => exact h
/-- a dict with these rows, all of them plain enough -/
def DkAt (H : Hp) (d : Addr) (prs : List (L2.Key × T)) : Prop := ∃ kvs, H d = some (.dK kvs) ∧ KvT H prs kvs ∧ prs.length ≤ 1000 ∧ ∀ p ∈ prs, shortK p.1 ∧ shortA p.2 ∧ noD p.2
theorem DkAt.same {H H' : Hp} (s : Same H H') {d : Addr} {prs : List (L2.Key × T)} (h : DkAt H d prs) : DkAt H' d prs := by
  obtain ⟨kvs, hd, hk, hl, hp⟩ := h
  exact ⟨kvs, s _ _ hd, hk.same s, hl, hp⟩
def spStK (f : List (L2.Key × T) → Bool) : Sp := fun vs H Q _ =>
  (∃ (t : T) (v : V), vs = [v] ∧ Th H t v ∧ notD t ∧ Q (.bl false) H) ∨
  ∃ (d : Addr) (prs : List (L2.Key × T)), vs = [.ref d] ∧ DkAt H d prs ∧ ∀ H', Same H H' → Q (.bl (f prs)) H'
section
variable {P : Program} {w : World} {K : PySem.W.Frag} {mg : Str → Option Value} {base : Heap}
theorem no_dict {H : Hp} {t : T} {v : V} (ht : Th H t v) (hn : notD t) : ∃ n, TyOf K H v (.type n) ∧ kitB n "dict" = some false := by
  cases t with
  | non => unfold Th at ht; subst ht; exact ⟨_, .non, by decide +kernel⟩
  | bl b => unfold Th at ht; subst ht; exact ⟨_, .bl b, by decide +kernel⟩
  | int i => unfold Th at ht; subst ht; exact ⟨_, .int i, by decide +kernel⟩
  | str x => unfold Th at ht; subst ht; exact ⟨_, .str x, by decide +kernel⟩
  | tup ts => unfold Th at ht; obtain ⟨a, xs, rfl, e, _, _⟩ := ht; exact ⟨_, .tup e, by decide +kernel⟩
  | oth d =>
    unfold Th at ht
    obtain ⟨a, rfl, e⟩ := ht
    cases (show d = false from hn)
    obtain ⟨xs, e⟩ := e
    exact ⟨_, .lst e, by decide +kernel⟩
theorem ok_isStK {f fK fV : Addr} {fd fdK fdV : FuncData} (F : Fun K "is_state" "is_state" sIsState f fd) 
    (FK : Fun K "is_key" "is_key" sIsKey fK fdK) (bK : Binds K fdK ["value"] []) (gK : mg "is_key" = some (.ref fK)) (GK : FnOk P w K mg base CX0 3 fK fdK ["value"] (spB isKey))
    (FV : Fun K "is_value" "is_value" sIsValue fV fdV) (bV : Binds K fdV ["value"] []) (gV : mg "is_value" = some (.ref fV)) (GV : FnOk P w K mg base CX0 5 fV fdV ["value"] spVal) (TS : TxtS mg) :
    FnOk P w K mg base CX0 6 f fd ["value"] (spStK stOk) := by
  refine F.ok scIsState (fun vs H Q E h => ?_) (fun cdv A outer s H vs Q E hr h => ?_)
  · rcases h with ⟨t, v, rfl, _⟩ | ⟨d, prs, rfl, _⟩ <;> rfl
  · have ND := scIsState.nd
    refine ⟨_, pss_cons (ps_if (pt_not (pt_val (pe_callB call_isi (by rfl) TS.isi PyProof.Rows.boot_isinstance (pa_cons (pv 0) (pa_cons (pe_bltn (v := .ty "dict") (by rfl) TS.dict (by decide +kernel) rfl) pa_nil))))) (pss_one (ps_ret pe_bl)) pss_nil)
      (pss_one (ps_lock (ps_ret (pe_callB (cr_all rfl) (by rfl) TS.all (by decide +kernel) (pa_cons
        (pe_lc (own := [("key", 1), ("held", 2)]) (g := gTup K 2 (gCons (gName 1) (gCons (gName 2) gNil))) (tt := tYes) rfl ND (pi_items (pv 0)) (blkOk_by (own := [("key", 1), ("held", 2)]) (N := ["value", "key", "held"]) (sc := defScope sIsState) (by decide +kernel))
          (fun _ _ _ _ _ => pg_tup rfl (pgs_cons (pg_name (i := 1) ND rfl (Or.inl rfl)) (pgs_cons (pg_name (i := 2) ND rfl (Or.inl rfl)) pgs_nil))) (fun _ _ _ _ _ => pts_nil)
          (fun _ _ _ _ _ => pe_and (pe_call GK (hr.mono (by decide)) rfl gK FK.kp bK .nil pass0 (pa_cons (pv 1) pa_nil)) (pe_one (pe_call GV hr rfl gV FV.kp bV .nil pass0 (pa_cons (pv 2) pa_nil))))) pa_nil))))), ?_⟩
    rcases h with ⟨t, v, rfl, ht, hn, q⟩ | ⟨d, prs, rfl, ⟨kvs, hd, hkv, hl, hs⟩, q⟩
    · obtain ⟨ty, hty, hk⟩ := no_dict (K := K) ht hn
      refine ⟨_, rfl, _, _, _, _, false, rfl, .ty "dict", .base hty, kit_ty hk, _, rfl, ?_⟩
      exact iteT q
    · refine ⟨_, rfl, _, _, _, _, true, rfl, .ty "dict", .base (.dK hd), kit_ty (by decide +kernel), _, rfl, ?_⟩
      refine iteF ?_
      refine ⟨d, _, hd, True.intro, fun od => ?_⟩
      have hlen : prs.length = kvs.length := Paired.length hkv
      refine ⟨_, rfl, d, od, kvs, rfl, upd_same, fun D nD => ?_⟩
      refine lc_items (fun j G => G D = some (.lst (((prs.take j).map fun p => isKey (kT p.1) && isVal p.2).map V.bl)) ∧ Same (upd H d (.frz od (.dK kvs))) G) ⟨upd_same, same_upd nD⟩ (fun j G ⟨_, sm⟩ => sm _ _ upd_same) (fun j k v G T e ⟨hD, sm⟩ nT => ?_) (fun G ⟨hD, sm⟩ => ?_)
      · obtain ⟨b, e1, h2⟩ := kvT_get hkv e
        have hj : j < prs.length := (List.getElem?_eq_some_iff.mp e1).1
        have hm := hs _ (List.mem_of_getElem? e1)
        have smT : Same (upd H d (.frz od (.dK kvs))) (upd G T (.tup [kV k, v])) := sm.trans (same_upd nT)
        have h2' : Th (upd G T (.tup [kV k, v])) b v := Th.same smT _ _ (Th.lockK hd hm.2.2 h2)
        have fin : ∀ (b0 : Bool) (G2 : Hp), Same (upd G T (.tup [kV k, v])) G2 → b0 = (isKey (kT k) && isVal b) → ∃ acc, G2 D = some (.lst acc) ∧ acc.length < sizeLine ∧ (upd G2 D (.lst (acc ++ [.bl b0]))) D = some (.lst (((prs.take (j + 1)).map fun p => isKey (kT p.1) && isVal p.2).map V.bl)) ∧ Same (upd H d (.frz od (.dK kvs))) (upd G2 D (.lst (acc ++ [.bl b0]))) := by
          intro b0 G2 s2 eb
          refine ⟨_, s2 _ _ (by rw [upd_ne (fun z => by rw [z, nT] at hD; cases hD)]; exact hD), small1000 ?_, ?_, fun o w eo => ?_⟩
          · rw [List.length_map, List.length_map, List.length_take]
            omega
          · rw [upd_same, List.take_add_one, e1, eb]
            simp
          · rw [upd_ne (ne_of_none eo nD)]
            exact s2 _ _ (smT _ _ eo)
        refine ⟨T, [kV k, v], rfl, .inl (.inl upd_same), rfl, _, _, rfl, _, _, rfl, rfl, rfl, tYes_if ?_⟩
        refine ⟨_, rfl, kT k, kV k, rfl, kT_th _ k, hm.1.short, _, rfl, ?_⟩
        cases hk : isKey (kT k) with
        | false => exact iteF (fin false _ (Same.refl _) (by rw [hk]; rfl))
        | true => exact iteT ⟨_, rfl, b, v, rfl, h2', hm.2.1, fun G2 s2 => fin (isVal b) G2 s2 (by rw [hk]; rfl)⟩
      · refine ⟨D, _, rfl, .inl (.inl hD), ?_⟩
        refine ⟨sm _ _ upd_same, ?_⟩
        rw [show ((prs.take kvs.length).map fun p => isKey (kT p.1) && isVal p.2).all id = stOk prs by
          unfold stOk
          rw [List.take_of_length_le (by omega), List.all_map]
          rfl]
        refine q _ fun b o e => ?_
        by_cases z : b = d
        · rw [z, upd_same, ← hd, ← z, e]
        · rw [upd_ne z]
          exact sm _ _ (by rw [upd_ne z]; exact e)
theorem scIsVars : FnScope ["value", "key"] ["value"] (defScope sIsVars) := ⟨rfl, rfl, rfl, by decide +kernel, rfl, by decide +kernel, by decide +kernel⟩
theorem ok_isVars {f fS fN : Addr} {fd fdS fdN : FuncData} (F : Fun K "is_variables" "is_variables" sIsVars f fd) 
    (FS : Fun K "is_state" "is_state" sIsState fS fdS) (bS : Binds K fdS ["value"] []) (gS : mg "is_state" = some (.ref fS)) (GS : FnOk P w K mg base CX0 6 fS fdS ["value"] (spStK stOk))
    (FN : Fun K "is_name" "is_name" sIsName fN fdN) (bN : Binds K fdN ["value"] []) (gN : mg "is_name" = some (.ref fN)) (GN : FnOk P w K mg base CX0 4 fN fdN ["value"] (spB isName)) (TS : TxtS mg) :
    FnOk P w K mg base CX0 7 f fd ["value"] (spStK varsOk) := by
  refine F.ok scIsVars (fun vs H Q E h => ?_) (fun cdv A outer s H vs Q E hr h => ?_)
  · rcases h with ⟨t, v, rfl, _⟩ | ⟨d, prs, rfl, _⟩ <;> rfl
  · have ND := scIsVars.nd
    refine ⟨_, pss_one (ps_ret (pe_and (pe_call GS hr rfl gS FS.kp bS .nil pass0 (pa_cons (pv 0) pa_nil)) (pe_one (pe_lock (pe_callB (cr_all rfl) (by rfl) TS.all (by decide +kernel) (pa_cons
        (pe_lc (own := [("key", 1)]) (g := gName 1) (tt := tYes) rfl ND (pi_keys (pv 0)) (blkOk_by (own := [("key", 1)]) (N := ["value", "key"]) (sc := defScope sIsVars) (by decide +kernel))
          (fun _ _ _ _ _ => pg_name (i := 1) ND rfl (Or.inl rfl)) (fun _ _ _ _ _ => pts_nil)
          (fun _ _ _ _ _ => pe_call GN (hr.mono (by decide)) rfl gN FN.kp bN .nil pass0 (pa_cons (pv 1) pa_nil))) pa_nil)))))), ?_⟩
    rcases h with ⟨t, v, rfl, ht, hn, q⟩ | ⟨d, prs, rfl, hdk, q⟩
    · exact ⟨_, rfl, .inl ⟨t, v, rfl, ht, hn, _, rfl, iteF q⟩⟩
    · refine ⟨_, rfl, .inr ⟨d, prs, rfl, hdk, fun H1 s1 => ⟨_, rfl, ?_⟩⟩⟩
      cases hst : stOk prs with
      | false =>
        refine iteF ?_
        have q1 := q H1 s1
        rw [show varsOk prs = false by unfold varsOk; rw [hst, Bool.false_and]] at q1
        exact q1
      | true =>
        refine iteT ?_
        obtain ⟨kvs, hd, hkv, hl, hs⟩ := hdk.same s1
        refine ⟨d, _, hd, True.intro, fun od => ?_⟩
        have hlen : prs.length = kvs.length := Paired.length hkv
        refine ⟨_, rfl, d, od, rfl, .inl ⟨kvs, upd_same, fun D nD => ?_⟩⟩
        refine lc_keys (fun j G => G D = some (.lst (((prs.take j).map fun p => isName (kT p.1)).map V.bl)) ∧ Same (upd H1 d (.frz od (.dK kvs))) G) ⟨upd_same, same_upd nD⟩ (fun j G ⟨_, sm⟩ => sm _ _ upd_same) (fun j k v G e ⟨hD, sm⟩ => ?_) (fun G ⟨hD, sm⟩ => ?_)
        · obtain ⟨b, e1, h2⟩ := kvT_get hkv e
          have hj : j < prs.length := (List.getElem?_eq_some_iff.mp e1).1
          have hm := hs _ (List.mem_of_getElem? e1)
          refine ⟨rfl, tYes_if ⟨_, rfl, kT k, kV k, rfl, kT_th _ k, hm.1.short, _, hD, small1000 ?_, ?_, same_updN sm nD⟩⟩
          · rw [List.length_map, List.length_map, List.length_take]
            omega
          · rw [upd_same, List.take_add_one, e1]
            simp
        · refine ⟨D, _, rfl, .inl (.inl hD), ?_⟩
          refine ⟨sm _ _ upd_same, ?_⟩
          have e : ((prs.take kvs.length).map fun p => isName (kT p.1)).all id = varsOk prs := by
            unfold varsOk
            rw [hst, Bool.true_and]
            unfold nmOk
            rw [List.take_of_length_le (by omega), List.all_map]
            rfl
          rw [e]
          refine q _ (s1.trans fun b o e => ?_)
          by_cases z : b = d
          · rw [z, upd_same, ← hd, ← z, e]
          · rw [upd_ne z]
            exact sm _ _ (by rw [upd_ne z]; exact e)
end
end My
namespace My
open PySem PySem.Spec PyProof.Rows L2 LX
/-! ### values are small -/
theorem szAll_app : ∀ a b : List T, szAll (a ++ b) = szAll a + szAll b
  | [], b => by simp [szAll]
  | t :: a, b => by
    simp only [List.cons_append, szAll]
    rw [szAll_app a b]
    omega
theorem tup_sz {t : T} (h : isTupT t = true) : szT t = 1 + szAll (kids t) := by
  cases t with
  | tup ts => simp [szT, kids]
  | _ => exact absurd h (by simp [isTupT])
theorem plain_sz {t : T} (h : isTupT t = false) : szT t = 1 := by
  cases t with
  | tup ts => exact absurd h (by simp [isTupT])
  | _ => simp [szT]
theorem szAll_flat : ∀ ls : List T, (∀ l ∈ ls, isTupT l = true) → szAll ls = ls.length + szAll (ls.map kids).flatten
  | [], _ => by simp [szAll]
  | l :: ls, h => by
    have ih := szAll_flat ls fun x hx => h x (List.mem_cons_of_mem _ hx)
    have e := tup_sz (h l List.mem_cons_self)
    simp only [szAll, List.map_cons, List.flatten_cons, List.length_cons]
    rw [szAll_app, ih, e]
    omega
theorem szAll_split : ∀ ls : List T, szAll ls = (ls.filter fun t => !isTupT t).length + szAll (ls.filter isTupT)
  | [] => by simp [szAll]
  | t :: ls => by
    have ih := szAll_split ls
    cases h : isTupT t with
    | true =>
      have e1 : (t :: ls).filter (fun t => !isTupT t) = ls.filter fun t => !isTupT t := by simp [h]
      have e2 : (t :: ls).filter isTupT = t :: ls.filter isTupT := by simp [h]
      rw [e1, e2]
      simp only [szAll]
      omega
    | false =>
      have e1 : (t :: ls).filter (fun t => !isTupT t) = t :: ls.filter fun t => !isTupT t := by simp [h]
      have e2 : (t :: ls).filter isTupT = ls.filter isTupT := by simp [h]
      rw [e1, e2]
      simp only [szAll, List.length_cons]
      rw [plain_sz h]
      omega
theorem filter_len (ls : List T) : (ls.filter fun t => !isTupT t).length + (ls.filter isTupT).length = ls.length := by
  induction ls with
  | nil => rfl
  | cons t ls ih => cases h : isTupT t <;> simp [h] <;> omega
theorem plain_short {t : T} (h : isPlain t = true) : shortA t := by
  cases t with
  | str x =>
    have h2 : textS x = true := h
    unfold textS at h2
    rw [Bool.and_eq_true] at h2
    have h3 := h2.1
    simp at h3
    unfold shortA
    omega
  | tup ts => exact absurd h (by simp [isPlain])
  | _ => unfold shortA; exact True.intro
theorem lev_spec : ∀ (n : Nat) (ls : List T) (c : Nat), c ≤ 50 → lev n ls c = true → (∀ l ∈ ls, isTupT l = true) → szAll ls ≤ ls.length + (50 - c) ∧ (∀ l ∈ ls, shortA l)
  | 0, ls, c, _, h, _ => by
    have e : ls = [] := by
      have h2 : ls.isEmpty = true := h
      simpa using h2
    subst e
    exact ⟨by simp [szAll], fun l hl => nomatch hl⟩
  | n + 1, ls, c, hc, h, ht => by
    unfold lev at h
    by_cases h50 : 50 < c + (ls.map fun l => (kids l).length).sum
    · rw [if_pos h50] at h
      exact absurd h Bool.false_ne_true
    · rw [if_neg h50] at h
      by_cases hp : (((ls.map kids).flatten).filter fun t => !isTupT t).all isPlain = true
      · simp only [hp, if_true] at h
        have hl := flat_len ls
        have ih := lev_spec n _ _ (by omega) h fun l hl => (List.mem_filter.mp hl).2
        have e1 := szAll_flat ls ht
        have e2 := szAll_split (ls.map kids).flatten
        have e3 := filter_len (ls.map kids).flatten
        refine ⟨?_, fun l hl => ?_⟩
        · have i1 := ih.1
          rw [e1, e2]
          omega
        · rw [tup_of (ht l hl)]
          unfold shortA
          refine shortAll_mem.mpr fun t htm => ?_
          have hmem : t ∈ (ls.map kids).flatten := List.mem_flatten.mpr ⟨kids l, List.mem_map.mpr ⟨l, hl, rfl⟩, htm⟩
          cases hb : isTupT t with
          | true => exact ih.2 t (List.mem_filter.mpr ⟨hmem, hb⟩)
          | false => exact plain_short (List.all_eq_true.mp hp t (List.mem_filter.mpr ⟨hmem, by simp [hb]⟩))
      · simp only [Bool.not_eq_true] at hp
        simp only [hp] at h
        exact absurd h (by simp)
theorem val_small {t : T} (h : isVal t = true) : szT t ≤ 51 ∧ shortA t := by
  unfold isVal at h
  cases hb : isTupT t with
  | true =>
    rw [hb, if_pos rfl] at h
    have s := lev_spec 5 [t] 0 (by omega) h fun l hl => by rw [List.mem_singleton.mp hl]; exact hb
    have e : szAll [t] = szT t := by simp [szAll]
    have s1 := s.1
    rw [e] at s1
    exact ⟨s1, s.2 t (List.mem_singleton.mpr rfl)⟩
  | false =>
    rw [hb] at h
    exact ⟨by rw [plain_sz hb]; decide, plain_short (by simpa using h)⟩
theorem val_int {i : Int} (h : isVal (.int i) = true) : i.natAbs < 2 ^ 200 := by
  have h2 : (decide (-(10 ^ 60) < i) && decide (i < 10 ^ 60)) = true := h
  rw [Bool.and_eq_true] at h2
  have a := of_decide_eq_true h2.1
  have b := of_decide_eq_true h2.2
  have c : (10 : Int) ^ 60 < 2 ^ 200 := by decide +kernel
  have d : ((2 : Int) ^ 200) = ((2 ^ 200 : Nat) : Int) := by decide +kernel
  omega
theorem val_str {x : Str} (h : isVal (.str x) = true) : x.length ≤ 60 := by
  have h2 : textS x = true := h
  unfold textS at h2
  rw [Bool.and_eq_true] at h2
  have h3 := h2.1
  simp at h3
  omega
theorem val_tup {ts : List T} (h : isVal (.tup ts) = true) : ts.length ≤ 50 := by
  have s := (val_small h).1
  have e := szAll_len ts
  simp only [szT] at s
  omega
/-! ### answers -/
inductive Ans where
  | val (t : T) | fail (r : Str)
def ansT : Ans → T
  | .val t => .tup [.str "value", t]
  | .fail r => .tup [.str "failed", .str r]
def kindTab : List (Str × List (List Str)) := [("add", [["integer", "integer"]]), ("subtract", [["integer", "integer"]]), ("multiply", [["integer", "integer"]]), ("divide", [["integer", "integer"]]), ("less", [["integer", "integer"]]),
  ("join", [["text", "text"], ["list", "list"]]), ("size", [["text"], ["list"]]), ("item", [["list", "integer"]])]
def kindsOk (w : Str) (vs : List T) : Bool := match kindTab.lookup w with
  | none => true
  | some l => l.any fun ks => decide (ks = vs.map kindS)
def resT (w : Str) (vs : List T) : T :=
  if w = "list" then .tup vs
  else if w = "size" then (match vs with | [.str x] => .int x.length | [.tup ts] => .int ts.length | _ => .non)
  else match vs with
    | [a, b] =>
      if w = "item" then (match a, b with | .tup ts, .int i => (ts[i.toNat]?).getD .non | _, _ => .non)
      else if w = "equal" then .int (if eqT a b = true then 1 else 0)
      else (match a, b with
        | .int i, .int j => if w = "less" then .int (if i < j then 1 else 0) else if w = "subtract" then .int (i - j) else if w = "multiply" then .int (i * j) else if w = "divide" then .int (i.fdiv j) else .int (i + j)
        | .str x, .str y => .str (x ++ y)
        | .tup xs, .tup ys => .tup (xs ++ ys)
        | _, _ => .non)
    | _ => .non
/-- the part of an item is there -/
def inRange : List T → Bool
  | [.tup ts, .int i] => decide (0 ≤ i) && decide (i < ts.length)
  | _ => false
def isZero : List T → Bool
  | [_, .int i] => decide (i = 0)
  | _ => false
def appA (w : Str) (vs : List T) : Ans :=
  if kindsOk w vs = false then .fail "kind"
  else if w = "divide" ∧ isZero vs = true then .fail "zero"
  else if w = "item" ∧ inRange vs = false then .fail "range"
  else if isVal (resT w vs) = true then .val (resT w vs) else .fail "size"
/-- the values of the parts, or the reason of the first that fails -/
def evAll (f : T → Ans) : List T → Str ⊕ List T
  | [] => .inr []
  | p :: ps => match f p with
    | .fail r => .inl r
    | .val t => match evAll f ps with
      | .inl r => .inl r
      | .inr ts => .inr (t :: ts)
def evA : Nat → (Str → Option T) → T → Ans
  | 0, _, _ => .fail ""
  | n + 1, env, .tup (.str w :: ps) =>
    if w = "value" then (match ps with | [p] => .val p | _ => .fail "")
    else if w = "name" then (match ps with | [.str x] => (match env x with | some t => .val t | none => .fail "name") | _ => .fail "")
    else (match evAll (evA n env) ps with | .inl r => .fail r | .inr vs => appA w vs)
  | _, _, _ => .fail ""
theorem evAll_snoc (f : T → Ans) : ∀ (ps : List T) (p : T), evAll f (ps ++ [p]) = (match evAll f ps with | .inl r => .inl r | .inr ts => (match f p with | .fail r => .inl r | .val t => .inr (ts ++ [t])))
  | [], p => by
    simp only [List.nil_append, evAll]
  | q :: ps, p => by
    simp only [List.cons_append, evAll]
    rw [evAll_snoc f ps p]
    cases f q with
    | fail r => rfl
    | val t =>
      simp only
      cases evAll f ps with
      | inl r => rfl
      | inr ts =>
        simp only
        cases f p <;> rfl
theorem evAll_stop (f : T → Ans) : ∀ (ps qs : List T) (r : Str), evAll f ps = .inl r → evAll f (ps ++ qs) = .inl r
  | [], qs, r, h => by cases h
  | p :: ps, qs, r, h => by
    simp only [List.cons_append, evAll] at h ⊢
    cases hp : f p with
    | fail r' =>
      rw [hp] at h
      exact h
    | val t =>
      rw [hp] at h
      simp only at h ⊢
      cases ha : evAll f ps with
      | inl r' =>
        rw [ha] at h
        have e := evAll_stop f ps qs r' ha
        rw [e]
        exact h
      | inr ts =>
        rw [ha] at h
        cases h
theorem evAll_vals {f : T → Ans} {P : T → Prop} : ∀ {ps : List T} {vs : List T}, evAll f ps = .inr vs → (∀ p ∈ ps, ∀ t, f p = .val t → P t) → vs.length = ps.length ∧ ∀ t ∈ vs, P t
  | [], vs, h, _ => by
    cases h
    exact ⟨rfl, fun t ht => nomatch ht⟩
  | p :: ps, vs, h, hp => by
    simp only [evAll] at h
    cases hf : f p with
    | fail r =>
      rw [hf] at h
      cases h
    | val t =>
      rw [hf] at h
      simp only at h
      cases ha : evAll f ps with
      | inl r =>
        rw [ha] at h
        cases h
      | inr ts =>
        rw [ha] at h
        cases h
        obtain ⟨l, m⟩ := evAll_vals ha fun q hq => hp q (List.mem_cons_of_mem _ hq)
        refine ⟨by simp [l], fun u hu => ?_⟩
        rcases List.mem_cons.mp hu with rfl | hu
        · exact hp p List.mem_cons_self _ hf
        · exact m u hu
theorem appA_val {w : Str} {vs : List T} {t : T} (h : appA w vs = .val t) : isVal t = true := by
  unfold appA at h
  split at h
  · cases h
  · split at h
    · cases h
    · split at h
      · cases h
      · split at h
        · rename_i z
          cases h
          exact z
        · cases h
theorem evA_val : ∀ (n : Nat) (env : Str → Option T) (t u : T), (∀ x v, env x = some v → isVal v = true) → nestT n t = true → evA n env t = .val u → isVal u = true
  | 0, _, _, _, _, h, _ => absurd h (by simp [nestT])
  | n + 1, env, t, u, he, h, hv => by
    obtain ⟨hf, w, ps, rfl, hp⟩ := nest_parts h
    simp only [evA] at hv
    by_cases h1 : w = "value"
    · rw [if_pos h1] at hv hp
      obtain ⟨p, rfl⟩ := form_one hf (.inl h1)
      cases hv
      simpa using hp
    · rw [if_neg h1] at hv hp
      by_cases h2 : w = "name"
      · rw [if_pos h2] at hv hp
        obtain ⟨p, rfl⟩ := form_one hf (.inr h2)
        cases p with
        | str x =>
          simp only at hv
          cases hx : env x with
          | none =>
            rw [hx] at hv
            cases hv
          | some v =>
            rw [hx] at hv
            cases hv
            exact he x _ hx
        | _ => simp only at hv; cases hv
      · rw [if_neg h2] at hv hp
        split at hv
        · cases hv
        · exact appA_val hv
end My
namespace My
open PySem PySem.Spec PyProof.Rows L2 LX
/-! ### words and kinds -/
def Wd (w : Str) (n : Nat) : Prop := (w = "list" ∧ n ≤ 10) ∨ (w = "size" ∧ n = 1) ∨ (n = 2 ∧ (w = "add" ∨ w = "subtract" ∨ w = "multiply" ∨ w = "divide" ∨ w = "less" ∨ w = "equal" ∨ w = "join" ∨ w = "item"))
theorem wd_of {w : Str} {ps : List T} (h : formT (.tup (.str w :: ps)) = true) (h1 : ¬ w = "value") (h2 : ¬ w = "name") : Wd w ps.length := by
  simp only [formT] at h
  by_cases hl : w = "list"
  · rw [if_pos hl] at h
    have := of_decide_eq_true h
    exact .inl ⟨hl, by omega⟩
  · rw [if_neg hl, if_neg (fun z => z.elim h1 h2)] at h
    have e := of_decide_eq_true h
    cases hp : partTab.lookup w with
    | none =>
      rw [hp] at e
      cases e
    | some v =>
      rw [hp] at e
      have hv : v = .int (ps.length : Int) := e
      subst hv
      have hm := PySem.mem_of_lookup hp
      simp only [partTab, List.mem_cons, Prod.mk.injEq, V.int.injEq, List.not_mem_nil, or_false] at hm
      rcases hm with ⟨rfl, q⟩ | ⟨rfl, q⟩ | ⟨rfl, q⟩ | ⟨rfl, q⟩ | ⟨rfl, q⟩ | ⟨rfl, q⟩ | ⟨rfl, q⟩ | ⟨rfl, q⟩ | ⟨rfl, q⟩
      · exact .inr (.inr ⟨by omega, .inl rfl⟩)
      · exact .inr (.inr ⟨by omega, .inr (.inl rfl)⟩)
      · exact .inr (.inr ⟨by omega, .inr (.inr (.inl rfl))⟩)
      · exact .inr (.inr ⟨by omega, .inr (.inr (.inr (.inl rfl)))⟩)
      · exact .inr (.inr ⟨by omega, .inr (.inr (.inr (.inr (.inl rfl))))⟩)
      · exact .inr (.inr ⟨by omega, .inr (.inr (.inr (.inr (.inr (.inl rfl)))))⟩)
      · exact .inr (.inr ⟨by omega, .inr (.inr (.inr (.inr (.inr (.inr (.inl rfl))))))⟩)
      · exact .inr (.inr ⟨by omega, .inr (.inr (.inr (.inr (.inr (.inr (.inr rfl))))))⟩)
      · exact .inr (.inl ⟨rfl, by omega⟩)
theorem ks_int {t : T} (h : kindS t = "integer") : ∃ i, t = .int i := by
  cases t with
  | int i => exact ⟨i, rfl⟩
  | _ => exact absurd h (by simp only [kindS]; decide +kernel)
theorem ks_text {t : T} (h : kindS t = "text") : ∃ x, t = .str x := by
  cases t with
  | str x => exact ⟨x, rfl⟩
  | _ => exact absurd h (by simp only [kindS]; decide +kernel)
theorem ks_list {t : T} (h : kindS t = "list") : ∃ x, t = .tup x := by
  cases t with
  | tup x => exact ⟨x, rfl⟩
  | _ => exact absurd h (by simp only [kindS]; decide +kernel)
theorem map_two {ts : List T} {a b : Str} (h : [a, b] = ts.map kindS) : ∃ x y, ts = [x, y] ∧ kindS x = a ∧ kindS y = b := by
  match ts, h with
  | [x, y], h =>
    simp only [List.map_cons, List.map_nil, List.cons.injEq, and_true] at h
    exact ⟨x, y, rfl, h.1.symm, h.2.symm⟩
theorem map_one {ts : List T} {a : Str} (h : [a] = ts.map kindS) : ∃ x, ts = [x] ∧ kindS x = a := by
  match ts, h with
  | [x], h =>
    simp only [List.map_cons, List.map_nil, List.cons.injEq, and_true] at h
    exact ⟨x, rfl, h.symm⟩
theorem kinds_ints {w : Str} {ts : List T} (hl : kindTab.lookup w = some [[("integer" : Str), ("integer" : Str)]]) (h : kindsOk w ts = true) : ∃ i j, ts = [.int i, .int j] := by
  unfold kindsOk at h
  rw [hl] at h
  simp only [List.any_cons, List.any_nil, Bool.or_false, decide_eq_true_eq] at h
  obtain ⟨x, y, rfl, h1, h2⟩ := map_two h
  obtain ⟨i, rfl⟩ := ks_int h1
  obtain ⟨j, rfl⟩ := ks_int h2
  exact ⟨i, j, rfl⟩
theorem kinds_join {ts : List T} (h : kindsOk "join" ts = true) : (∃ x y, ts = [.str x, .str y]) ∨ ∃ x y, ts = [.tup x, .tup y] := by
  unfold kindsOk at h
  rw [show kindTab.lookup ("join" : Str) = some [[("text" : Str), ("text" : Str)], [("list" : Str), ("list" : Str)]] by decide +kernel] at h
  simp only [List.any_cons, List.any_nil, Bool.or_false, Bool.or_eq_true, decide_eq_true_eq] at h
  rcases h with h | h
  · obtain ⟨x, y, rfl, h1, h2⟩ := map_two h
    obtain ⟨i, rfl⟩ := ks_text h1
    obtain ⟨j, rfl⟩ := ks_text h2
    exact .inl ⟨i, j, rfl⟩
  · obtain ⟨x, y, rfl, h1, h2⟩ := map_two h
    obtain ⟨i, rfl⟩ := ks_list h1
    obtain ⟨j, rfl⟩ := ks_list h2
    exact .inr ⟨i, j, rfl⟩
theorem kinds_size {ts : List T} (h : kindsOk "size" ts = true) : (∃ x, ts = [.str x]) ∨ ∃ x, ts = [.tup x] := by
  unfold kindsOk at h
  rw [show kindTab.lookup ("size" : Str) = some [[("text" : Str)], [("list" : Str)]] by decide +kernel] at h
  simp only [List.any_cons, List.any_nil, Bool.or_false, Bool.or_eq_true, decide_eq_true_eq] at h
  rcases h with h | h
  · obtain ⟨x, rfl, h1⟩ := map_one h
    obtain ⟨i, rfl⟩ := ks_text h1
    exact .inl ⟨i, rfl⟩
  · obtain ⟨x, rfl, h1⟩ := map_one h
    obtain ⟨i, rfl⟩ := ks_list h1
    exact .inr ⟨i, rfl⟩
theorem kinds_item {ts : List T} (h : kindsOk "item" ts = true) : ∃ x i, ts = [.tup x, .int i] := by
  unfold kindsOk at h
  rw [show kindTab.lookup ("item" : Str) = some [[("list" : Str), ("integer" : Str)]] by decide +kernel] at h
  simp only [List.any_cons, List.any_nil, Bool.or_false, decide_eq_true_eq] at h
  obtain ⟨x, y, rfl, h1, h2⟩ := map_two h
  obtain ⟨i, rfl⟩ := ks_list h1
  obtain ⟨j, rfl⟩ := ks_int h2
  exact ⟨i, j, rfl⟩
theorem th_fail {H : Hp} {p : Addr} {r : Str} (h : H p = some (.tup [.str "failed", .str r])) : Th H (ansT (.fail r)) (.ref p) := by
  unfold ansT Th
  refine ⟨p, _, rfl, h, by show 2 < 1000; decide, ?_⟩
  unfold ThAll
  refine ⟨_, _, rfl, by unfold Th; rfl, ?_⟩
  unfold ThAll
  exact ⟨_, _, rfl, by unfold Th; rfl, by unfold ThAll; rfl⟩
theorem th_val {H : Hp} {p : Addr} {u : T} {v : V} (h : H p = some (.tup [.str "value", v])) (hu : Th H u v) : Th H (ansT (.val u)) (.ref p) := by
  unfold ansT Th
  refine ⟨p, _, rfl, h, by show 2 < 1000; decide, ?_⟩
  unfold ThAll
  refine ⟨_, _, rfl, by unfold Th; rfl, ?_⟩
  unfold ThAll
  exact ⟨_, _, rfl, hu, by unfold ThAll; rfl⟩
/-! ### are_of_right_kinds -/
structure TxtR (K : PySem.W.Frag) (w : World) (mg : Str → Option Value) : Prop where
  len : mg "len" = none
  tuple : mg "tuple" = none
  pk : ∃ (p : Addr) (rows : List (Str × V)), mg "PART_KINDS" = some (.ref p) ∧ LK.KTab K w p rows ∧
    Paired (fun (r : Str × V) (q : Str × List (List Str)) => r.1 = q.1 ∧ ∃ (a : Addr) (bs : List Addr), r.2 = .ref a ∧ LK.KTup K a (bs.map V.ref) ∧ Paired (fun (b : Addr) (ks : List Str) => LK.KTup K b (ks.map V.str)) bs q.2) rows kindTab
theorem lookup_paired {F : V → List (List Str) → Prop} {w : Str} : ∀ {rows : List (Str × V)} {tab : List (Str × List (List Str))}, Paired (fun (r : Str × V) (q : Str × List (List Str)) => r.1 = q.1 ∧ F r.2 q.2) rows tab →
    (rows.lookup w = none ∧ tab.lookup w = none) ∨ ∃ v l, rows.lookup w = some v ∧ tab.lookup w = some l ∧ F v l
  | _, _, .nil => .inl ⟨rfl, rfl⟩
  | _, _, .cons (a := r) (b := q) ⟨e, h⟩ t => by
    obtain ⟨r1, r2⟩ := r
    obtain ⟨q1, q2⟩ := q
    have e' : r1 = q1 := e
    subst e'
    cases hb : w == r1 with
    | true => exact .inr ⟨r2, q2, by simp [List.lookup, hb], by simp [List.lookup, hb], h⟩
    | false =>
      have ih := lookup_paired (w := w) t
      simp only [List.lookup, hb]
      exact ih
theorem scKinds : FnScope ["word", "values", "kinds", "value"] ["word", "values"] (defScope sKinds) := ⟨rfl, rfl, rfl, by decide +kernel, rfl, by decide +kernel, by decide +kernel⟩
def spKinds : Sp := fun vs H Q _ => ∃ (w : Str) (a : Addr) (ts : List T) (xs : List V), vs = [.str w, .ref a] ∧ H a = some (.lst xs) ∧ ThAll H ts xs ∧ ts.length ≤ 10 ∧ ∀ H', Same H H' → Q (.bl (kindsOk w ts)) H'
section
variable {P : Program} {w : World} {K : PySem.W.Frag} {mg : Str → Option Value} {base : Heap}
theorem ok_kinds {f fK : Addr} {fd fdK : FuncData} (F : Fun K "are_of_right_kinds" "are_of_right_kinds" sKinds f fd) (FK : Fun K "kind_of" "kind_of" sKind fK fdK) (bK : Binds K fdK ["value"] []) (gK : mg "kind_of" = some (.ref fK)) (TK : TxtK mg) (TR : TxtR K w mg) :
    FnOk P w K mg base CX0 2 f fd ["word", "values"] spKinds := by
  have GK : FnOk P w K mg base CX0 1 fK fdK ["value"] spKind := ok_kind FK TK
  obtain ⟨p, rows, mp, KT, HR⟩ := TR.pk
  refine F.ok scKinds (fun vs H Q E h => ?_) (fun cdv A outer s H vs Q E hr h => ?_)
  · obtain ⟨w, a, ts, xs, rfl, _⟩ := h
    rfl
  · obtain ⟨w, a, ts, xs, rfl, ha, hall, hl, q⟩ := h
    have ND := scKinds.nd
    refine ⟨_, pss_cons (ps_set (i := 2) ND rfl (.inl rfl) (pe_callTy call_tuple_of (by rfl) TR.tuple (by decide +kernel) (pa_cons
        (pe_lc (own := [("value", 3)]) (g := gName 3) (tt := tYes) rfl ND (pi_list (pv 1)) (blkOk_by (own := [("value", 3)]) (N := ["word", "values", "kinds", "value"]) (sc := defScope sKinds) (by decide +kernel))
          (fun _ _ _ _ _ => pg_name (i := 3) ND rfl (Or.inl rfl)) (fun _ _ _ _ _ => pts_nil)
          (fun _ _ _ _ _ => pe_call GK hr rfl gK FK.kp bK .nil pass0 (pa_cons (pv 3) pa_nil))) pa_nil)))
      (pss_one (ps_ret (pe_or (pe_cmpR LK.op_notInTab (pv 0) (pe_glob (v := .ref p) (by rfl) mp rfl) (by rfl)) (pe_one (pe_cmpR (LV.op_inW hr.units) (pv 2) (LK.pe_kidx (pe_glob (v := .ref p) (by rfl) mp rfl) (pv 0) (fun _ _ => rfl)) (by rfl)))))), ?_⟩
    have lxs := thAll_len hall
    refine ⟨_, rfl, a, rfl, ⟨_, SqL.of ha⟩, fun D nD => ?_⟩
    refine lc_list (K := K) (a := a) (xs := xs) (fun j G => G D = some (.lst ((ts.take j).map fun t => V.str (kindS t))) ∧ Same H G) ⟨upd_same, same_upd nD⟩ (fun j G _ hh => SqL.of (hh.2 _ _ ha)) (fun j x G hx hh => ?_) (fun G hh => ?_)
    · obtain ⟨hD, sm⟩ := hh
      have hj : j < ts.length := by
        have := (List.getElem?_eq_some_iff.mp hx).1
        omega
      obtain ⟨u, y', e1, e2, hu⟩ := thAll_get hall hj
      have ey : y' = x := Option.some.inj (e2.symm.trans hx)
      subst ey
      refine ⟨rfl, tYes_if ⟨_, rfl, u, y', rfl, Th.same sm _ _ hu, _, hD, small1000 ?_, ?_, same_updN sm nD⟩⟩
      · rw [List.length_map, List.length_take]
        omega
      · rw [upd_same, List.take_add_one, e1]
        simp
    · obtain ⟨hD, sm⟩ := hh
      rw [← lxs, List.take_length] at hD
      refine ⟨D, _, rfl, .inl ⟨SqL.of hD, fun t nt => ?_⟩⟩
      have s2 : Same H (upd G t (.tup (ts.map fun t => V.str (kindS t)))) := sm.trans (same_upd nt)
      refine ⟨_, rfl, w, p, rows, rfl, rfl, KT, _, rfl, ?_⟩
      rcases lookup_paired (w := w) (F := fun v l => ∃ (a : Addr) (bs : List Addr), v = .ref a ∧ LK.KTup K a (bs.map V.ref) ∧ Paired (fun (b : Addr) (ks : List Str) => LK.KTup K b (ks.map V.str)) bs l) HR with ⟨e1, e2⟩ | ⟨v, l, e1, e2, a2, bs, rfl, k1, k2⟩
      · rw [e1]
        refine iteT ?_
        have q1 := q _ s2
        unfold kindsOk at q1
        rw [e2] at q1
        exact q1
      · rw [e1]
        refine iteF ⟨_, rfl, _, rfl, p, rows, w, .ref a2, rfl, rfl, KT, e1, ?_⟩
        refine LK.in_kts (kss := l) (ys := ts.map kindS) k1 k2 ?_ ?_
        · rw [upd_same, List.map_map]
          rfl
        · have q1 := q _ s2
          unfold kindsOk at q1
          rw [e2] at q1
          exact q1
end
end My
namespace My
open PySem PySem.Spec PyProof.Rows L2 LX
theorem catA_of {K : PySem.W.Frag} {H : Hp} {Q : VK} {a b : Addr} {xs ys : List V} (ha : H a = some (.tup xs)) (hb : H b = some (.tup ys)) (hl : xs.length + ys.length ≤ 1000)
    (q : ∀ (r : Addr) (H' : Hp), Same H H' → H' r = some (.tup (xs ++ ys)) → Q (.ref r) H') : rCatA K (.ref a) (.ref b) H Q := by
  refine ⟨a, b, xs, ys, rfl, rfl, .inl (.inl ha), .inl (.inl hb), Nat.le_of_lt (small1000 hl), fun hx => ?_, fun _ hy => ?_, fun _ _ p np => q p _ (same_upd np) upd_same⟩
  · subst hx
    exact q b H (Same.refl _) hb
  · subst hy
    exact q a H (Same.refl _) (by rw [List.append_nil]; exact ha)
theorem thAll_append {H : Hp} : ∀ {ts us : List T} {vs ws : List V}, ThAll H ts vs → ThAll H us ws → ThAll H (ts ++ us) (vs ++ ws)
  | [], us, vs, ws, h, h2 => by
    unfold ThAll at h
    subst h
    exact h2
  | t :: ts, us, vs, ws, h, h2 => by
    unfold ThAll at h
    obtain ⟨v, r, rfl, h1, h3⟩ := h
    simp only [List.cons_append, ThAll]
    exact ⟨v, r ++ ws, rfl, h1, thAll_append h3 h2⟩
theorem thTup {H : Hp} {p : Addr} {ts : List T} {xs : List V} (h : H p = some (.tup xs)) (hl : xs.length < 1000) (ha : ThAll H ts xs) : Th H (.tup ts) (.ref p) := by
  unfold Th
  exact ⟨p, xs, rfl, h, hl, ha⟩
theorem thInt {H : Hp} {i : Int} : Th H (.int i) (.int i) := by
  unfold Th
  rfl
theorem thStr {H : Hp} {x : Str} : Th H (.str x) (.str x) := by
  unfold Th
  rfl
theorem ln_int : kindTab.lookup ("add" : Str) = some [[("integer" : Str), ("integer" : Str)]] ∧ kindTab.lookup ("subtract" : Str) = some [[("integer" : Str), ("integer" : Str)]] ∧ kindTab.lookup ("multiply" : Str) = some [[("integer" : Str), ("integer" : Str)]] ∧
    kindTab.lookup ("divide" : Str) = some [[("integer" : Str), ("integer" : Str)]] ∧ kindTab.lookup ("less" : Str) = some [[("integer" : Str), ("integer" : Str)]] := by decide +kernel
theorem two_of {w : Str} {n : Nat} (h : Wd w n) (h1 : ¬ w = "list") (h2 : ¬ w = "size") : n = 2 := by
  rcases h with h | h | h
  · exact absurd h.1 h1
  · exact absurd h.1 h2
  · exact h.1
theorem thAll_two {H : Hp} {a b : T} {xs : List V} (h : ThAll H [a, b] xs) : ∃ x y, xs = [x, y] ∧ Th H a x ∧ Th H b y := by
  simp only [ThAll] at h
  obtain ⟨x, r, rfl, h1, y, r2, rfl, h2, rfl⟩ := h
  exact ⟨x, y, rfl, h1, h2⟩
theorem thAll_one {H : Hp} {a : T} {xs : List V} (h : ThAll H [a] xs) : ∃ x, xs = [x] ∧ Th H a x := by
  simp only [ThAll] at h
  obtain ⟨x, r, rfl, h1, rfl⟩ := h
  exact ⟨x, rfl, h1⟩
theorem scResult : FnScope ["word", "values", "first", "second"] ["word", "values"] (defScope sResult) := ⟨rfl, rfl, rfl, by decide +kernel, rfl, by decide +kernel, by decide +kernel⟩
def spResult : Sp := fun vs H Q _ => ∃ (w : Str) (a : Addr) (ts : List T) (xs : List V), vs = [.str w, .ref a] ∧ H a = some (.lst xs) ∧ ThAll H ts xs ∧ Wd w ts.length ∧ (∀ t ∈ ts, isVal t = true) ∧ kindsOk w ts = true ∧
  (w = "divide" → isZero ts = false) ∧ (w = "item" → inRange ts = true) ∧ ∀ H' v, Same H H' → Th H' (resT w ts) v → shortA (resT w ts) → Q v H'
theorem shortA_app {xs ys : List T} (h1 : shortA (.tup xs)) (h2 : shortA (.tup ys)) : shortA (.tup (xs ++ ys)) := by
  unfold shortA at h1 h2 ⊢
  refine shortAll_mem.mpr fun t ht => ?_
  rcases List.mem_append.mp ht with h | h
  · exact shortAll_mem.mp h1 t h
  · exact shortAll_mem.mp h2 t h
section
variable {P : Program} {w : World} {K : PySem.W.Frag} {mg : Str → Option Value} {base : Heap}
theorem ok_result {f fE : Addr} {fd fdE : FuncData} (F : Fun K "result_of" "result_of" sResult f fd) (FE : Fun K "are_equal" "are_equal" sEqual fE fdE) (bE : Binds K fdE ["one", "other"] []) (gE : mg "are_equal" = some (.ref fE)) (GE : FnOk P w K mg base CX0 2 fE fdE ["one", "other"] spEq) (TR : TxtR K w mg) :
    FnOk P w K mg base CX0 3 f fd ["word", "values"] spResult := by
  refine F.ok scResult (fun vs H Q E h => ?_) (fun cdv A outer s H vs Q E hr h => ?_)
  · obtain ⟨w, a, ts, xs, rfl, _⟩ := h
    rfl
  · obtain ⟨w, a, ts, xs, rfl, ha, hall, hw, hval, hk, hz, hi, q⟩ := h
    have ND := scResult.nd
    refine ⟨_, pss_cons (ps_if (pt_cmpR op_eq (pv 0) pe_str (nomark _)) (pss_one (ps_ret (pe_callTy call_tuple_of (by rfl) TR.tuple (by decide +kernel) (pa_cons (pv 1) pa_nil)))) pss_nil)
      (pss_cons (ps_if (pt_cmpR op_eq (pv 0) pe_str (nomark _)) (pss_one (ps_ret (pe_callB (LR.call_or call_len_seq call_len_str) (by rfl) TR.len PySem.boot_len (pa_cons (pe_ix ix_list (pv 1) pe_int (fun _ _ => rfl)) pa_nil)))) pss_nil)
      (pss_cons (ps_asg (pv 1) (pg_lst (by rfl) (pgs_cons (pg_name (i := 2) ND rfl (.inl rfl)) (pgs_cons (pg_name (i := 3) ND rfl (.inl rfl)) pgs_nil))))
      (pss_cons (ps_if (pt_cmpR op_eq (pv 0) pe_str (nomark _)) (pss_one (ps_ret (pe_ix ix_tup (pv 2) (pv 3) (fun _ _ => rfl)))) pss_nil)
      (pss_cons (ps_if (pt_cmpR op_eq (pv 0) pe_str (nomark _)) (pss_one (ps_ret (pe_ifExp (pt_val (pe_call GE hr rfl gE FE.kp bE .nil pass0 (pa_cons (pv 2) (pa_cons (pv 3) pa_nil)))) pe_int pe_int))) pss_nil)
      (pss_cons (ps_if (pt_cmpR op_eq (pv 0) pe_str (nomark _)) (pss_one (ps_ret (pe_ifExp (pt_cmpR op_lt (pv 2) (pv 3) (nomark _)) pe_int pe_int))) pss_nil)
      (pss_cons (ps_if (pt_cmpR op_eq (pv 0) pe_str (nomark _)) (pss_one (ps_ret (pe_op op_sub (pv 2) (pv 3)))) pss_nil)
      (pss_cons (ps_if (pt_cmpR op_eq (pv 0) pe_str (nomark _)) (pss_one (ps_ret (pe_op LK.op_mulB (pv 2) (pv 3)))) pss_nil)
      (pss_cons (ps_if (pt_cmpR op_eq (pv 0) pe_str (nomark _)) (pss_one (ps_ret (pe_op LK.op_fdivB (pv 2) (pv 3)))) pss_nil)
      (pss_one (ps_ret (pe_op (OpR.or op_add (OpR.or op_add_str op_catA)) (pv 2) (pv 3)))))))))))), ?_⟩
    have lxs := thAll_len hall
    refine ⟨_, rfl, rfl, _, rfl, ?_⟩
    rw [dec_str]
    by_cases h1 : w = "list"
    · rw [decide_eq_true h1]
      refine iteT ⟨_, rfl, a, xs, rfl, .inl ⟨SqL.of ha, fun l nl => ?_⟩⟩
      have e : resT w ts = .tup ts := by
        unfold resT
        rw [if_pos h1]
      have hl : ts.length ≤ 10 := by
        rcases hw with h | h | h
        · exact h.2
        · exact absurd (h1.symm.trans h.1) (by decide +kernel)
        · omega
      refine q _ _ (same_upd nl) ?_ ?_
      · rw [e]
        exact thTup upd_same (by omega) (ThAll.same (same_upd nl) _ _ hall)
      · rw [e]
        unfold shortA
        exact shortAll_mem.mpr fun t ht => (val_small (hval t ht)).2
    rw [decide_eq_false h1]
    refine iteF ⟨_, rfl, rfl, _, rfl, ?_⟩
    rw [dec_str]
    by_cases h2 : w = "size"
    · rw [decide_eq_true h2]
      refine iteT ?_
      have hk' := hk
      rw [h2] at hk'
      rcases kinds_size hk' with ⟨x, rfl⟩ | ⟨us, rfl⟩
      · obtain ⟨v, rfl, hv⟩ := thAll_one hall
        unfold Th at hv
        subst hv
        have hx := val_str (hval _ (List.mem_singleton.mpr rfl))
        refine ⟨_, rfl, a, _, _, .str x, rfl, rfl, SqL.of ha, at0 _ _, .inr ⟨x, rfl, Nat.le_trans hx (by decide), ?_⟩⟩
        have e : resT w [.str x] = .int x.length := by
          unfold resT
          rw [if_neg h1, if_pos h2]
        refine q _ _ (Same.refl _) ?_ ?_
        · rw [e]
          exact thInt
        · rw [e]
          unfold shortA
          exact True.intro
      · obtain ⟨v, rfl, hv⟩ := thAll_one hall
        unfold Th at hv
        obtain ⟨b, ys, rfl, hb, hbl, hys⟩ := hv
        refine ⟨_, rfl, a, _, _, .ref b, rfl, rfl, SqL.of ha, at0 _ _, .inl ⟨b, ys, rfl, .inr (SqT.of hb), ?_⟩⟩
        have e : resT w [.tup us] = .int us.length := by
          unfold resT
          rw [if_neg h1, if_pos h2]
        have l2 := thAll_len hys
        refine q _ _ (Same.refl _) ?_ ?_
        · rw [e, l2]
          exact thInt
        · rw [e]
          unfold shortA
          exact True.intro
    rw [decide_eq_false h2]
    refine iteF ?_
    have htwo := two_of hw h1 h2
    obtain ⟨t1, t2, rfl⟩ : ∃ t1 t2, ts = [t1, t2] := by
      match ts, htwo with
      | [t1, t2], _ => exact ⟨t1, t2, rfl⟩
    obtain ⟨v1, v2, rfl, hv1, hv2⟩ := thAll_two hall
    have vl1 := hval t1 (by simp)
    have vl2 := hval t2 (by simp)
    refine ⟨_, rfl, a, _, rfl, SqL.of ha, rfl, _, _, rfl, _, _, rfl, rfl, ?_⟩
    refine ⟨_, rfl, rfl, _, rfl, ?_⟩
    rw [dec_str]
    by_cases h3 : w = "item"
    · rw [decide_eq_true h3]
      refine iteT ?_
      have hk' := hk
      rw [h3] at hk'
      obtain ⟨us, i, e⟩ := kinds_item hk'
      simp only [List.cons.injEq, and_true] at e
      obtain ⟨rfl, rfl⟩ := e
      unfold Th at hv1 hv2
      obtain ⟨b, ys, rfl, hb, hbl, hys⟩ := hv1
      subst hv2
      have hr2 := hi h3
      have hr3 : (decide (0 ≤ i) && decide (i < us.length)) = true := hr2
      rw [Bool.and_eq_true] at hr3
      have i0 := of_decide_eq_true hr3.1
      have i1 := of_decide_eq_true hr3.2
      obtain ⟨n, rfl⟩ := Int.eq_ofNat_of_zero_le i0
      have hn : n < us.length := by omega
      obtain ⟨u, y, e1, e2, hu⟩ := thAll_get hys hn
      refine ⟨_, rfl, _, rfl, b, ys, _, y, rfl, rfl, SqT.of hb, atI_nat e2, ?_⟩
      have e : resT w [.tup us, .int (n : Int)] = u := by
        unfold resT
        rw [if_neg h1, if_neg h2]
        simp only
        rw [if_pos h3, Int.toNat_natCast, e1]
        rfl
      refine q _ _ (Same.refl _) ?_ ?_
      · rw [e]
        exact hu
      · rw [e]
        have s := (val_small vl1).2
        unfold shortA at s
        exact shortAll_mem.mp s u (List.mem_of_getElem? e1)
    rw [decide_eq_false h3]
    refine iteF ⟨_, rfl, rfl, _, rfl, ?_⟩
    rw [dec_str]
    by_cases h4 : w = "equal"
    · rw [decide_eq_true h4]
      refine iteT ?_
      refine ⟨_, rfl, _, rfl, t1, t2, v1, v2, rfl, hv1, hv2, ?_, fun H' sm => ?_⟩
      · have := (val_small vl1).1
        omega
      have e : resT w [t1, t2] = .int (if eqT t1 t2 = true then 1 else 0) := by
        unfold resT
        rw [if_neg h1, if_neg h2]
        simp only
        rw [if_neg h3, if_pos h4]
      have sh : shortA (resT w [t1, t2]) := by
        rw [e]
        unfold shortA
        exact True.intro
      refine ⟨_, rfl, ?_⟩
      cases hb : eqT t1 t2 with
      | true =>
        refine iteT (q _ _ sm ?_ sh)
        rw [e, hb]
        exact thInt
      | false =>
        refine iteF (q _ _ sm ?_ sh)
        rw [e, hb]
        exact thInt
    rw [decide_eq_false h4]
    refine iteF ⟨_, rfl, rfl, _, rfl, ?_⟩
    rw [dec_str]
    have intz : kindTab.lookup w = some [[("integer" : Str), ("integer" : Str)]] → ∃ i j, t1 = .int i ∧ t2 = .int j ∧ v1 = .int i ∧ v2 = .int j ∧ LK.CBig i j := fun z => by
      obtain ⟨i, j, e⟩ := kinds_ints z hk
      simp only [List.cons.injEq, and_true] at e
      obtain ⟨rfl, rfl⟩ := e
      unfold Th at hv1 hv2
      have b1 := val_int vl1
      have b2 := val_int vl2
      have le : (2 : Nat) ^ 200 ≤ 2 ^ 1000 := by decide +kernel
      exact ⟨i, j, rfl, rfl, hv1, hv2, Nat.lt_of_lt_of_le b1 le, Nat.lt_of_lt_of_le b2 le⟩
    have fin : ∀ (i : Int), resT w [t1, t2] = .int i → Q (.int i) H := fun i e => by
      refine q _ _ (Same.refl _) ?_ ?_
      · rw [e]
        exact thInt
      · rw [e]
        unfold shortA
        exact True.intro
    by_cases h5 : w = "less"
    · rw [decide_eq_true h5]
      refine iteT ?_
      obtain ⟨i, j, rfl, rfl, rfl, rfl, _⟩ := intz (by rw [h5]; exact ln_int.2.2.2.2)
      have e : resT w [.int i, .int j] = .int (if i < j then 1 else 0) := by
        unfold resT
        rw [if_neg h1, if_neg h2]
        simp only
        rw [if_neg h3, if_neg h4, if_pos h5]
      refine ⟨_, rfl, _, rfl, _, _, rfl, rfl, _, rfl, ?_⟩
      by_cases hij : i < j
      · rw [decide_eq_true hij]
        refine iteT (fin 1 ?_)
        rw [e, if_pos hij]
      · rw [decide_eq_false hij]
        refine iteF (fin 0 ?_)
        rw [e, if_neg hij]
    rw [decide_eq_false h5]
    refine iteF ⟨_, rfl, rfl, _, rfl, ?_⟩
    rw [dec_str]
    by_cases h6 : w = "subtract"
    · rw [decide_eq_true h6]
      refine iteT ?_
      obtain ⟨i, j, rfl, rfl, rfl, rfl, _⟩ := intz (by rw [h6]; exact ln_int.2.1)
      have e : resT w [.int i, .int j] = .int (i - j) := by
        unfold resT
        rw [if_neg h1, if_neg h2]
        simp only
        rw [if_neg h3, if_neg h4, if_neg h5, if_pos h6]
      exact ⟨_, rfl, _, rfl, _, _, rfl, rfl, fin _ e⟩
    rw [decide_eq_false h6]
    refine iteF ⟨_, rfl, rfl, _, rfl, ?_⟩
    rw [dec_str]
    by_cases h7 : w = "multiply"
    · rw [decide_eq_true h7]
      refine iteT ?_
      obtain ⟨i, j, rfl, rfl, rfl, rfl, cb⟩ := intz (by rw [h7]; exact ln_int.2.2.1)
      have e : resT w [.int i, .int j] = .int (i * j) := by
        unfold resT
        rw [if_neg h1, if_neg h2]
        simp only
        rw [if_neg h3, if_neg h4, if_neg h5, if_neg h6, if_pos h7]
      exact ⟨_, rfl, _, rfl, _, _, rfl, rfl, cb, fin _ e⟩
    rw [decide_eq_false h7]
    refine iteF ⟨_, rfl, rfl, _, rfl, ?_⟩
    rw [dec_str]
    by_cases h8 : w = "divide"
    · rw [decide_eq_true h8]
      refine iteT ?_
      obtain ⟨i, j, rfl, rfl, rfl, rfl, cb⟩ := intz (by rw [h8]; exact ln_int.2.2.2.1)
      have hz' : decide (j = 0) = false := hz h8
      have e : resT w [.int i, .int j] = .int (i.fdiv j) := by
        unfold resT
        rw [if_neg h1, if_neg h2]
        simp only
        rw [if_neg h3, if_neg h4, if_neg h5, if_neg h6, if_neg h7, if_pos h8]
      exact ⟨_, rfl, _, rfl, _, _, rfl, rfl, ⟨of_decide_eq_false hz', cb⟩, fin _ e⟩
    rw [decide_eq_false h8]
    refine iteF ?_
    have hw2 : w = "add" ∨ w = "join" := by
      rcases hw with h | h | ⟨_, h⟩
      · exact absurd h.1 h1
      · exact absurd h.1 h2
      · rcases h with h | h | h | h | h | h | h | h
        · exact .inl h
        · exact absurd h h6
        · exact absurd h h7
        · exact absurd h h8
        · exact absurd h h5
        · exact absurd h h4
        · exact .inr h
        · exact absurd h h3
    rcases hw2 with h9 | h9
    · obtain ⟨i, j, rfl, rfl, rfl, rfl, cb⟩ := intz (by rw [h9]; exact ln_int.1)
      have e : resT w [.int i, .int j] = .int (i + j) := by
        unfold resT
        rw [if_neg h1, if_neg h2]
        simp only
        rw [if_neg h3, if_neg h4, if_neg h5, if_neg h6, if_neg h7, if_neg h8]
      exact ⟨_, rfl, _, rfl, .inl ⟨_, _, rfl, rfl, fin _ e⟩⟩
    · have hk' := hk
      rw [h9] at hk'
      rcases kinds_join hk' with ⟨x, y, e⟩ | ⟨us, ws, e⟩
      · simp only [List.cons.injEq, and_true] at e
        obtain ⟨rfl, rfl⟩ := e
        unfold Th at hv1 hv2
        subst hv1 hv2
        have b1 := val_str vl1
        have b2 := val_str vl2
        have e : resT w [.str x, .str y] = .str (x ++ y) := by
          unfold resT
          rw [if_neg h1, if_neg h2]
          simp only
          rw [if_neg h3, if_neg h4]
        refine ⟨_, rfl, _, rfl, .inr (.inl ⟨x, y, rfl, rfl, ?_, ?_⟩)⟩
        · exact Nat.le_trans (show x.length + y.length ≤ 120 by omega) (by decide)
        · refine q _ _ (Same.refl _) ?_ ?_
          · rw [e]
            exact thStr
          · rw [e]
            unfold shortA
            have := PySem.Str.length_append x y
            omega
      · simp only [List.cons.injEq, and_true] at e
        obtain ⟨rfl, rfl⟩ := e
        have s1 := (val_small vl1).2
        have s2 := (val_small vl2).2
        have b1 := val_tup vl1
        have b2 := val_tup vl2
        unfold Th at hv1 hv2
        obtain ⟨b, ys, rfl, hb, hbl, hys⟩ := hv1
        obtain ⟨c, zs, rfl, hc, hcl, hzs⟩ := hv2
        have l1 := thAll_len hys
        have l2 := thAll_len hzs
        have e : resT w [.tup us, .tup ws] = .tup (us ++ ws) := by
          unfold resT
          rw [if_neg h1, if_neg h2]
          simp only
          rw [if_neg h3, if_neg h4]
        refine ⟨_, rfl, _, rfl, .inr (.inr (catA_of hb hc (by omega) fun r H' sm hr => ?_))⟩
        refine q _ _ sm ?_ ?_
        · rw [e]
          exact thTup hr (by rw [List.length_append]; omega) (thAll_append (ThAll.same sm _ _ hys) (ThAll.same sm _ _ hzs))
        · rw [e]
          exact shortA_app s1 s2
end
end My
namespace My
open PySem PySem.Spec PyProof.Rows L2 LX
/-! ### applied -/
theorem scApplied : FnScope ["word", "values", "result"] ["word", "values"] (defScope sApplied) := ⟨rfl, rfl, rfl, by decide +kernel, rfl, by decide +kernel, by decide +kernel⟩
def spApplied : Sp := fun vs H Q _ => ∃ (w : Str) (a : Addr) (ts : List T) (xs : List V), vs = [.str w, .ref a] ∧ H a = some (.lst xs) ∧ ThAll H ts xs ∧ Wd w ts.length ∧ (∀ t ∈ ts, isVal t = true) ∧
  ∀ H' v, Same H H' → Th H' (ansT (appA w ts)) v → Q v H'
theorem wd_ten {w : Str} {n : Nat} (h : Wd w n) : n ≤ 10 := by
  rcases h with h | h | h <;> omega
section
variable {P : Program} {w : World} {K : PySem.W.Frag} {mg : Str → Option Value} {base : Heap}
theorem ok_applied {f fK fR fV : Addr} {fd fdK fdR fdV : FuncData} (F : Fun K "applied" "applied" sApplied f fd)
    (FK : Fun K "are_of_right_kinds" "are_of_right_kinds" sKinds fK fdK) (bK : Binds K fdK ["word", "values"] []) (gK : mg "are_of_right_kinds" = some (.ref fK)) (GK : FnOk P w K mg base CX0 2 fK fdK ["word", "values"] spKinds)
    (FR : Fun K "result_of" "result_of" sResult fR fdR) (bR : Binds K fdR ["word", "values"] []) (gR : mg "result_of" = some (.ref fR)) (GR : FnOk P w K mg base CX0 3 fR fdR ["word", "values"] spResult)
    (FV : Fun K "is_value" "is_value" sIsValue fV fdV) (bV : Binds K fdV ["value"] []) (gV : mg "is_value" = some (.ref fV)) (GV : FnOk P w K mg base CX0 5 fV fdV ["value"] spVal) (ml : mg "len" = none) :
    FnOk P w K mg base CX0 6 f fd ["word", "values"] spApplied := by
  refine F.ok scApplied (fun vs H Q E h => ?_) (fun cdv A outer s H vs Q E hr h => ?_)
  · obtain ⟨w, a, ts, xs, rfl, _⟩ := h
    rfl
  · obtain ⟨w, a, ts, xs, rfl, ha, hall, hw, hval, q⟩ := h
    have ND := scApplied.nd
    have hr2 : Room 2 _ := hr.mono (by decide)
    have hr3 : Room 3 _ := hr.mono (by decide)
    refine ⟨_, pss_cons (ps_if (pt_not (pt_val (pe_call GK hr2 rfl gK FK.kp bK .nil pass0 (pa_cons (pv 0) (pa_cons (pv 1) pa_nil))))) (pss_one (ps_ret (pe_tup (pa_cons pe_str (pa_cons pe_str pa_nil))))) pss_nil)
      (pss_cons (ps_if (PW.pt (pw_and (pt_cmpR op_eq (pv 0) pe_str (nomark _)) (pw_and1 (pt_cmpR op_eq (pe_ix ix_list (pv 1) pe_int (fun _ _ => rfl)) pe_int (nomark _))))) (pss_one (ps_ret (pe_tup (pa_cons pe_str (pa_cons pe_str pa_nil))))) pss_nil)
      (pss_cons (ps_if (PW.pt (pw_and (pt_cmpR op_eq (pv 0) pe_str (nomark _)) (pw_and1 (pt_not (pt_chain op_le op_lt pe_int (pe_ix ix_list (pv 1) pe_int (fun _ _ => rfl)) (pe_callB call_len_seq (by rfl) ml PySem.boot_len (pa_cons (pe_ix ix_list (pv 1) pe_int (fun _ _ => rfl)) pa_nil))))))) (pss_one (ps_ret (pe_tup (pa_cons pe_str (pa_cons pe_str pa_nil))))) pss_nil)
      (pss_cons (ps_set (i := 2) ND rfl (.inl rfl) (pe_call GR hr3 rfl gR FR.kp bR .nil pass0 (pa_cons (pv 0) (pa_cons (pv 1) pa_nil))))
      (pss_cons (ps_if (pt_not (pt_val (pe_call GV hr rfl gV FV.kp bV .nil pass0 (pa_cons (pv 2) pa_nil)))) (pss_one (ps_ret (pe_tup (pa_cons pe_str (pa_cons pe_str pa_nil))))) pss_nil)
      (pss_one (ps_ret (pe_tup (pa_cons pe_str (pa_cons (pv 2) pa_nil))))))))), ?_⟩
    have lxs := thAll_len hall
    have h10 := wd_ten hw
    have failR : ∀ (H1 : Hp) (r : Str), Same H H1 → appA w ts = .fail r → ∀ t, H1 t = none → Q (.ref t) (upd H1 t (.tup [.str "failed", .str r])) := fun H1 r sm e t nt => q _ _ (sm.trans (same_upd nt)) (by rw [e]; exact th_fail upd_same)
    refine ⟨_, rfl, _, rfl, w, a, ts, xs, rfl, ha, hall, h10, fun H1 s1 => ⟨_, rfl, ?_⟩⟩
    have ha1 := s1 _ _ ha
    have hall1 := ThAll.same s1 _ _ hall
    cases hk : kindsOk w ts with
    | false =>
      refine iteT ⟨by show 2 ≤ sizeLine; decide, failR H1 _ s1 ?_⟩
      unfold appA
      rw [if_pos hk]
    | true =>
      refine iteF ?_
      have nk : ¬ kindsOk w ts = false := by rw [hk]; exact Bool.noConfusion
      -- divide by 0
      have two : w = "divide" ∨ w = "item" → ∃ t1 t2 v1 v2, ts = [t1, t2] ∧ xs = [v1, v2] ∧ Th H1 t1 v1 ∧ Th H1 t2 v2 := fun z => by
        have z1 : ¬ w = "list" := by
          rcases z with rfl | rfl <;> decide +kernel
        have z2 : ¬ w = "size" := by
          rcases z with rfl | rfl <;> decide +kernel
        have htwo := two_of hw z1 z2
        match ts, htwo, hall1 with
        | [t1, t2], _, hall1 =>
          obtain ⟨v1, v2, rfl, a1, a2⟩ := thAll_two hall1
          exact ⟨t1, t2, v1, v2, rfl, rfl, a1, a2⟩
      have tail : (w = "divide" → isZero ts = false) → (w = "item" → inRange ts = true) → ∀ (H2 : Hp) (v : V), Same H1 H2 → Th H2 (resT w ts) v → shortA (resT w ts) → ∀ H3, Same H2 H3 →
          (isVal (resT w ts) = true → ∀ t, H3 t = none → Q (.ref t) (upd H3 t (.tup [.str "value", v]))) ∧ (isVal (resT w ts) = false → ∀ t, H3 t = none → Q (.ref t) (upd H3 t (.tup [.str "failed", .str "size"]))) := fun z1 z2 H2 v s2 hv sh H3 s3 => by
        have e1 : ¬ (w = "divide" ∧ isZero ts = true) := fun ⟨a, b⟩ => by
          rw [z1 a] at b
          cases b
        have e2 : ¬ (w = "item" ∧ inRange ts = false) := fun ⟨a, b⟩ => by
          rw [z2 a] at b
          cases b
        refine ⟨fun hb t nt => ?_, fun hb t nt => ?_⟩
        · have e : appA w ts = .val (resT w ts) := by
            unfold appA
            rw [if_neg nk, if_neg e1, if_neg e2, if_pos hb]
          have sm := (s1.trans (s2.trans s3)).trans (same_upd (o := .tup [.str "value", v]) nt)
          exact q _ _ sm (by rw [e]; exact th_val upd_same (Th.same (s3.trans (same_upd nt)) _ _ hv))
        · refine failR H3 _ (s1.trans (s2.trans s3)) ?_ t nt
          unfold appA
          rw [if_neg nk, if_neg e1, if_neg e2, if_neg (by rw [hb]; exact Bool.noConfusion)]
      refine ⟨_, rfl, rfl, _, rfl, ?_⟩
      rw [dec_str]
      by_cases hd : w = "divide"
      · rw [decide_eq_true hd]
        refine iteT ?_
        obtain ⟨t1, t2, v1, v2, rfl, rfl, a1, a2⟩ := two (.inl hd)
        have hk' := hk
        rw [hd] at hk'
        obtain ⟨i, j, e⟩ := kinds_ints ln_int.2.2.2.1 hk'
        simp only [List.cons.injEq, and_true] at e
        obtain ⟨rfl, rfl⟩ := e
        unfold Th at a1 a2
        subst a1 a2
        refine ⟨_, rfl, a, _, _, .int j, rfl, rfl, SqL.of ha1, at1 _ _ _, rfl, _, rfl, ?_⟩
        by_cases hj : j = 0
        · rw [decide_eq_true (by rw [hj])]
          refine iteT ⟨by show 2 ≤ sizeLine; decide, failR H1 _ s1 ?_⟩
          unfold appA
          rw [if_neg nk, if_pos ⟨hd, by show decide (j = 0) = true; exact decide_eq_true hj⟩]
        · rw [decide_eq_false fun z => hj (V.int.inj z)]
          refine iteF ?_
          have hni : ¬ w = "item" := by
            rw [hd]
            decide +kernel
          have z1 : w = "divide" → isZero [.int i, .int j] = false := fun _ => by
            show decide (j = 0) = false
            exact decide_eq_false hj
          have z2 : w = "item" → inRange [.int i, .int j] = true := fun z => absurd z hni
          refine ⟨_, rfl, rfl, _, rfl, ?_⟩
          rw [dec_str, decide_eq_false hni]
          refine iteF ?_
          refine ⟨_, rfl, _, rfl, w, a, _, _, rfl, ha1, hall1, hw, hval, hk, z1, z2, fun H2 v s2 hv sh => ?_⟩
          refine ⟨_, rfl, _, v, rfl, hv, sh, fun H3 s3 => ⟨_, rfl, ?_⟩⟩
          have tl := tail z1 z2 H2 v s2 hv sh H3 s3
          cases hb : isVal (resT w [.int i, .int j]) with
          | true => exact iteF ⟨_, rfl, by show 2 ≤ sizeLine; decide, tl.1 hb⟩
          | false => exact iteT ⟨by show 2 ≤ sizeLine; decide, tl.2 hb⟩
      · rw [decide_eq_false hd]
        refine iteF ?_
        have z1 : w = "divide" → isZero ts = false := fun z => absurd z hd
        refine ⟨_, rfl, rfl, _, rfl, ?_⟩
        rw [dec_str]
        by_cases hi : w = "item"
        · rw [decide_eq_true hi]
          refine iteT ?_
          obtain ⟨t1, t2, v1, v2, rfl, rfl, a1, a2⟩ := two (.inr hi)
          have hk' := hk
          rw [hi] at hk'
          obtain ⟨us, i, e⟩ := kinds_item hk'
          simp only [List.cons.injEq, and_true] at e
          obtain ⟨rfl, rfl⟩ := e
          unfold Th at a1 a2
          obtain ⟨b, ys, rfl, hb, hbl, hys⟩ := a1
          subst a2
          have l2 := thAll_len hys
          have go : ∀ c : Bool, inRange [.tup us, .int i] = c → (if c = true then
              (w = "item" → inRange [.tup us, .int i] = true) else appA w [.tup us, .int i] = .fail "range") := fun c e => by
            cases c with
            | true => exact iteT fun _ => e
            | false =>
              refine iteF ?_
              unfold appA
              rw [if_neg nk, if_neg (fun z => hd z.1), if_pos ⟨hi, e⟩]
          refine ⟨_, rfl, a, _, _, .int i, rfl, rfl, SqL.of ha1, at1 _ _ _, _, _, rfl, rfl, _, rfl, ?_⟩
          have hin : inRange [.tup us, .int i] = (decide (0 ≤ i) && decide (i < us.length)) := rfl
          have bad : inRange [.tup us, .int i] = false → ∀ t, H1 t = none → Q (.ref t) (upd H1 t (.tup [.str "failed", .str "range"])) := fun e t nt => failR H1 _ s1 (by
            have := go false e
            simpa using this) t nt
          by_cases h0 : (0 : Int) ≤ i
          · rw [decide_eq_true h0]
            refine iteT ?_
            refine ⟨_, rfl, a, _, _, .ref b, rfl, rfl, SqL.of ha1, at0 _ _, b, ys, rfl, .inr (SqT.of hb), _, _, rfl, rfl, _, rfl, ?_⟩
            by_cases hl : i < (ys.length : Int)
            · rw [decide_eq_true hl]
              refine iteF ?_
              have z2 : w = "item" → inRange [.tup us, .int i] = true := fun _ => by
                rw [hin, decide_eq_true h0, Bool.true_and]
                exact decide_eq_true (by omega)
              refine ⟨_, rfl, _, rfl, w, a, _, _, rfl, ha1, hall1, hw, hval, hk, z1, z2, fun H2 v s2 hv sh => ?_⟩
              refine ⟨_, rfl, _, v, rfl, hv, sh, fun H3 s3 => ⟨_, rfl, ?_⟩⟩
              have tl := tail z1 z2 H2 v s2 hv sh H3 s3
              cases hb : isVal (resT w [.tup us, .int i]) with
              | true => exact iteF ⟨_, rfl, by show 2 ≤ sizeLine; decide, tl.1 hb⟩
              | false => exact iteT ⟨by show 2 ≤ sizeLine; decide, tl.2 hb⟩
            · rw [decide_eq_false hl]
              refine iteT ⟨by show 2 ≤ sizeLine; decide, bad ?_⟩
              rw [hin, decide_eq_false (p := i < (us.length : Int)) (by omega), Bool.and_false]
          · rw [decide_eq_false h0]
            refine iteF ⟨_, rfl, iteT ⟨by show 2 ≤ sizeLine; decide, bad ?_⟩⟩
            rw [hin, decide_eq_false h0, Bool.false_and]
        · rw [decide_eq_false hi]
          refine iteF ?_
          have z2 : w = "item" → inRange ts = true := fun z => absurd z hi
          refine ⟨_, rfl, _, rfl, w, a, _, _, rfl, ha1, hall1, hw, hval, hk, z1, z2, fun H2 v s2 hv sh => ?_⟩
          refine ⟨_, rfl, _, v, rfl, hv, sh, fun H3 s3 => ⟨_, rfl, ?_⟩⟩
          have tl := tail z1 z2 H2 v s2 hv sh H3 s3
          cases hb : isVal (resT w ts) with
          | true => exact iteF ⟨_, rfl, by show 2 ≤ sizeLine; decide, tl.1 hb⟩
          | false => exact iteT ⟨by show 2 ≤ sizeLine; decide, tl.2 hb⟩
end
end My
namespace My
open PySem PySem.Spec PyProof.Rows L2 LX
/-! ### looked_up -/
def envP (prs : List (L2.Key × T)) (x : Str) : Option T := (prs.find? fun p => decide (p.1 = .inr x)).map (·.2)
theorem env_at {H : Hp} {x : Str} : ∀ {prs : List (L2.Key × T)} {kvs : List (L2.Key × V)}, KvT H prs kvs → (envP prs x = none ∧ valV kvs (.inr x) = none) ∨ ∃ t v, envP prs x = some t ∧ valV kvs (.inr x) = some v ∧ Th H t v
  | _, _, .nil => .inl ⟨rfl, rfl⟩
  | _, _, .cons (a := p) (b := q) ⟨e, h⟩ t => by
    unfold envP valV
    by_cases hp : p.1 = .inr x
    · have hq : q.1 = .inr x := e ▸ hp
      refine .inr ⟨p.2, q.2, ?_, ?_, h⟩
      · simp [List.find?_cons, hp]
      · simp [List.find?_cons, hq]
    · have hq : ¬ q.1 = .inr x := fun z => hp (e.trans z)
      have ih := env_at (x := x) t
      unfold envP valV at ih
      simp only [List.find?_cons, decide_eq_false hp, decide_eq_false hq]
      exact ih
theorem env_val {prs : List (L2.Key × T)} (h : stOk prs = true) : ∀ x v, envP prs x = some v → isVal v = true := by
  intro x v e
  unfold envP at e
  obtain ⟨p, hp, rfl⟩ := Option.map_eq_some_iff.mp e
  have hm := List.mem_of_find?_eq_some hp
  have := List.all_eq_true.mp h p hm
  rw [Bool.and_eq_true] at this
  exact this.2
def lookA (prs : List (L2.Key × T)) (x : Str) : Ans := match envP prs x with
  | some t => .val t
  | none => .fail "name"
theorem scLooked : FnScope ["name", "variables"] ["name", "variables"] (defScope sLooked) := ⟨rfl, rfl, rfl, by decide +kernel, rfl, by decide +kernel, by decide +kernel⟩
def spLooked : Sp := fun vs H Q _ => ∃ (x : Str) (d : Addr) (prs : List (L2.Key × T)), vs = [.str x, .ref d] ∧ DkAt H d prs ∧ ∀ H' v, Same H H' → Th H' (ansT (lookA prs x)) v → Q v H'
theorem scEvaluated : FnScope ["expression", "variables", "word", "values", "part", "answer"] ["expression", "variables"] (defScope sEvaluated) := ⟨rfl, rfl, rfl, by decide +kernel, rfl, by decide +kernel, by decide +kernel⟩
def spEvd (n : Nat) : Sp := fun vs H Q _ => ∃ (t : T) (v : V) (d : Addr) (prs : List (L2.Key × T)), vs = [v, .ref d] ∧ Th H t v ∧ nestT n t = true ∧ DkAt H d prs ∧ stOk prs = true ∧ ∀ H' r, Same H H' → Th H' (ansT (evA n (envP prs) t)) r → Q r H'
theorem un_fail {H : Hp} {r : Str} {v : V} (h : Th H (ansT (.fail r)) v) : ∃ p, v = .ref p ∧ H p = some (.tup [.str "failed", .str r]) := by
  unfold ansT Th at h
  obtain ⟨p, xs, rfl, hp, _, ha⟩ := h
  obtain ⟨x, y, rfl, h1, h2⟩ := thAll_two ha
  unfold Th at h1 h2
  subst h1 h2
  exact ⟨p, rfl, hp⟩
theorem un_val {H : Hp} {u : T} {v : V} (h : Th H (ansT (.val u)) v) : ∃ p y, v = .ref p ∧ H p = some (.tup [.str "value", y]) ∧ Th H u y := by
  unfold ansT Th at h
  obtain ⟨p, xs, rfl, hp, _, ha⟩ := h
  obtain ⟨x, y, rfl, h1, h2⟩ := thAll_two ha
  unfold Th at h1
  subst h1
  exact ⟨p, y, rfl, hp, h2⟩
theorem ne_vf : ¬ ("value" : Str) = "failed" := by decide +kernel
section
variable {P : Program} {w : World} {K : PySem.W.Frag} {mg : Str → Option Value} {base : Heap}
theorem ok_looked {f : Addr} {fd : FuncData} (F : Fun K "looked_up" "looked_up" sLooked f fd) : FnOk P w K mg base CX0 1 f fd ["name", "variables"] spLooked := by
  refine F.ok scLooked (fun vs H Q E h => ?_) (fun cdv A outer s H vs Q E hr h => ?_)
  · obtain ⟨x, d, prs, rfl, _⟩ := h
    rfl
  · obtain ⟨x, d, prs, rfl, ⟨kvs, hd, hkv, hl, hp⟩, q⟩ := h
    refine ⟨_, pss_cons (ps_if (pt_cmp (pc_dnotin (hu_of hr) (pv 0) (pv 1))) (pss_one (ps_ret (pe_tup (pa_cons pe_str (pa_cons pe_str pa_nil))))) pss_nil)
      (pss_one (ps_ret (pe_tup (pa_cons pe_str (pa_cons (pe_dget (hu_of hr) (pv 1) (pv 0) (fun _ _ => rfl)) pa_nil))))), ?_⟩
    refine ⟨_, rfl, _, rfl, d, _, rfl, DGet.k (k := Sum.inr x) hd, _, rfl, ?_⟩
    rcases env_at (x := x) hkv with ⟨e1, e2⟩ | ⟨t, v, e1, e2, ht⟩
    · rw [e2]
      refine iteT ⟨by show 2 ≤ sizeLine; decide, fun p np => q _ _ (same_upd np) ?_⟩
      unfold lookA
      rw [e1]
      exact th_fail upd_same
    · rw [e2]
      refine iteF ⟨_, rfl, _, rfl, d, v, rfl, ?_, by show 2 ≤ sizeLine; decide, fun p np => q _ _ (same_upd np) ?_⟩
      · have g := DGet.k (k := Sum.inr x) hd
        rw [e2] at g
        exact g
      · unfold lookA
        rw [e1]
        exact th_val upd_same (Th.same (same_upd np) _ _ ht)
theorem ok_evd {f fL fA : Addr} {fd fdL fdA : FuncData} (F : Fun K "evaluated" "evaluated" sEvaluated f fd) (bF : Binds K fd ["expression", "variables"] []) (gF : mg "evaluated" = some (.ref f))
    (FL : Fun K "looked_up" "looked_up" sLooked fL fdL) (bL : Binds K fdL ["name", "variables"] []) (gL : mg "looked_up" = some (.ref fL))
    (FA : Fun K "applied" "applied" sApplied fA fdA) (bA : Binds K fdA ["word", "values"] []) (gA : mg "applied" = some (.ref fA)) (GA : FnOk P w K mg base CX0 6 fA fdA ["word", "values"] spApplied) :
    ∀ n : Nat, FnOk P w K mg base CX0 (n + 7) f fd ["expression", "variables"] (spEvd n) := by
  have GL : FnOk P w K mg base CX0 1 fL fdL ["name", "variables"] spLooked := ok_looked FL
  intro n
  induction n with
  | zero =>
    exact F.ok scEvaluated (fun vs H Q E h => by obtain ⟨t, v, d, prs, rfl, _⟩ := h; rfl) (fun cdv A outer s H vs Q E hr h => by
      obtain ⟨t, v, d, prs, rfl, _, z, _⟩ := h
      exact absurd z (by simp [nestT]))
  | succ n GR =>
    refine F.ok scEvaluated (fun vs H Q E h => ?_) (fun cdv A outer s H vs Q E hr h => ?_)
    · obtain ⟨t, v, d, prs, rfl, _⟩ := h
      rfl
    · obtain ⟨t, v, d, prs, rfl, ht, hne, hdk, hst, q⟩ := h
      have ND := scEvaluated.nd
      have hr1 : Room 1 _ := hr.mono (by omega)
      have hr6 : Room 6 _ := hr.mono (by omega)
      refine ⟨_, pss_cons (ps_set (i := 2) ND rfl (.inl rfl) (pe_ix ix_tup (pv 0) pe_int (fun _ _ => rfl)))
        (pss_cons (ps_if (pt_cmpR op_eq (pv 2) pe_str (nomark _)) (pss_one (ps_ret (pe_tup (pa_cons pe_str (pa_cons (pe_ix ix_tup (pv 0) pe_int (fun _ _ => rfl)) pa_nil))))) pss_nil)
        (pss_cons (ps_if (pt_cmpR op_eq (pv 2) pe_str (nomark _)) (pss_one (ps_ret (pe_call GL hr1 rfl gL FL.kp bL .nil pass0 (pa_cons (pe_ix ix_tup (pv 0) pe_int (fun _ _ => rfl)) (pa_cons (pv 1) pa_nil))))) pss_nil)
        (pss_cons (ps_set (i := 3) ND rfl (.inl rfl) (pe_lst pa_nil))
        (pss_cons (ps_for PassesOwn.never rfl (pi_tup (pe_slice sl_tupA (pv 0) (po_some pe_int) po_none)) (pg_name (i := 4) ND rfl (.inl rfl))
          (pss_cons (ps_set (i := 5) ND rfl (.inl rfl) (pe_call GR hr rfl gF F.kp bF .nil pass0 (pa_cons (pv 4) (pa_cons (pv 1) pa_nil))))
          (pss_cons (ps_if (pt_cmpR op_eq (pe_ix ix_tup (pv 5) pe_int (fun _ _ => rfl)) pe_str (nomark _)) (pss_one (ps_ret (pv 5))) pss_nil)
          (pss_one (ps_expr (pe_bm PySem.F.plainAttrs_list PySem.F.slot_list_append PySem.F.type_list_append mt_append (pv 3) (pa_cons (pe_ix ix_tup (pv 5) pe_int (fun _ _ => rfl)) pa_nil)))))))
        (pss_one (ps_ret (pe_call GA hr6 rfl gA FA.kp bA .nil pass0 (pa_cons (pv 2) (pa_cons (pv 3) pa_nil))))))))), ?_⟩
      obtain ⟨hf, x, ps, rfl, hp⟩ := nest_parts hne
      simp only [Th] at ht
      obtain ⟨a, xs, rfl, ha, hxl, hall⟩ := ht
      simp only [ThAll] at hall
      obtain ⟨v0, r, rfl, h0, hr'⟩ := hall
      simp only [Th] at h0
      subst h0
      refine ⟨_, rfl, a, _, _, .str x, rfl, rfl, .inl (.inl ha), at0 _ _, ?_⟩
      refine ⟨_, rfl, rfl, _, rfl, ?_⟩
      rw [dec_str]
      by_cases h1 : x = "value"
      · rw [decide_eq_true h1]
        obtain ⟨p, rfl⟩ := form_one hf (.inl h1)
        obtain ⟨u, rfl, hu⟩ := thAll_one hr'
        refine iteT ⟨_, rfl, a, _, _, u, rfl, rfl, .inl (.inl ha), at1 _ _ _, by show 2 ≤ sizeLine; decide, fun t nt => ?_⟩
        refine q _ _ (same_upd nt) ?_
        simp only [evA]
        rw [if_pos h1]
        exact th_val upd_same (Th.same (same_upd nt) _ _ hu)
      rw [decide_eq_false h1]
      refine iteF ⟨_, rfl, rfl, _, rfl, ?_⟩
      rw [dec_str]
      rw [if_neg h1] at hp
      by_cases h2 : x = "name"
      · rw [decide_eq_true h2]
        obtain ⟨p, rfl⟩ := form_one hf (.inr h2)
        rw [if_pos h2] at hp
        have hp1 : isName p = true := by simpa using hp
        obtain ⟨y, rfl⟩ : ∃ y, p = .str y := by
          cases p with
          | str y => exact ⟨y, rfl⟩
          | _ => exact absurd hp1 (by simp [isName, isKey])
        obtain ⟨u, rfl, hu⟩ := thAll_one hr'
        unfold Th at hu
        subst hu
        refine iteT ⟨_, rfl, a, _, _, .str y, rfl, rfl, .inl (.inl ha), at1 _ _ _, _, rfl, y, d, prs, rfl, hdk, fun H' v' sm hv => ?_⟩
        refine q _ _ sm ?_
        simp only [evA]
        rw [if_neg h1, if_pos h2]
        unfold lookA at hv
        cases he : envP prs y <;> rw [he] at hv <;> exact hv
      rw [decide_eq_false h2]
      refine iteF ?_
      rw [if_neg h2] at hp
      have hpa := List.all_eq_true.mp hp
      have hwd := wd_of hf h1 h2
      have h10 := form_ten hf
      have lps := thAll_len hr'
      have een : evA (n + 1) (envP prs) (.tup (.str x :: ps)) = (match evAll (evA n (envP prs)) ps with | .inl r => .fail r | .inr vs => appA x vs) := by
        simp only [evA]
        rw [if_neg h1, if_neg h2]
        try rfl
      refine ⟨by show 0 ≤ sizeLine; decide, fun D nD => ?_⟩
      have s1 : Same H (upd H D (.lst [])) := same_upd nD
      refine ⟨.ref a, rfl, 1, rfl, ?_⟩
      dsimp only [tNoPart]
      refine slA_of (s1 _ _ ha) fun b Hb sb hb => ?_
      have hb' : Hb b = some (.tup r) := hb.trans (congrArg (fun z => some (HO.tup z)) ((cut_from (V.str x :: r) 1).trans rfl))
      have hDb : Hb D = some (.lst []) := sb _ _ upd_same
      have nbD : b ≠ D := ne_of hb' hDb (by intro z; cases z)
      refine ⟨b, rfl, ⟨r, .inl (.inl hb')⟩, ?_⟩
      refine for_tup (K := K) (a := b) (xs := r) (D := { nx := tRet (tCall spApplied [] E0 (tCons (tVar 2) (tCons (tVar 3) tNil))) { nx := fun x H' => Q V.non H', rt := Q }, rt := Q })
        (fun i σ H' => ∃ (z1 z2 : Option V) (us : List T) (vs : List V), σ = [some (.ref a), some (.ref d), some (.str x), some (.ref D), z1, z2] ∧ Same H H' ∧ H' b = some (.tup r) ∧ H' D = some (.lst vs) ∧ ThAll H' us vs ∧ evAll (evA n (envP prs)) (ps.take i) = .inr us)
        ⟨none, none, [], [], rfl, s1.trans sb, hb', hDb, by unfold ThAll; rfl, rfl⟩ (fun i σ H' _ ⟨_, _, _, _, _, _, hb2, _⟩ => .inl (.inl hb2)) (fun i y σ H' hy hh => ?_) (fun σ H' hh => ?_)
      · obtain ⟨z1, z2, us, vs, rfl, sm, hb2, hD2, hall2, hev⟩ := hh
        have hi : i < ps.length := by
          have := (List.getElem?_eq_some_iff.mp hy).1
          omega
        obtain ⟨u, y', e1, e2, hu⟩ := thAll_get (ThAll.same sm _ _ hr') hi
        have ey : y' = y := Option.some.inj (e2.symm.trans hy)
        subst ey
        have hmem := List.mem_of_getElem? e1
        have etk : ps.take (i + 1) = ps.take i ++ [u] := by
          rw [List.take_add_one, e1]
          rfl
        refine ⟨_, rfl, _, rfl, u, y', d, prs, rfl, hu, hpa u hmem, hdk.same sm, hst, fun H2 v2 s2 hv2 => ?_⟩
        have sm2 := sm.trans s2
        cases hev2 : evA n (envP prs) u with
        | fail rs =>
          rw [hev2] at hv2
          obtain ⟨p, rfl, hp2⟩ := un_fail hv2
          refine ⟨_, rfl, p, _, _, .str "failed", rfl, rfl, SqT.of hp2, at0 _ _, rfl, _, rfl, ?_⟩
          rw [dec_str, decide_eq_true rfl]
          refine iteT ⟨_, rfl, ?_⟩
          refine q _ _ sm2 ?_
          have e : evAll (evA n (envP prs)) ps = .inl rs := by
            rw [← List.take_append_drop (i + 1) ps, etk]
            refine evAll_stop _ _ _ _ ?_
            rw [evAll_snoc, hev]
            simp only
            rw [hev2]
          rw [een, e]
          exact th_fail hp2
        | val t2 =>
          rw [hev2] at hv2
          obtain ⟨p, y2, rfl, hp2, ht2⟩ := un_val hv2
          refine ⟨_, rfl, p, _, _, .str "value", rfl, rfl, SqT.of hp2, at0 _ _, rfl, _, rfl, ?_⟩
          rw [dec_str, decide_eq_false ne_vf]
          refine iteF ?_
          have hD3 := s2 _ _ hD2
          have l2 := thAll_len hall2
          have lu : us.length = i := by
            have := (evAll_vals (P := fun _ => True) hev fun _ _ _ _ => True.intro).1
            rw [List.length_take] at this
            omega
          refine ⟨_, rfl, .inl ⟨rfl, _, SqL.of hD3⟩, _, rfl, p, _, _, y2, rfl, rfl, SqT.of hp2, at1 _ _ _, D, _, y2, rfl, rfl, hD3, small1000 (by omega), ?_⟩
          have nDp : p ≠ D := ne_of hp2 hD3 (by intro z; cases z)
          have mild : Mild H2 (upd H2 D (.lst (vs ++ [y2]))) := Mild.updL hD3
          refine ⟨_, _, us ++ [t2], vs ++ [y2], rfl, ?_, ?_, upd_same, thAll_snoc (mild.th ht2) (mild.thAll (ThAll.same s2 _ _ hall2)), ?_⟩
          · exact same_updN sm2 nD
          · rw [upd_ne nbD]
            exact s2 _ _ hb2
          · rw [etk, evAll_snoc, hev]
            simp only
            rw [hev2]
      · obtain ⟨z1, z2, us, vs, rfl, sm, hb2, hD2, hall2, hev⟩ := hh
        rw [List.take_of_length_le (by omega)] at hev
        have vv := evAll_vals (P := fun t => isVal t = true) hev fun p hp t ht => evA_val n (envP prs) p t (env_val hst) (hpa p hp) ht
        refine ⟨_, rfl, _, rfl, x, D, us, vs, rfl, hD2, hall2, ?_, vv.2, fun H' v' s2 hv => ?_⟩
        · rw [vv.1]
          exact hwd
        · refine q _ _ (sm.trans s2) ?_
          rw [een, hev]
          exact hv
/-! ### evaluate -/
/-- the variables handed over: a state of variables, or none -/
def VarsV (H : Hp) (vv : V) (o : Option (List (L2.Key × T))) : Prop := (∃ t, Th H t vv ∧ notD t ∧ o = none) ∨ ∃ d prs, vv = .ref d ∧ DkAt H d prs ∧ o = if varsOk prs = true then some prs else none
theorem VarsV.same {H H' : Hp} (s : Same H H') {vv : V} {o : Option (List (L2.Key × T))} (h : VarsV H vv o) : VarsV H' vv o := by
  rcases h with ⟨t, h1, h2, h3⟩ | ⟨d, prs, h1, h2, h3⟩
  · exact .inl ⟨t, Th.same s _ _ h1, h2, h3⟩
  · exact .inr ⟨d, prs, h1, h2.same s, h3⟩
theorem scEvaluate : FnScope ["expression", "variables"] ["expression", "variables"] (defScope sEvaluate) := ⟨rfl, rfl, rfl, by decide +kernel, rfl, by decide +kernel, by decide +kernel⟩
def spEvaluate (CE CS : Addr) : Sp := fun vs H Q E => ∃ (t : T) (v vv : V) (o : Option (List (L2.Key × T))), vs = [v, vv] ∧ Th H t v ∧ shortA t ∧ VarsV H vv o ∧
  (nestT 8 t = false → ∀ H' d, Same H H' → H d = none → H' d = some (.xd [("value", v)]) → E (.ref CE) (some d) H') ∧
  (nestT 8 t = true → o = none → ∀ H' d, Same H H' → H d = none → H' d = some (.xd [("value", vv)]) → E (.ref CS) (some d) H') ∧
  (nestT 8 t = true → ∀ prs, o = some prs → ∀ H' r, Same H H' → Th H' (ansT (evA 8 (envP prs) t)) r → Q r H')
theorem ok_evaluate {f fC fS fE CE CS : Addr} {fd fdC fdS fdE : FuncData} (F : Fun K "evaluate" "evaluate" sEvaluate f fd)
    (FC : Fun K "check_expression" "check_expression" sCheckE fC fdC) (bC : Binds K fdC ["expression"] []) (gC : mg "check_expression" = some (.ref fC)) (GC : FnOk P w K mg base (L2.CX P w) 17 fC fdC ["expression"] (spCheck CE))
    (FS : Fun K "is_variables" "is_variables" sIsVars fS fdS) (bS : Binds K fdS ["value"] []) (gS : mg "is_variables" = some (.ref fS)) (GS : FnOk P w K mg base CX0 7 fS fdS ["value"] (spStK varsOk))
    (FE : Fun K "evaluated" "evaluated" sEvaluated fE fdE) (bE : Binds K fdE ["expression", "variables"] []) (gE : mg "evaluated" = some (.ref fE)) (GE : FnOk P w K mg base CX0 15 fE fdE ["expression", "variables"] (spEvd 8))
    (hsu : mg "super" = none) (IS : EK P K mg "InvalidState" "value" CS) : FnOk P w K mg base (L2.CX P w) 18 f fd ["expression", "variables"] (spEvaluate CE CS) := by
  obtain ⟨bm0, B, newId, initId, bmB, TE⟩ := IS.T
  refine F.okX scEvaluate (fun vs H Q E h => ?_) (fun cdv A outer s H vs Q E hr h => ?_)
  · obtain ⟨t, v, vv, o, rfl, _⟩ := h
    rfl
  · obtain ⟨t, v, vv, o, rfl, ht, hs, hvv, qe, qs, q⟩ := h
    refine ⟨_, pss_cons (ps_expr (pe_call (E := E) GC hr rfl gC FC.kp bC .nil (passes_call (takes_of rfl rfl rfl rfl) (fun _ _ _ _ h => h)) (pa_cons (pv 0) pa_nil)))
      (pss_cons (ps_if (pt_not (pt_val (pe_call GS (hr.mono (by decide)) rfl gS FS.kp bS .nil pass0 (pa_cons (pv 1) pa_nil))))
        (pss_one (ps_raise rfl (takes_of rfl rfl rfl rfl) (pmk_nw TE (hr.mono (by decide)) hsu IS.g IS.k IS.ex IS.ty rfl (pv 1)))) pss_nil)
      (pss_one (ps_ret (pe_call GE (hr.mono (by decide)) rfl gE FE.kp bE .nil pass0 (pa_cons (pv 0) (pa_cons (pv 1) pa_nil)))))), ?_⟩
    refine ⟨_, rfl, t, v, rfl, ht, hs, fun hb H1 s1 => ?_, fun hb H' d sm nd hd => qe hb H' d sm nd hd⟩
    rcases hvv.same s1 with ⟨t2, h1, h2, h3⟩ | ⟨d, prs, rfl, h2, h3⟩
    · refine ⟨_, rfl, .inl ⟨t2, vv, rfl, h1, h2, _, rfl, iteT ⟨_, rfl, fun d hd => qs hb h3 _ d (s1.trans (same_upd hd)) (none_of s1 hd) upd_same⟩⟩⟩
    · refine ⟨_, rfl, .inr ⟨d, prs, rfl, h2, fun H2 s2 => ⟨_, rfl, ?_⟩⟩⟩
      cases hv : varsOk prs with
      | false =>
        rw [hv] at h3
        exact iteT ⟨_, rfl, fun d' hd => qs hb h3 _ d' ((s1.trans s2).trans (same_upd hd)) (none_of (s1.trans s2) hd) upd_same⟩
      | true =>
        rw [hv, if_pos rfl] at h3
        have hst : stOk prs = true := by
          unfold varsOk at hv
          rw [Bool.and_eq_true] at hv
          exact hv.1
        refine iteF ⟨_, rfl, _, rfl, t, v, d, prs, rfl, Th.same (s1.trans s2) _ _ ht, hb, h2.same s2, hst, fun H3 r s3 hr => q hb prs h3 _ _ ((s1.trans s2).trans s3) hr⟩
end
end My
namespace My
open PySem PySem.Spec PyProof.Rows L2 LX
/-! ### counts and depths -/
mutual
def cnt : T → Nat
  | .tup ts => cntAll ts
  | _ => 0
def cntAll : List T → Nat
  | [] => 0
  | t :: ts => (1 + cnt t) + cntAll ts
end
mutual
def dep : T → Nat
  | .tup ts => depAll ts + 1
  | _ => 0
def depAll : List T → Nat
  | [] => 0
  | t :: ts => max (dep t) (depAll ts)
end
theorem dep_mem : ∀ {ts : List T} {t : T}, t ∈ ts → dep t ≤ depAll ts
  | [], _, h => nomatch h
  | u :: ts, t, h => by
    simp only [depAll]
    rcases List.mem_cons.mp h with rfl | h
    · exact Nat.le_max_left _ _
    · exact Nat.le_trans (dep_mem h) (Nat.le_max_right _ _)
theorem dep_all : ∀ {ts : List T} {n : Nat}, (∀ t ∈ ts, dep t ≤ n) → depAll ts ≤ n
  | [], _, _ => Nat.zero_le _
  | u :: ts, n, h => by
    simp only [depAll]
    exact Nat.max_le.mpr ⟨h u List.mem_cons_self, dep_all fun t ht => h t (List.mem_cons_of_mem _ ht)⟩
theorem cntAll_sum : ∀ ts : List T, (ts.map fun u => ((1 : Int) + (cnt u : Int))).sum = (cntAll ts : Int)
  | [] => rfl
  | t :: ts => by
    rw [List.map_cons, List.sum_cons, cntAll_sum ts]
    simp only [cntAll]
    omega
theorem cnt_noTup {t : T} (h : isTupT t = false) : cnt t = 0 := by
  cases t <;> first | rfl | (simp [isTupT] at h)
theorem dep_noTup {t : T} (h : isTupT t = false) : dep t = 0 := by
  cases t <;> first | rfl | (simp [isTupT] at h)
theorem cntAll_len : ∀ ts : List T, cntAll ts = ts.length + (ts.map cnt).sum
  | [] => rfl
  | t :: ts => by
    simp only [cntAll, List.length_cons, List.map_cons, List.sum_cons]
    rw [cntAll_len ts]
    omega
theorem cnt_tup {l : T} (h : isTupT l = true) : cnt l = (kids l).length + ((kids l).map cnt).sum := by
  rw [← cntAll_len]
  conv => lhs; rw [tup_of h]
  simp only [cnt]
theorem cnt_flat : ∀ {ls : List T}, (∀ l ∈ ls, isTupT l = true) → (ls.map cnt).sum = (ls.map fun l => (kids l).length).sum + (((ls.map kids).flatten).map cnt).sum
  | [], _ => rfl
  | l :: ls, h => by
    simp only [List.map_cons, List.sum_cons, List.flatten_cons, List.map_append, List.sum_append]
    rw [cnt_flat fun u hu => h u (List.mem_cons_of_mem _ hu), cnt_tup (h l List.mem_cons_self)]
    omega
theorem cnt_filter : ∀ ts : List T, (ts.map cnt).sum = ((ts.filter isTupT).map cnt).sum
  | [] => rfl
  | t :: ts => by
    rw [List.map_cons, List.sum_cons, List.filter_cons, cnt_filter ts]
    cases h : isTupT t with
    | true => simp
    | false =>
      rw [cnt_noTup h]
      simp
theorem all_split (p : T → Bool) : ∀ ts : List T, ts.all p = ((ts.filter fun t => !isTupT t).all p && (ts.filter isTupT).all p)
  | [] => rfl
  | t :: ts => by
    rw [List.all_cons, all_split p ts, List.filter_cons, List.filter_cons]
    cases h : isTupT t with
    | true =>
      simp only [Bool.not_true, Bool.false_eq_true, if_false, if_true, List.all_cons]
      cases p t <;> simp
    | false =>
      simp only [Bool.not_false, Bool.false_eq_true, if_false, if_true, List.all_cons]
      cases p t <;> simp
/-! ### a value by its levels -/
def lvalP : Nat → T → Bool
  | 0, .tup _ => false
  | n + 1, .tup ts => !decide (50 < (ts.length : Int)) && ts.all (lvalP n)
  | _, .int i => isPlain (.int i)
  | _, .str x => isPlain (.str x)
  | _, _ => false
theorem plainP : ∀ {t : T} {n : Nat}, isTupT t = false → lvalP n t = isPlain t := by
  intro t n h
  cases t <;> cases n <;> first | rfl | (simp [isTupT] at h)
theorem all_plain {n : Nat} {ts : List T} (h : ∀ t ∈ ts, isTupT t = false) : ts.all (lvalP n) = ts.all isPlain := by
  induction ts with
  | nil => rfl
  | cons t ts ih =>
    rw [List.all_cons, List.all_cons, ih fun u hu => h u (List.mem_cons_of_mem _ hu), plainP (h t List.mem_cons_self)]
theorem lvalP_succ {n : Nat} {l : T} (h : isTupT l = true) : lvalP (n + 1) l = (!decide (50 < ((kids l).length : Int)) && (kids l).all (lvalP n)) := by
  conv => lhs; rw [tup_of h]
  rfl
theorem all_kids {n : Nat} : ∀ {ls : List T}, (∀ l ∈ ls, isTupT l = true) → (∀ l ∈ ls, (kids l).length ≤ 50) → ls.all (lvalP (n + 1)) = ((ls.map kids).flatten).all (lvalP n)
  | [], _, _ => rfl
  | l :: ls, h, h2 => by
    rw [List.all_cons, List.map_cons, List.flatten_cons, List.all_append, all_kids (fun u hu => h u (List.mem_cons_of_mem _ hu)) fun u hu => h2 u (List.mem_cons_of_mem _ hu), lvalP_succ (h l List.mem_cons_self)]
    have := h2 l List.mem_cons_self
    rw [decide_eq_false (show ¬ (50 : Int) < ((kids l).length : Int) by omega)]
    simp
theorem le_sum : ∀ {ns : List Nat} {n : Nat}, n ∈ ns → n ≤ ns.sum
  | [], _, h => nomatch h
  | m :: ns, n, h => by
    rw [List.sum_cons]
    rcases List.mem_cons.mp h with rfl | h
    · omega
    · have := le_sum h
      omega
theorem lev_eq : ∀ (n : Nat) (ls : List T) (c : Nat), (∀ l ∈ ls, isTupT l = true) → c ≤ 50 → lev n ls c = (ls.all (lvalP n) && decide (c + (ls.map cnt).sum ≤ 50))
  | 0, [], c, _, hc => by
    simp only [lev, List.map_nil, List.sum_nil, Nat.add_zero]
    rw [decide_eq_true hc]
    rfl
  | 0, l :: ls, c, h, hc => by
    have e : lvalP 0 l = false := by
      rw [tup_of (h l List.mem_cons_self)]
      rfl
    rw [List.all_cons, e]
    rfl
  | n + 1, ls, c, h, hc => by
    have hs := cnt_flat h
    simp only [lev]
    by_cases hb : 50 < c + (ls.map fun l => (kids l).length).sum
    · rw [if_pos hb, decide_eq_false (show ¬ c + (ls.map cnt).sum ≤ 50 by omega), Bool.and_false]
    · rw [if_neg hb]
      have h2 : ∀ l ∈ ls, (kids l).length ≤ 50 := fun l hl => by
        have := le_sum (List.mem_map_of_mem (f := fun l => (kids l).length) hl)
        omega
      rw [all_kids h h2, hs]
      generalize (ls.map kids).flatten = I
      rw [all_split (lvalP n) I, all_plain (ts := I.filter fun t => !isTupT t) (fun t ht => by
        have := (List.mem_filter.mp ht).2
        simpa using this), cnt_filter I]
      rw [lev_eq n (I.filter isTupT) (c + (ls.map fun l => (kids l).length).sum) (fun l hl => (List.mem_filter.mp hl).2) (by omega)]
      rw [← Nat.add_assoc]
      cases (I.filter fun t => !isTupT t).all isPlain <;> simp
theorem val_eqP (t : T) : isVal t = (lvalP 5 t && decide ((cnt t : Int) ≤ 50)) := by
  unfold isVal
  cases h : isTupT t with
  | false =>
    rw [cnt_noTup h, plainP h]
    simp
  | true =>
    rw [if_pos rfl, lev_eq 5 [t] 0 (fun l hl => by rw [List.mem_singleton.mp hl]; exact h) (by decide)]
    simp only [List.all_cons, List.all_nil, Bool.and_true, List.map_cons, List.map_nil, List.sum_cons, List.sum_nil]
    congr 1
    apply decide_eq_decide.mpr
    omega
/-! ### whole numbers, clean texts, lists of them -/
mutual
def clean : T → Bool
  | .int _ => true
  | .str x => onlyS x ldS
  | .tup ts => cleanAll ts
  | _ => false
def cleanAll : List T → Bool
  | [] => true
  | t :: ts => clean t && cleanAll ts
end
theorem cleanAll_mem : ∀ {ts : List T}, cleanAll ts = true ↔ ∀ t ∈ ts, clean t = true
  | [] => by simp [cleanAll]
  | t :: ts => by
    simp only [cleanAll, Bool.and_eq_true, List.mem_cons, forall_eq_or_imp]
    rw [cleanAll_mem]
mutual
def smallI : Int → T → Bool
  | lv, .tup ts => decide (0 < lv) && (decide ((ts.length : Int) ≤ 50) && smallAll (lv - 1) ts)
  | _, .str x => decide ((x.length : Int) ≤ 60)
  | _, .int i => decide ((if i < 0 then -i else i) < 10 ^ 60)
  | _, _ => false
def smallAll : Int → List T → Bool
  | _, [] => true
  | lv, t :: ts => smallI lv t && smallAll lv ts
end
theorem smallAll_all (lv : Int) : ∀ ts : List T, smallAll lv ts = ts.all (smallI lv)
  | [] => rfl
  | t :: ts => by simp only [smallAll, List.all_cons, smallAll_all lv ts]
mutual
theorem small_eq : ∀ (t : T) (n : Nat), clean t = true → smallI (n : Int) t = lvalP n t
  | .int i, n, _ => by
    have e : lvalP n (.int i) = isPlain (.int i) := plainP rfl
    rw [e]
    simp only [smallI, isPlain]
    have e2 := Bool.decide_and (p := -(10 ^ 60) < i) (q := i < 10 ^ 60)
    rw [← e2]
    apply decide_eq_decide.mpr
    split <;> omega
  | .str x, n, h => by
    have e : lvalP n (.str x) = isPlain (.str x) := plainP rfl
    have h2 : onlyS x ldS = true := by simpa [clean] using h
    rw [e]
    simp only [smallI, isPlain, textS]
    rw [h2, Bool.and_true, ← decide_not]
    apply decide_eq_decide.mpr
    omega
  | .tup ts, 0, _ => rfl
  | .tup ts, n + 1, h => by
    have h2 : cleanAll ts = true := by simpa [clean] using h
    have ih := small_all ts n h2
    simp only [smallI, lvalP]
    rw [show ((n + 1 : Nat) : Int) - 1 = (n : Int) by omega, ih, decide_eq_true (show (0 : Int) < ((n + 1 : Nat) : Int) by omega), Bool.true_and]
    congr 1
    rw [← decide_not]
    apply decide_eq_decide.mpr
    omega
  | .non, _, h => absurd h (by simp [clean])
  | .bl b, _, h => absurd h (by simp [clean])
  | .oth d, _, h => absurd h (by simp [clean])
theorem small_all : ∀ (ts : List T) (n : Nat), cleanAll ts = true → smallAll (n : Int) ts = ts.all (lvalP n)
  | [], _, _ => rfl
  | t :: ts, n, h => by
    simp only [cleanAll, Bool.and_eq_true] at h
    simp only [smallAll, List.all_cons]
    rw [small_eq t n h.1, small_all ts n h.2]
end
theorem val_eqS {t : T} (h : clean t = true) : isVal t = (smallI 5 t && decide ((cnt t : Int) ≤ 50)) := by
  rw [val_eqP]
  have e := small_eq t 5 h
  rw [← e]
  rfl
theorem lval_of : ∀ (n : Nat) (t : T), lvalP n t = true → clean t = true ∧ dep t ≤ n
  | n, .int i, _ => ⟨rfl, Nat.zero_le _⟩
  | n, .str x, h => by
    have e : lvalP n (.str x) = isPlain (.str x) := plainP rfl
    rw [e] at h
    simp only [isPlain, textS, Bool.and_eq_true] at h
    exact ⟨by simp only [clean]; exact h.2, Nat.zero_le _⟩
  | 0, .tup ts, h => absurd h Bool.false_ne_true
  | n + 1, .tup ts, h => by
    have h2 : (!decide (50 < (ts.length : Int)) && ts.all (lvalP n)) = true := h
    rw [Bool.and_eq_true] at h2
    have ha := List.all_eq_true.mp h2.2
    refine ⟨?_, ?_⟩
    · simp only [clean]
      exact cleanAll_mem.mpr fun t ht => (lval_of n t (ha t ht)).1
    · simp only [dep]
      exact Nat.succ_le_succ (dep_all fun t ht => (lval_of n t (ha t ht)).2)
  | n, .non, h => absurd h (by cases n <;> simp [lvalP])
  | n, .bl b, h => absurd h (by cases n <;> simp [lvalP])
  | n, .oth d, h => absurd h (by cases n <;> simp [lvalP])
theorem val_clean {t : T} (h : isVal t = true) : clean t = true ∧ dep t ≤ 5 := by
  rw [val_eqP, Bool.and_eq_true] at h
  exact lval_of 5 t h.1
/-! ### texts put together -/
def offS (x cs : Str) : List Nat := x.cps.toList.filter fun c => !decide (c ∈ cs.cps.toList)
theorem offS_nil {x cs : Str} : (offS x cs).isEmpty = true ↔ ∀ k, k < x.length → cs.cps.contains (x.cps.getD k 0) = true := by
  unfold offS
  rw [List.isEmpty_iff, List.filter_eq_nil_iff]
  constructor
  · intro h k hk
    have hk' : k < x.cps.size := hk
    have e : x.cps.getD k 0 = x.cps[k] := by simp [Array.getD, hk']
    have := h x.cps[k] (by simp)
    rw [e]
    simpa using this
  · intro h c hc
    obtain ⟨k, hk, rfl⟩ := List.mem_iff_getElem.mp hc
    have hk' : k < x.cps.size := by simpa using hk
    have := h k hk'
    have e : x.cps.getD k 0 = x.cps[k] := by simp [Array.getD, hk']
    rw [e] at this
    simpa using this
theorem onlyS_eq (x cs : Str) : onlyS x cs = (offS x cs).isEmpty := by
  unfold onlyS
  have hs : Txt.stripChars x cs = Builtin.Str.strSub x (stripLo cs.cps.contains true x) (stripHi cs.cps.contains true x (stripLo cs.cps.contains true x)) := PyProof.Rows.stripBy_eq cs.cps.contains true true x
  obtain ⟨l1, l2, l3⟩ := PyProof.Rows.lo_facts cs.cps.contains x
  obtain ⟨h1, h2, h3, h4⟩ := PyProof.Rows.hi_facts cs.cps.contains x _ l1
  rw [hs]
  generalize stripLo cs.cps.contains true x = lo at *
  generalize stripHi cs.cps.contains true x lo = hi at *
  by_cases h : (offS x cs).isEmpty = true
  · rw [h]
    rw [offS_nil] at h
    have e : lo = x.length := by
      rcases l3 with e | e
      · exact e
      · by_cases hl : lo < x.length
        · rw [h lo hl] at e
          exact absurd e (by decide)
        · omega
    have e2 : hi = x.length := by omega
    refine decide_eq_true ?_
    show Str.mk (x.cps.extract lo hi) = _
    have e3 : x.cps.extract lo hi = #[] := by
      apply Array.eq_empty_of_size_eq_zero
      rw [Array.size_extract]
      omega
    rw [e3]
    rfl
  · rw [Bool.eq_false_iff.mpr h]
    refine decide_eq_false fun z => h (offS_nil.mpr ?_)
    have z2 : (x.cps.extract lo hi).size = 0 := by
      have := congrArg (fun y : Str => y.cps.size) z
      exact this
    rw [Array.size_extract] at z2
    have hx : x.cps.size = x.length := rfl
    have e : hi = lo := by omega
    intro k hk
    by_cases hkl : k < lo
    · exact l2 k hkl
    · exact h3 k (by omega) hk
theorem onlyS_app {x y cs : Str} (h1 : onlyS x cs = true) (h2 : onlyS y cs = true) : onlyS (x ++ y) cs = true := by
  rw [onlyS_eq] at *
  rw [List.isEmpty_iff] at *
  unfold offS at *
  have e : (x ++ y).cps.toList = x.cps.toList ++ y.cps.toList := by
    show (x.cps ++ y.cps).toList = _
    simp
  rw [e, List.filter_append, h1, h2]
  rfl
theorem clean_str {x y : Str} (h1 : clean (.str x) = true) (h2 : clean (.str y) = true) : clean (.str (x ++ y)) = true := by
  simp only [clean] at *
  exact onlyS_app h1 h2
theorem clean_tup {xs : List T} (h : ∀ t ∈ xs, clean t = true) : clean (.tup xs) = true := by
  simp only [clean]
  exact cleanAll_mem.mpr h
theorem clean_kids {xs : List T} (h : clean (.tup xs) = true) : ∀ t ∈ xs, clean t = true := by
  simp only [clean] at h
  exact cleanAll_mem.mp h
theorem dep_kids {xs : List T} {n : Nat} (h : dep (.tup xs) ≤ n + 1) : ∀ t ∈ xs, dep t ≤ n := fun t ht => by
  simp only [dep] at h
  have := dep_mem ht
  omega
theorem dep_tup {xs : List T} {n : Nat} (h : ∀ t ∈ xs, dep t ≤ n) : dep (.tup xs) ≤ n + 1 := by
  simp only [dep]
  exact Nat.succ_le_succ (dep_all h)
end My
namespace My
open PySem PySem.Spec PyProof.Rows L2 LX
abbrev sWhole : Stmt := top 43
abbrev sSmall : Stmt := top 44
abbrev sWithin : Stmt := top 45
abbrev sPair : Stmt := top 46
abbrev sLRes : Stmt := top 47
abbrev sLNames : Stmt := top 48
abbrev sOnce : Stmt := top 49
abbrev sRTerm : Stmt := top 50
abbrev sNest : Stmt := top 51
structure TxtQ (mg : Str → Option Value) : Prop where
  isi : mg "isinstance" = none
  tuple : mg "tuple" = none
  int : mg "int" = none
  bool : mg "bool" = none
  str : mg "str" = none
  list : mg "list" = none
  len : mg "len" = none
  abs : mg "abs" = none
  sum : mg "sum" = none
theorem scWhole : FnScope ["_law_thing"] ["_law_thing"] (defScope sWhole) := ⟨rfl, rfl, rfl, by decide +kernel, rfl, by decide +kernel, by decide +kernel⟩
theorem scSmall : FnScope ["_law_thing", "_law_levels", "_law_wrong", "_law_one"] ["_law_thing", "_law_levels"] (defScope sSmall) := ⟨rfl, rfl, rfl, by decide +kernel, rfl, by decide +kernel, by decide +kernel⟩
theorem scWithin : FnScope ["_law_thing", "_law_one"] ["_law_thing"] (defScope sWithin) := ⟨rfl, rfl, rfl, by decide +kernel, rfl, by decide +kernel, by decide +kernel⟩
def isInt : T → Bool
  | .int _ => true
  | _ => false
def spWhole : Sp := fun vs H Q _ => ∃ (t : T) (v : V), vs = [v] ∧ Th H t v ∧ clean t = true ∧ Q (.bl (isInt t)) H
def spSmall : Nat → Sp
  | 0 => fun vs _ _ _ => vs.length = 2 ∧ False
  | n + 1 => fun vs H Q _ => ∃ (t : T) (v : V) (lv : Int), vs = [v, .int lv] ∧ Th H t v ∧ clean t = true ∧ dep t ≤ n ∧ shortA t ∧ ∀ H', Same H H' → Q (.bl (smallI lv t)) H'
def spWithin : Nat → Sp
  | 0 => fun vs _ _ _ => vs.length = 1 ∧ False
  | n + 1 => fun vs H Q _ => ∃ (t : T) (v : V), vs = [v] ∧ Th H t v ∧ clean t = true ∧ dep t ≤ n ∧ ∀ H', Same H H' → Q (.int (cnt t)) H'
theorem clean_noTup {K : PySem.W.Frag} {H : Hp} {t : T} {v : V} (hc : clean t = true) (hn : isTupT t = false) (ht : Th H t v) : ∃ n, TyOf K H v (.type n) ∧ kitB n "tuple" = some false := by
  cases t with
  | int i => unfold Th at ht; subst ht; exact ⟨_, .int i, by decide +kernel⟩
  | str x => unfold Th at ht; subst ht; exact ⟨_, .str x, by decide +kernel⟩
  | tup ts => exact absurd hn (by simp [isTupT])
  | _ => exact absurd hc (by simp [clean])
section
variable {P : Program} {w : World} {K : PySem.W.Frag} {mg : Str → Option Value} {base : Heap}
theorem ok_whole {f : Addr} {fd : FuncData} (F : Fun K "_law_whole" "_law_whole" sWhole f fd) (TS : TxtQ mg) : FnOk P w K mg base CX0 1 f fd ["_law_thing"] spWhole := by
  refine F.ok scWhole (fun vs H Q E h => ?_) (fun cdv A outer s H vs Q E hr h => ?_)
  · obtain ⟨t, v, rfl, _⟩ := h
    rfl
  · obtain ⟨t, v, rfl, ht, hc, q⟩ := h
    refine ⟨_, pss_one (ps_ret (pe_and (pe_callB call_isi (by rfl) TS.isi PyProof.Rows.boot_isinstance (pa_cons (pv 0) (pa_cons (pe_bltn (v := .ty "int") (by rfl) TS.int (by decide +kernel) rfl) pa_nil)))
      (pe_one (pe_not (pe_callB call_isi (by rfl) TS.isi PyProof.Rows.boot_isinstance (pa_cons (pv 0) (pa_cons (pe_bltn (v := .ty "bool") (by rfl) TS.bool (by decide +kernel) rfl) pa_nil))))))), ?_⟩
    cases t with
    | int i =>
      unfold Th at ht
      subst ht
      refine ⟨_, rfl, _, _, _, _, true, rfl, .ty "int", .base (.int i), kit_ty (by decide +kernel), _, rfl, iteT ?_⟩
      exact ⟨_, rfl, _, _, _, _, false, rfl, .ty "bool", .base (.int i), kit_ty (by decide +kernel), _, rfl, q⟩
    | str x =>
      unfold Th at ht
      subst ht
      exact ⟨_, rfl, _, _, _, _, false, rfl, .ty "int", .base (.str x), kit_ty (by decide +kernel), _, rfl, iteF q⟩
    | tup ts =>
      unfold Th at ht
      obtain ⟨a, xs, rfl, ha, _⟩ := ht
      exact ⟨_, rfl, _, _, _, _, false, rfl, .ty "int", .base (.tup ha), kit_ty (by decide +kernel), _, rfl, iteF q⟩
    | non => exact absurd hc (by simp [clean])
    | bl b => exact absurd hc (by simp [clean])
    | oth d => exact absurd hc (by simp [clean])
theorem ok_small {f : Addr} {fd : FuncData} (F : Fun K "_law_small" "_law_small" sSmall f fd) (bF : Binds K fd ["_law_thing", "_law_levels"] []) (gF : mg "_law_small" = some (.ref f)) (TS : TxtQ mg) :
    ∀ n : Nat, FnOk P w K mg base CX0 (n + 1) f fd ["_law_thing", "_law_levels"] (spSmall n) := by
  intro n
  induction n with
  | zero => exact F.ok scSmall (fun vs H Q E h => h.1) (fun cdv A outer s H vs Q E hr h => h.2.elim)
  | succ n GR =>
    refine F.ok scSmall (fun vs H Q E h => ?_) (fun cdv A outer s H vs Q E hr h => ?_)
    · obtain ⟨t, v, lv, rfl, _⟩ := h
      rfl
    · obtain ⟨t, v, lv, rfl, ht, hc, hd, hs, q⟩ := h
      have ND := scSmall.nd
      refine ⟨_, pss_cons (ps_if (pt_val (pe_callB call_isi (by rfl) TS.isi PyProof.Rows.boot_isinstance (pa_cons (pv 0) (pa_cons (pe_bltn (v := .ty "tuple") (by rfl) TS.tuple (by decide +kernel) rfl) pa_nil))))
          (pss_cons (ps_setLc (i := 2) (own := [("_law_one", 3)]) (g := gName 3) rfl ND rfl rfl (sw_true rfl rfl rfl (by decide +kernel)) (pi_tup (pv 0))
              (blkOk_by (own := [("_law_one", 3)]) (N := ["_law_thing", "_law_levels", "_law_wrong", "_law_one"]) (sc := defScope sSmall) (by decide +kernel))
              (fun _ _ _ _ _ => pg_name (i := 3) ND rfl (Or.inl rfl)) (fun _ _ _ _ _ => pts_one (pt_not (pt_val (pe_call GR hr rfl gF F.kp bF .nil pass0 (pa_cons (pv 3) (pa_cons (pe_op op_sub (pv 1) pe_int) pa_nil)))))) (fun _ _ _ _ _ => pv 3))
          (pss_one (ps_ret (pe_and (pe_cmpR op_gt (pv 1) pe_int (nomark _)) (pe_and (pe_cmpR op_le (pe_callB call_len_seq (by rfl) TS.len PySem.boot_len (pa_cons (pv 0) pa_nil)) pe_int (nomark _)) (pe_one (pe_cmpR (LQ.op_eqNil hr.units0) (pv 2) (pe_lst pa_nil) (nomark _))))))))
          pss_nil)
        (pss_one (ps_ret (pe_ifExp (pt_val (pe_callB call_isi (by rfl) TS.isi PyProof.Rows.boot_isinstance (pa_cons (pv 0) (pa_cons (pe_bltn (v := .ty "str") (by rfl) TS.str (by decide +kernel) rfl) pa_nil))))
          (pe_cmpR op_le (pe_callB call_len_str (by rfl) TS.len PySem.boot_len (pa_cons (pv 0) pa_nil)) pe_int (nomark _))
          (pe_cmpR op_lt (pe_callB call_abs (by rfl) TS.abs (by decide +kernel) (pa_cons (pv 0) pa_nil)) (pe_op op_pow pe_int pe_int) (nomark _))))), ?_⟩
      cases t with
      | int i =>
        unfold Th at ht
        subst ht
        refine ⟨_, rfl, _, _, _, _, false, rfl, .ty "tuple", .base (.int i), kit_ty (by decide +kernel), _, rfl, iteF ?_⟩
        refine ⟨_, rfl, _, _, _, _, false, rfl, .ty "str", .base (.int i), kit_ty (by decide +kernel), _, rfl, iteF ?_⟩
        exact ⟨_, rfl, i, rfl, _, _, rfl, rfl, ⟨by decide, by decide, by decide⟩, _, _, rfl, rfl, q H (Same.refl _)⟩
      | str x =>
        unfold Th at ht
        subst ht
        refine ⟨_, rfl, _, _, _, _, false, rfl, .ty "tuple", .base (.str x), kit_ty (by decide +kernel), _, rfl, iteF ?_⟩
        refine ⟨_, rfl, _, _, _, _, true, rfl, .ty "str", .base (.str x), kit_ty (by decide +kernel), _, rfl, iteT ?_⟩
        have hl : x.length ≤ sizeLine := by
          unfold shortA at hs
          exact Nat.le_trans hs (by decide)
        exact ⟨_, rfl, x, rfl, hl, _, _, rfl, rfl, q H (Same.refl _)⟩
      | tup ts =>
        simp only [Th] at ht
        obtain ⟨a, xs, rfl, ha, hxl, hall⟩ := ht
        have lts := thAll_len hall
        simp only [dep] at hd
        have hck := clean_kids hc
        refine ⟨_, rfl, _, _, _, _, true, rfl, .ty "tuple", .base (.tup ha), kit_ty (by decide +kernel), _, rfl, iteT ?_⟩
        refine ⟨_, rfl, a, rfl, ⟨xs, .inl (.inl ha)⟩, fun D nD => ?_⟩
        refine lc_tup (K := K) (a := a) (xs := xs) (fun i G => ∃ acc : List V, G D = some (.lst acc) ∧ acc.length ≤ i ∧ acc.isEmpty = (ts.take i).all (smallI (lv - 1)) ∧ Same H G)
          ⟨[], upd_same, Nat.le_refl _, rfl, same_upd nD⟩ (fun i G _ ⟨_, _, _, _, sm⟩ => .inl (.inl (sm _ _ ha))) (fun i x G hx ⟨acc, hD, hal, hae, sm⟩ => ?_) (fun G ⟨acc, hD, hal, hae, sm⟩ => ?_)
        · have hi : i < ts.length := by
            have := (List.getElem?_eq_some_iff.mp hx).1
            omega
          obtain ⟨u, x', e1, e2, hu⟩ := thAll_get hall hi
          have ex : x' = x := Option.some.inj (e2.symm.trans hx)
          subst ex
          have hmem := List.mem_of_getElem? e1
          have hdu := dep_mem hmem
          obtain ⟨k, rfl⟩ : ∃ k, n = k + 1 := ⟨n - 1, by omega⟩
          have hsu : shortA u := by
            unfold shortA at hs
            exact shortAll_mem.mp hs u hmem
          refine ⟨rfl, ?_⟩
          refine ⟨_, rfl, _, rfl, _, _, rfl, rfl, u, x', lv - 1, rfl, Th.same sm _ _ hu, hck u hmem, by omega, hsu, fun G2 s2 => ?_⟩
          have tk : (ts.take (i + 1)).all (smallI (lv - 1)) = ((ts.take i).all (smallI (lv - 1)) && smallI (lv - 1) u) := by
            rw [List.take_add_one, e1, List.all_append]
            simp
          refine ⟨_, rfl, ?_⟩
          cases hl : smallI (lv - 1) u with
          | true =>
            refine ⟨acc, s2 _ _ hD, by omega, ?_, sm.trans s2⟩
            rw [tk, hl, Bool.and_true]
            exact hae
          | false =>
            refine ⟨_, rfl, acc, s2 _ _ hD, small1000 (by omega), acc ++ [x'], upd_same, ?_, ?_, fun o w eo => ?_⟩
            · rw [List.length_append, List.length_singleton]
              omega
            · rw [tk, hl, Bool.and_false]
              cases acc <;> rfl
            · rw [upd_ne (ne_of_none eo nD)]
              exact s2 _ _ (sm _ _ eo)
        · rw [List.take_of_length_le (by omega), ← smallAll_all] at hae
          have fin : ∀ b G, smallI lv (.tup ts) = b → Same H G → Q (.bl b) G := fun b G e sm => e ▸ q G sm
          refine ⟨_, rfl, _, _, rfl, rfl, _, rfl, ?_⟩
          cases h1 : decide (lv > 0) with
          | false => exact iteF (fin _ _ (by simp only [smallI]; rw [show decide (0 < lv) = false from h1]; rfl) sm)
          | true =>
            refine iteT ⟨_, rfl, a, xs, rfl, .inr (.inl (.inl (sm _ _ ha))), _, _, rfl, rfl, _, rfl, ?_⟩
            rw [← lts]
            cases h2 : decide ((ts.length : Int) ≤ 50) with
            | false => exact iteF (fin _ _ (by simp only [smallI]; rw [show decide (0 < lv) = true from h1, h2]; rfl) sm)
            | true =>
              refine iteT ⟨_, rfl, by show 0 ≤ sizeLine; exact Nat.zero_le _, fun D2 nD2 => ?_⟩
              refine ⟨D, D2, _, rfl, rfl, by rw [upd_ne (ne_of_none hD nD2)]; exact hD, upd_same, ?_⟩
              rw [hae]
              exact fin _ _ (by simp only [smallI]; rw [show decide (0 < lv) = true from h1, h2]; rfl) (sm.trans (same_upd (o := .lst []) nD2))
      | non => exact absurd hc (by simp [clean])
      | bl b => exact absurd hc (by simp [clean])
      | oth d => exact absurd hc (by simp [clean])
theorem ok_within {f : Addr} {fd : FuncData} (F : Fun K "_law_within" "_law_within" sWithin f fd) (bF : Binds K fd ["_law_thing"] []) (gF : mg "_law_within" = some (.ref f)) (TS : TxtQ mg) :
    ∀ n : Nat, FnOk P w K mg base CX0 (n + 1) f fd ["_law_thing"] (spWithin n) := by
  intro n
  induction n with
  | zero => exact F.ok scWithin (fun vs H Q E h => h.1) (fun cdv A outer s H vs Q E hr h => h.2.elim)
  | succ n GR =>
    refine F.ok scWithin (fun vs H Q E h => ?_) (fun cdv A outer s H vs Q E hr h => ?_)
    · obtain ⟨t, v, rfl, _⟩ := h
      rfl
    · obtain ⟨t, v, rfl, ht, hcl, hd, q⟩ := h
      have ND := scWithin.nd
      refine ⟨_, pss_one (ps_ret (pe_ifExp (pt_val (pe_callB call_isi (by rfl) TS.isi PyProof.Rows.boot_isinstance (pa_cons (pv 0) (pa_cons (pe_bltn (v := .ty "tuple") (by rfl) TS.tuple (by decide +kernel) rfl) pa_nil))))
        (pe_callB (cr_sum rfl) (by rfl) TS.sum (by decide +kernel) (pa_cons
          (pe_lc (own := [("_law_one", 1)]) (g := gName 1) (tt := tYes) rfl ND (pi_tup (pv 0)) (blkOk_by (own := [("_law_one", 1)]) (N := ["_law_thing", "_law_one"]) (sc := defScope sWithin) (by decide +kernel))
            (fun _ _ _ _ _ => pg_name (i := 1) ND rfl (Or.inl rfl)) (fun _ _ _ _ _ => pts_nil) (fun _ _ _ _ _ => pe_op op_add pe_int (pe_call GR hr rfl gF F.kp bF .nil pass0 (pa_cons (pv 1) pa_nil)))) pa_nil)) pe_int)), ?_⟩
      cases hT : isTupT t with
      | false =>
        obtain ⟨tn, ty, hk⟩ := clean_noTup (K := K) hcl hT ht
        refine ⟨_, rfl, _, _, _, _, false, rfl, .ty "tuple", .base ty, kit_ty hk, _, rfl, ?_⟩
        have q1 := q H (Same.refl _)
        rw [cnt_noTup hT] at q1
        exact iteF q1
      | true =>
        obtain ⟨a, xs, rfl, ha, hxl, hall⟩ := th_tup hT ht
        rw [tup_of hT] at hd q hcl
        generalize kids t = ts at hd q hall hcl
        have lts := thAll_len hall
        simp only [dep] at hd
        refine ⟨_, rfl, _, _, _, _, true, rfl, .ty "tuple", .base (.tup ha), kit_ty (by decide +kernel), _, rfl, ?_⟩
        refine iteT ?_
        refine ⟨_, rfl, a, rfl, ⟨xs, .inl (.inl ha)⟩, fun D nD => ?_⟩
        refine lc_tup (K := K) (a := a) (xs := xs) (fun i G => G D = some (.lst (((ts.take i).map fun u => ((1 : Int) + (cnt u : Int))).map V.int)) ∧ Same H G)
          ⟨upd_same, same_upd nD⟩ (fun i G _ ⟨_, sm⟩ => .inl (.inl (sm _ _ ha))) (fun i x G hx ⟨hD, sm⟩ => ?_) (fun G ⟨hD, sm⟩ => ?_)
        · have hi : i < ts.length := by
            have := (List.getElem?_eq_some_iff.mp hx).1
            omega
          obtain ⟨u, x', e1, e2, hu⟩ := thAll_get hall hi
          have ex : x' = x := Option.some.inj (e2.symm.trans hx)
          subst ex
          have hdu := dep_mem (List.mem_of_getElem? e1)
          obtain ⟨k, rfl⟩ : ∃ k, n = k + 1 := ⟨n - 1, by omega⟩
          refine ⟨rfl, tYes_if ?_⟩
          refine ⟨_, rfl, u, x', rfl, Th.same sm _ _ hu, clean_kids hcl u (List.mem_of_getElem? e1), by omega, fun G2 s2 => ?_⟩
          refine ⟨_, _, rfl, rfl, _, s2 _ _ hD, small1000 ?_, ?_, fun o w eo => ?_⟩
          · rw [List.length_map, List.length_map, List.length_take]
            omega
          · rw [upd_same, List.take_add_one, e1]
            simp
          · rw [upd_ne (ne_of_none eo nD)]
            exact s2 _ _ (sm _ _ eo)
        · refine ⟨D, _, rfl, .inl (.inl hD), ?_⟩
          rw [List.take_of_length_le (by omega), cntAll_sum]
          have q1 := q G sm
          simp only [cnt] at q1
          exact q1
end
end My
namespace My
open PySem PySem.Spec PyProof.Rows L2 LX LV
/-! ### == of values -/
mutual
theorem th_det {H : Hp} : ∀ (t u : T) (v : V), clean t = true → clean u = true → Th H t v → Th H u v → eqT t u = true
  | .int i, u, v, _, hu, h1, h2 => by
    unfold Th at h1
    subst h1
    cases u with
    | int j =>
      unfold Th at h2
      have := V.int.inj h2
      subst this
      simp [eqT]
    | str y => unfold Th at h2; exact nomatch h2
    | tup us => unfold Th at h2; obtain ⟨_, _, z, _⟩ := h2; exact nomatch z
    | _ => exact absurd hu (by simp [clean])
  | .str x, u, v, _, hu, h1, h2 => by
    unfold Th at h1
    subst h1
    cases u with
    | int j => unfold Th at h2; exact nomatch h2
    | str y =>
      unfold Th at h2
      have := V.str.inj h2
      subst this
      simp [eqT]
    | tup us => unfold Th at h2; obtain ⟨_, _, z, _⟩ := h2; exact nomatch z
    | _ => exact absurd hu (by simp [clean])
  | .tup ts, u, v, hc, hu, h1, h2 => by
    unfold Th at h1
    obtain ⟨a, xs, rfl, ha, _, hall⟩ := h1
    cases u with
    | int j => unfold Th at h2; exact nomatch h2
    | str y => unfold Th at h2; exact nomatch h2
    | tup us =>
      unfold Th at h2
      obtain ⟨b, ys, e, hb, _, hall2⟩ := h2
      have e1 := V.ref.inj e
      subst e1
      have e2 : xs = ys := by
        have := ha.symm.trans hb
        simpa using this
      subst e2
      simp only [clean] at hc hu
      simp only [eqT]
      exact thAll_det ts us xs hc hu hall hall2
    | _ => exact absurd hu (by simp [clean])
  | .non, _, _, hc, _, _, _ => absurd hc (by simp [clean])
  | .bl b, _, _, hc, _, _, _ => absurd hc (by simp [clean])
  | .oth d, _, _, hc, _, _, _ => absurd hc (by simp [clean])
theorem thAll_det {H : Hp} : ∀ (ts us : List T) (vs : List V), cleanAll ts = true → cleanAll us = true → ThAll H ts vs → ThAll H us vs → eqAll ts us = true
  | [], us, vs, _, _, h1, h2 => by
    unfold ThAll at h1
    subst h1
    cases us with
    | nil => simp [eqAll]
    | cons u us => unfold ThAll at h2; obtain ⟨_, _, z, _⟩ := h2; exact nomatch z
  | t :: ts, us, vs, hc, hu, h1, h2 => by
    unfold ThAll at h1
    obtain ⟨v, r, rfl, ht, hts⟩ := h1
    cases us with
    | nil => unfold ThAll at h2; exact nomatch h2
    | cons u us =>
      unfold ThAll at h2
      obtain ⟨v2, r2, e, hu1, hus⟩ := h2
      obtain ⟨rfl, rfl⟩ := List.cons.inj e
      simp only [cleanAll, Bool.and_eq_true] at hc hu
      simp only [eqAll, Bool.and_eq_true]
      exact ⟨th_det t u v hc.1 hu.1 ht hu1, thAll_det ts us r hc.2 hu.2 hts hus⟩
end
def eAt (ts us : List T) (i : Nat) : Bool := match ts[i]?, us[i]? with
  | some t, some u => eqT t u
  | _, _ => true
theorem eqAll_range : ∀ ts us : List T, eqAll ts us = ((List.range (min ts.length us.length)).all (eAt ts us) && ts.length == us.length)
  | [], [] => by simp [eqAll]
  | [], u :: us => by simp [eqAll]
  | t :: ts, [] => by simp [eqAll]
  | t :: ts, u :: us => by
    have ih := eqAll_range ts us
    have e : min (t :: ts).length (u :: us).length = min ts.length us.length + 1 := by
      simp only [List.length_cons]
      omega
    have e2 : (fun i => eAt (t :: ts) (u :: us) (Nat.succ i)) = eAt ts us := by
      funext i
      rfl
    have e3 : ((t :: ts).length == (u :: us).length) = (ts.length == us.length) := by simp
    rw [e, List.range_succ_eq_map, List.all_cons, List.all_map, e3]
    show eqAll (t :: ts) (u :: us) = ((eqT t u && (List.range (min ts.length us.length)).all (fun i => eAt (t :: ts) (u :: us) (Nat.succ i))) && (ts.length == us.length))
    rw [e2]
    simp only [eqAll]
    rw [ih, Bool.and_assoc]
section
variable {K : PySem.W.Frag} {H : Hp}
theorem eqv_th : ∀ (m : Nat) (t u : T) (v x : V), dep t ≤ m → clean t = true → clean u = true → Th H t v → Th H u x → EqV K H (m + 1) v x (eqT t u) := by
  intro m
  induction m with
  | zero =>
    intro t u v x hd hc hu h1 h2
    cases t with
    | int i =>
      unfold Th at h1
      subst h1
      cases u with
      | int j => unfold Th at h2; subst h2; exact (show eqT (.int i) (.int j) = eqV (.int i) (.int j) by simp [eqT, eqV]) ▸ EqV.flat rfl rfl
      | str y => unfold Th at h2; subst h2; exact (show eqT (.int i) (.str y) = eqV (.int i) (.str y) by simp [eqT, eqV]) ▸ EqV.flat rfl rfl
      | tup us => unfold Th at h2; obtain ⟨b, ys, rfl, hb, _⟩ := h2; exact (show eqT (.int i) (.tup us) = false by simp [eqT]) ▸ EqV.flat_tup rfl (SqT.of hb)
      | _ => exact absurd hu (by simp [clean])
    | str i =>
      unfold Th at h1
      subst h1
      cases u with
      | int j => unfold Th at h2; subst h2; exact (show eqT (.str i) (.int j) = eqV (.str i) (.int j) by simp [eqT, eqV]) ▸ EqV.flat rfl rfl
      | str y =>
        unfold Th at h2
        subst h2
        have e : eqT (.str i) (.str y) = eqV (.str i) (.str y) := by
          simp only [eqT, eqV]
          rw [Bool.eq_iff_iff]
          simp
        exact e ▸ EqV.flat rfl rfl
      | tup us => unfold Th at h2; obtain ⟨b, ys, rfl, hb, _⟩ := h2; exact (show eqT (.str i) (.tup us) = false by simp [eqT]) ▸ EqV.flat_tup rfl (SqT.of hb)
      | _ => exact absurd hu (by simp [clean])
    | tup ts =>
      simp only [dep] at hd
      omega
    | _ => exact absurd hc (by simp [clean])
  | succ m ih =>
    intro t u v x hd hc hu h1 h2
    cases t with
    | int i =>
      unfold Th at h1
      subst h1
      cases u with
      | int j => unfold Th at h2; subst h2; exact (show eqT (.int i) (.int j) = eqV (.int i) (.int j) by simp [eqT, eqV]) ▸ EqV.flat rfl rfl
      | str y => unfold Th at h2; subst h2; exact (show eqT (.int i) (.str y) = eqV (.int i) (.str y) by simp [eqT, eqV]) ▸ EqV.flat rfl rfl
      | tup us => unfold Th at h2; obtain ⟨b, ys, rfl, hb, _⟩ := h2; exact (show eqT (.int i) (.tup us) = false by simp [eqT]) ▸ EqV.flat_tup rfl (SqT.of hb)
      | _ => exact absurd hu (by simp [clean])
    | str i =>
      unfold Th at h1
      subst h1
      cases u with
      | int j => unfold Th at h2; subst h2; exact (show eqT (.str i) (.int j) = eqV (.str i) (.int j) by simp [eqT, eqV]) ▸ EqV.flat rfl rfl
      | str y =>
        unfold Th at h2
        subst h2
        have e : eqT (.str i) (.str y) = eqV (.str i) (.str y) := by
          simp only [eqT, eqV]
          rw [Bool.eq_iff_iff]
          simp
        exact e ▸ EqV.flat rfl rfl
      | tup us => unfold Th at h2; obtain ⟨b, ys, rfl, hb, _⟩ := h2; exact (show eqT (.str i) (.tup us) = false by simp [eqT]) ▸ EqV.flat_tup rfl (SqT.of hb)
      | _ => exact absurd hu (by simp [clean])
    | tup ts =>
      have h1' := h1
      unfold Th at h1'
      obtain ⟨a, xs, rfl, ha, _, hall⟩ := h1'
      cases u with
      | int j => unfold Th at h2; subst h2; exact (show eqT (.tup ts) (.int j) = false by simp [eqT]) ▸ EqV.tup_flat (SqT.of ha) rfl
      | str j => unfold Th at h2; subst h2; exact (show eqT (.tup ts) (.str j) = false by simp [eqT]) ▸ EqV.tup_flat (SqT.of ha) rfl
      | tup us =>
        have h2' := h2
        unfold Th at h2'
        obtain ⟨b, ys, rfl, hb, _, hall2⟩ := h2'
        by_cases hab : a = b
        · subst hab
          rw [th_det _ _ _ hc hu h1 h2]
          exact EqV.same a
        · refine EqV.of_rc hab ?_
          have l1 := thAll_len hall
          have l2 := thAll_len hall2
          have r := RcV.tup (K := K) (n := m + 1) (e := eAt ts us) (SqT.of ha) (SqT.of hb) (fun i p q hp hq => by
            have hi : i < ts.length := by
              have := (List.getElem?_eq_some_iff.mp hp).1
              omega
            have hj : i < us.length := by
              have := (List.getElem?_eq_some_iff.mp hq).1
              omega
            obtain ⟨t', x', e1, e2, ht'⟩ := thAll_get hall hi
            obtain ⟨u', y', f1, f2, hu'⟩ := thAll_get hall2 hj
            obtain rfl : x' = p := Option.some.inj (e2.symm.trans hp)
            obtain rfl : y' = q := Option.some.inj (f2.symm.trans hq)
            have e : eAt ts us i = eqT t' u' := by
              unfold eAt
              rw [e1, f1]
            rw [e]
            exact ih t' u' x' y' (dep_kids hd t' (List.mem_of_getElem? e1)) (clean_kids hc t' (List.mem_of_getElem? e1)) (clean_kids hu u' (List.mem_of_getElem? f1)) ht' hu')
          rw [← l1, ← l2] at r
          have e : eqT (.tup ts) (.tup us) = eqAll ts us := by simp only [eqT]
          rw [e, eqAll_range]
          exact r
      | _ => exact absurd hu (by simp [clean])
    | _ => exact absurd hc (by simp [clean])
theorem rc_tup {ts : List T} {u : T} {v x : V} {m : Nat} (hd : dep (.tup ts) ≤ m + 1) (hc : clean (.tup ts) = true) (hu : clean u = true) (h1 : Th H (.tup ts) v) (h2 : Th H u x) : RcV K H (m + 2) v x (eqT (.tup ts) u) := by
  unfold Th at h1
  obtain ⟨a, xs, rfl, ha, _, hall⟩ := h1
  cases u with
  | int j =>
    unfold Th at h2
    subst h2
    rw [show eqT (.tup ts) (.int j) = false by simp [eqT]]
    intro X pins σ s hK I v u rv ru A hu
    subst hK
    obtain rfl : v = Value.ref a := rv
    obtain ⟨its2, r2, p2, _⟩ := I.tuple (SqT.of ha)
    obtain ⟨t, rfl⟩ := ru
    exact SeqAt.RcAt.tuple_int j t p2 (by omega)
  | str j =>
    unfold Th at h2
    subst h2
    rw [show eqT (.tup ts) (.str j) = false by simp [eqT]]
    intro X pins σ s hK I v u rv ru A hu
    subst hK
    obtain rfl : v = Value.ref a := rv
    obtain ⟨its2, r2, p2, _⟩ := I.tuple (SqT.of ha)
    obtain ⟨t, rfl⟩ := ru
    exact SeqAt.RcAt.tuple_str j t p2 (by omega)
  | tup us =>
    unfold Th at h2
    obtain ⟨b, ys, rfl, hb, _, hall2⟩ := h2
    have l1 := thAll_len hall
    have l2 := thAll_len hall2
    have r := RcV.tup (K := K) (n := m + 1) (e := eAt ts us) (SqT.of ha) (SqT.of hb) (fun i p q hp hq => by
      have hi : i < ts.length := by
        have := (List.getElem?_eq_some_iff.mp hp).1
        omega
      have hj : i < us.length := by
        have := (List.getElem?_eq_some_iff.mp hq).1
        omega
      obtain ⟨t', x', e1, e2, ht'⟩ := thAll_get hall hi
      obtain ⟨u', y', f1, f2, hu'⟩ := thAll_get hall2 hj
      obtain rfl : x' = p := Option.some.inj (e2.symm.trans hp)
      obtain rfl : y' = q := Option.some.inj (f2.symm.trans hq)
      have e : eAt ts us i = eqT t' u' := by
        unfold eAt
        rw [e1, f1]
      rw [e]
      exact eqv_th m t' u' x' y' (dep_kids hd t' (List.mem_of_getElem? e1)) (clean_kids hc t' (List.mem_of_getElem? e1)) (clean_kids hu u' (List.mem_of_getElem? f1)) ht' hu')
    rw [← l1, ← l2] at r
    have e : eqT (.tup ts) (.tup us) = eqAll ts us := by simp only [eqT]
    rw [e, eqAll_range]
    exact r
  | _ => exact absurd hu (by simp [clean])
theorem rc_flat_tup {us : List T} {x v : V} {n : Nat} (hf : (∃ i, v = .int i) ∨ ∃ i, v = .str i) (h2 : Th H (.tup us) x) : RcV K H (n + 2) v x false := by
  unfold Th at h2
  obtain ⟨b, ys, rfl, hb, _⟩ := h2
  intro X pins σ s hK I v u rv ru A hu
  subst hK
  obtain rfl : u = Value.ref b := ru
  obtain ⟨its2, r2, p2, _⟩ := I.tuple (SqT.of hb)
  rcases hf with ⟨i, rfl⟩ | ⟨i, rfl⟩
  · obtain ⟨t, rfl⟩ := rv
    exact SeqAt.RcAt.int_tuple i t p2 (by omega)
  · obtain ⟨t, rfl⟩ := rv
    exact SeqAt.RcAt.str_tuple i t p2 (by omega)
/-- the answer of == between two values -/
theorem eq_th {Q : VK} {t u : T} {v x : V} (hd : dep t ≤ 50) (hc : clean t = true) (hu : clean u = true) (h1 : Th H t v) (h2 : Th H u x) (q : Q (.bl (eqT t u)) H) :
    rEq v x H Q ∨ ∃ b, RcV K H 60 v x b ∧ Q (.bl b) H := by
  cases t with
  | tup ts => exact .inr ⟨_, fun X pins σ s hK I v u rv ru A hA => rc_tup (m := 49) hd hc hu h1 h2 X pins σ s hK I v u rv ru A (by omega), q⟩
  | int i =>
    unfold Th at h1
    subst h1
    cases u with
    | int j =>
      unfold Th at h2
      subst h2
      refine .inl ⟨rfl, ?_⟩
      rw [show decide (V.int i = V.int j) = eqT (.int i) (.int j) by rw [Bool.eq_iff_iff]; simp [eqT]]
      exact q
    | str j =>
      unfold Th at h2
      subst h2
      refine .inl ⟨rfl, ?_⟩
      rw [show decide (V.int i = V.str j) = eqT (.int i) (.str j) by simp [eqT]]
      exact q
    | tup us =>
      refine .inr ⟨false, rc_flat_tup (n := 58) (.inl ⟨_, rfl⟩) h2, ?_⟩
      rw [show eqT (.int i) (.tup us) = false by simp [eqT]] at q
      exact q
    | _ => exact absurd hu (by simp [clean])
  | str i =>
    unfold Th at h1
    subst h1
    cases u with
    | int j =>
      unfold Th at h2
      subst h2
      refine .inl ⟨rfl, ?_⟩
      rw [show decide (V.str i = V.int j) = eqT (.str i) (.int j) by simp [eqT]]
      exact q
    | str j =>
      unfold Th at h2
      subst h2
      refine .inl ⟨rfl, ?_⟩
      rw [show decide (V.str i = V.str j) = eqT (.str i) (.str j) by simp [eqT]]
      exact q
    | tup us =>
      refine .inr ⟨false, rc_flat_tup (n := 58) (.inr ⟨_, rfl⟩) h2, ?_⟩
      rw [show eqT (.str i) (.tup us) = false by simp [eqT]] at q
      exact q
    | _ => exact absurd hu (by simp [clean])
  | _ => exact absurd hc (by simp [clean])
end
end My
namespace My
open PySem PySem.Spec PyProof.Rows L2 LX LV
/-! ### one operation on two values, as the law says it -/
def preA (w : Str) (ts : List T) : Option Str :=
  if kindsOk w ts = false then some ("kind" : Str) else if w = "divide" ∧ isZero ts = true then some ("zero" : Str) else if w = "item" ∧ inRange ts = false then some ("range" : Str) else none
theorem appA_pre (w : Str) (ts : List T) : appA w ts = (match preA w ts with | some r => .fail r | none => if isVal (resT w ts) = true then .val (resT w ts) else .fail "size") := by
  unfold appA preA
  by_cases h1 : kindsOk w ts = false
  · rw [if_pos h1, if_pos h1]
  · rw [if_neg h1, if_neg h1]
    by_cases h2 : w = "divide" ∧ isZero ts = true
    · rw [if_pos h2, if_pos h2]
    · rw [if_neg h2, if_neg h2]
      by_cases h3 : w = "item" ∧ inRange ts = false
      · rw [if_pos h3, if_pos h3]
      · rw [if_neg h3, if_neg h3]
theorem pre_kind {w : Str} {ts : List T} (h : kindsOk w ts = false) : preA w ts = some ("kind" : Str) := by
  unfold preA
  rw [if_pos h]
theorem pre_none {w : Str} {ts : List T} (h : kindsOk w ts = true) (h1 : w = "divide" → isZero ts = false) (h2 : w = "item" → inRange ts = true) : preA w ts = none := by
  unfold preA
  rw [if_neg (by rw [h]; exact Bool.noConfusion), if_neg (fun ⟨a, b⟩ => by rw [h1 a] at b; cases b), if_neg (fun ⟨a, b⟩ => by rw [h2 a] at b; cases b)]
theorem ints_ok {w : Str} {i j : Int} (hl : kindTab.lookup w = some [[("integer" : Str), ("integer" : Str)]]) : kindsOk w [.int i, .int j] = true := by
  unfold kindsOk
  rw [hl]
  simp [kindS]
theorem join_strs {x y : Str} : kindsOk "join" [.str x, .str y] = true := by
  unfold kindsOk
  rw [show kindTab.lookup ("join" : Str) = some [[("text" : Str), ("text" : Str)], [("list" : Str), ("list" : Str)]] by decide +kernel]
  simp [kindS]
theorem join_tups {x y : List T} : kindsOk "join" [.tup x, .tup y] = true := by
  unfold kindsOk
  rw [show kindTab.lookup ("join" : Str) = some [[("text" : Str), ("text" : Str)], [("list" : Str), ("list" : Str)]] by decide +kernel]
  simp [kindS]
theorem item_ok {x : List T} {i : Int} : kindsOk "item" [.tup x, .int i] = true := by
  unfold kindsOk
  rw [show kindTab.lookup ("item" : Str) = some [[("list" : Str), ("integer" : Str)]] by decide +kernel]
  simp [kindS]
theorem equal_ok {ts : List T} : kindsOk "equal" ts = true := by
  unfold kindsOk
  rw [show kindTab.lookup ("equal" : Str) = none by decide +kernel]
theorem list_ok {ts : List T} : kindsOk "list" ts = true := by
  unfold kindsOk
  rw [show kindTab.lookup ("list" : Str) = none by decide +kernel]
theorem size_str {x : Str} : kindsOk "size" [.str x] = true := by
  unfold kindsOk
  rw [show kindTab.lookup ("size" : Str) = some [[("text" : Str)], [("list" : Str)]] by decide +kernel]
  simp [kindS]
theorem size_tup {x : List T} : kindsOk "size" [.tup x] = true := by
  unfold kindsOk
  rw [show kindTab.lookup ("size" : Str) = some [[("text" : Str)], [("list" : Str)]] by decide +kernel]
  simp [kindS]
theorem size_int {i : Int} : kindsOk "size" [.int i] = false := by
  unfold kindsOk
  rw [show kindTab.lookup ("size" : Str) = some [[("text" : Str)], [("list" : Str)]] by decide +kernel]
  simp only [kindS, List.map_cons, List.map_nil, List.any_cons, List.any_nil]
  decide +kernel
theorem join_int1 {i : Int} {t : T} : kindsOk "join" [.int i, t] = false := by
  rw [Bool.eq_false_iff]
  intro h
  rcases kinds_join h with ⟨_, _, e⟩ | ⟨_, _, e⟩ <;> simp at e
theorem join_int2 {i : Int} {t : T} : kindsOk "join" [t, .int i] = false := by
  rw [Bool.eq_false_iff]
  intro h
  rcases kinds_join h with ⟨_, _, e⟩ | ⟨_, _, e⟩ <;> simp at e
theorem join_mix1 {x : Str} {ts : List T} : kindsOk "join" [.str x, .tup ts] = false := by
  rw [Bool.eq_false_iff]
  intro h
  rcases kinds_join h with ⟨_, _, e⟩ | ⟨_, _, e⟩ <;> simp at e
theorem join_mix2 {x : Str} {ts : List T} : kindsOk "join" [.tup ts, .str x] = false := by
  rw [Bool.eq_false_iff]
  intro h
  rcases kinds_join h with ⟨_, _, e⟩ | ⟨_, _, e⟩ <;> simp at e
theorem item_no1 {t u : T} (h : isTupT t = false) : kindsOk "item" [t, u] = false := by
  rw [Bool.eq_false_iff]
  intro hk
  obtain ⟨x, i, e⟩ := kinds_item hk
  simp only [List.cons.injEq, and_true] at e
  rw [e.1] at h
  exact absurd h (by simp [isTupT])
theorem item_no2 {t u : T} (h : isInt u = false) : kindsOk "item" [t, u] = false := by
  rw [Bool.eq_false_iff]
  intro hk
  obtain ⟨x, i, e⟩ := kinds_item hk
  simp only [List.cons.injEq, and_true] at e
  rw [e.2] at h
  exact absurd h (by simp [isInt])
theorem ints_no {w : Str} {t u : T} (hl : kindTab.lookup w = some [[("integer" : Str), ("integer" : Str)]]) (h : isInt t = false ∨ isInt u = false) : kindsOk w [t, u] = false := by
  rw [Bool.eq_false_iff]
  intro hk
  obtain ⟨i, j, e⟩ := kinds_ints hl hk
  simp only [List.cons.injEq, and_true] at e
  rcases h with h | h
  · rw [e.1] at h
    exact absurd h (by simp [isInt])
  · rw [e.2] at h
    exact absurd h (by simp [isInt])
theorem res_equal {t u : T} : resT "equal" [t, u] = .int (if eqT t u = true then 1 else 0) := by
  unfold resT
  rw [if_neg (by decide +kernel), if_neg (by decide +kernel)]
  simp only
  rw [if_neg (by decide +kernel), if_pos trivial]
theorem res_item {ts : List T} {i : Int} : resT "item" [.tup ts, .int i] = (ts[i.toNat]?).getD .non := by
  unfold resT
  rw [if_neg (by decide +kernel), if_neg (by decide +kernel)]
  simp only
  rw [if_pos trivial]
theorem res_less {i j : Int} : resT "less" [.int i, .int j] = .int (if i < j then 1 else 0) := by
  unfold resT
  rw [if_neg (by decide +kernel), if_neg (by decide +kernel)]
  simp only
  rw [if_neg (by decide +kernel), if_neg (by decide +kernel), if_pos trivial]
theorem res_sub {i j : Int} : resT "subtract" [.int i, .int j] = .int (i - j) := by
  unfold resT
  rw [if_neg (by decide +kernel), if_neg (by decide +kernel)]
  simp only
  rw [if_neg (by decide +kernel), if_neg (by decide +kernel), if_neg (by decide +kernel), if_pos trivial]
theorem res_mul {i j : Int} : resT "multiply" [.int i, .int j] = .int (i * j) := by
  unfold resT
  rw [if_neg (by decide +kernel), if_neg (by decide +kernel)]
  simp only
  rw [if_neg (by decide +kernel), if_neg (by decide +kernel), if_neg (by decide +kernel), if_neg (by decide +kernel), if_pos trivial]
theorem res_div {i j : Int} : resT "divide" [.int i, .int j] = .int (i.fdiv j) := by
  unfold resT
  rw [if_neg (by decide +kernel), if_neg (by decide +kernel)]
  simp only
  rw [if_neg (by decide +kernel), if_neg (by decide +kernel), if_neg (by decide +kernel), if_neg (by decide +kernel), if_neg (by decide +kernel), if_pos trivial]
theorem res_add {i j : Int} : resT "add" [.int i, .int j] = .int (i + j) := by
  unfold resT
  rw [if_neg (by decide +kernel), if_neg (by decide +kernel)]
  simp only
  rw [if_neg (by decide +kernel), if_neg (by decide +kernel), if_neg (by decide +kernel), if_neg (by decide +kernel), if_neg (by decide +kernel), if_neg (by decide +kernel)]
theorem res_strs {x y : Str} : resT "join" [.str x, .str y] = .str (x ++ y) := by
  unfold resT
  rw [if_neg (by decide +kernel), if_neg (by decide +kernel)]
  simp only
  rw [if_neg (by decide +kernel), if_neg (by decide +kernel)]
theorem res_tups {x y : List T} : resT "join" [.tup x, .tup y] = .tup (x ++ y) := by
  unfold resT
  rw [if_neg (by decide +kernel), if_neg (by decide +kernel)]
  simp only
  rw [if_neg (by decide +kernel), if_neg (by decide +kernel)]
theorem res_list {ts : List T} : resT "list" ts = .tup ts := by
  unfold resT
  rw [if_pos rfl]
theorem res_sizeS {x : Str} : resT "size" [.str x] = .int x.length := by
  unfold resT
  rw [if_neg (by decide +kernel), if_pos rfl]
theorem res_sizeT {x : List T} : resT "size" [.tup x] = .int x.length := by
  unfold resT
  rw [if_neg (by decide +kernel), if_pos rfl]
theorem ty_clean {K : PySem.W.Frag} {H : Hp} {t : T} {v : V} (hc : clean t = true) (ht : Th H t v) : ∃ n, TyOf K H v (.type n) ∧ kitB n "str" = some (isStrT t) ∧ kitB n "tuple" = some (isTupT t) := by
  cases t with
  | int i => unfold Th at ht; subst ht; exact ⟨_, .int i, show kitB "int" "str" = some false by decide +kernel, show kitB "int" "tuple" = some false by decide +kernel⟩
  | str x => unfold Th at ht; subst ht; exact ⟨_, .str x, show kitB "str" "str" = some true by decide +kernel, show kitB "str" "tuple" = some false by decide +kernel⟩
  | tup ts => unfold Th at ht; obtain ⟨a, xs, rfl, ha, _⟩ := ht; exact ⟨_, .tup ha, show kitB "tuple" "str" = some false by decide +kernel, show kitB "tuple" "tuple" = some true by decide +kernel⟩
  | _ => exact absurd hc (by simp [clean])
def two (w : Str) : Prop := w = "equal" ∨ w = "join" ∨ w = "item" ∨ w = "divide" ∨ w = "add" ∨ w = "subtract" ∨ w = "multiply" ∨ w = "less"
theorem scPair : FnScope ["_law_word", "_law_a", "_law_b"] ["_law_word", "_law_a", "_law_b"] (defScope sPair) := ⟨rfl, rfl, rfl, by decide +kernel, rfl, by decide +kernel, by decide +kernel⟩
def spPair : Sp := fun vs H Q _ => ∃ (w : Str) (t1 t2 : T) (v1 v2 : V), vs = [.str w, v1, v2] ∧ Th H t1 v1 ∧ Th H t2 v2 ∧ isVal t1 = true ∧ isVal t2 = true ∧ two w ∧
  (∀ r H' p, preA w [t1, t2] = some r → Same H H' → H' p = some (.lst [.str "failed", .str r]) → Q (.ref p) H') ∧
  (∀ H' v, preA w [t1, t2] = none → Same H H' → Th H' (resT w [t1, t2]) v → shortA (resT w [t1, t2]) → clean (resT w [t1, t2]) = true → dep (resT w [t1, t2]) ≤ 6 → Q v H')
section
variable {P : Program} {w : World} {K : PySem.W.Frag} {mg : Str → Option Value} {base : Heap}
theorem ok_pair {f fW : Addr} {fd fdW : FuncData} (F : Fun K "_law_pair" "_law_pair" sPair f fd)
    (FW : Fun K "_law_whole" "_law_whole" sWhole fW fdW) (bW : Binds K fdW ["_law_thing"] []) (gW : mg "_law_whole" = some (.ref fW)) (TS : TxtQ mg) :
    FnOk P w K mg base CX0 2 f fd ["_law_word", "_law_a", "_law_b"] spPair := by
  have GW : FnOk P w K mg base CX0 1 fW fdW ["_law_thing"] spWhole := ok_whole FW TS
  refine F.ok scPair (fun vs H Q E h => ?_) (fun cdv A outer s H vs Q E hr h => ?_)
  · obtain ⟨w, t1, t2, v1, v2, rfl, _⟩ := h
    rfl
  · obtain ⟨w, t1, t2, v1, v2, rfl, h1, h2, vl1, vl2, hw, qf, qv⟩ := h
    have hr1 : Room 1 _ := hr.mono (by decide)
    have cl1 := (val_clean vl1).1
    have cl2 := (val_clean vl2).1
    have dp1 := (val_clean vl1).2
    have dp2 := (val_clean vl2).2
    refine ⟨_, pss_cons (ps_if (pt_cmpR op_eq (pv 0) pe_str (nomark _)) (pss_one (ps_ret (pe_callTy call_int1 (by rfl) TS.int (by decide +kernel) (pa_cons (pe_cmpR (OpR.or op_eq (op_eqW hr.units)) (pv 1) (pv 2) (nomark _)) pa_nil)))) pss_nil)
      (pss_cons (ps_if (pt_cmpR op_eq (pv 0) pe_str (nomark _))
        (pss_cons (ps_if (PW.pt (pw_or (pt_val (pe_call GW hr1 rfl gW FW.kp bW .nil pass0 (pa_cons (pv 1) pa_nil))) (pw_or (pt_val (pe_call GW hr1 rfl gW FW.kp bW .nil pass0 (pa_cons (pv 2) pa_nil)))
            (pw_or1 (pt_cmpR op_ne (pe_callB call_isi (by rfl) TS.isi PyProof.Rows.boot_isinstance (pa_cons (pv 1) (pa_cons (pe_bltn (v := .ty "str") (by rfl) TS.str (by decide +kernel) rfl) pa_nil)))
              (pe_callB call_isi (by rfl) TS.isi PyProof.Rows.boot_isinstance (pa_cons (pv 2) (pa_cons (pe_bltn (v := .ty "str") (by rfl) TS.str (by decide +kernel) rfl) pa_nil))) (nomark _))))))
          (pss_one (ps_ret (pe_lst (pa_cons pe_str (pa_cons pe_str pa_nil))))) pss_nil)
        (pss_one (ps_ret (pe_op (OpR.or op_add_str op_catA) (pv 1) (pv 2))))) pss_nil)
      (pss_cons (ps_if (pt_cmpR op_eq (pv 0) pe_str (nomark _))
        (pss_cons (ps_if (PW.pt (pw_or (pt_not (pt_val (pe_callB call_isi (by rfl) TS.isi PyProof.Rows.boot_isinstance (pa_cons (pv 1) (pa_cons (pe_bltn (v := .ty "tuple") (by rfl) TS.tuple (by decide +kernel) rfl) pa_nil)))))
            (pw_or1 (pt_not (pt_val (pe_call GW hr1 rfl gW FW.kp bW .nil pass0 (pa_cons (pv 2) pa_nil)))))))
          (pss_one (ps_ret (pe_lst (pa_cons pe_str (pa_cons pe_str pa_nil))))) pss_nil)
        (pss_one (ps_ret (pe_ifExp (pt_chain op_le op_lt pe_int (pv 2) (pe_callB call_len_seq (by rfl) TS.len PySem.boot_len (pa_cons (pv 1) pa_nil))) (pe_ix ix_tup (pv 1) (pv 2) (fun _ _ => rfl)) (pe_lst (pa_cons pe_str (pa_cons pe_str pa_nil))))))) pss_nil)
      (pss_cons (ps_if (PW.pt (pw_or (pt_not (pt_val (pe_call GW hr1 rfl gW FW.kp bW .nil pass0 (pa_cons (pv 1) pa_nil)))) (pw_or1 (pt_not (pt_val (pe_call GW hr1 rfl gW FW.kp bW .nil pass0 (pa_cons (pv 2) pa_nil)))))))
        (pss_one (ps_ret (pe_lst (pa_cons pe_str (pa_cons pe_str pa_nil))))) pss_nil)
      (pss_cons (ps_if (pt_cmpR op_eq (pv 0) pe_str (nomark _)) (pss_one (ps_ret (pe_ifExp (pt_cmpR op_ne (pv 2) pe_int (nomark _)) (pe_op LK.op_fdivB (pv 1) (pv 2)) (pe_lst (pa_cons pe_str (pa_cons pe_str pa_nil)))))) pss_nil)
      (pss_cons (ps_if (pt_cmpR op_eq (pv 0) pe_str (nomark _)) (pss_one (ps_ret (pe_op op_add (pv 1) (pv 2)))) pss_nil)
      (pss_cons (ps_if (pt_cmpR op_eq (pv 0) pe_str (nomark _)) (pss_one (ps_ret (pe_op op_sub (pv 1) (pv 2)))) pss_nil)
      (pss_one (ps_ret (pe_ifExp (pt_cmpR op_eq (pv 0) pe_str (nomark _)) (pe_op LK.op_mulB (pv 1) (pv 2)) (pe_callTy call_int1 (by rfl) TS.int (by decide +kernel) (pa_cons (pe_cmpR op_lt (pv 1) (pv 2) (nomark _)) pa_nil))))))))))), ?_⟩
    have no : ∀ {a b : Str}, ¬ a = b → decide (V.str a = V.str b) = false := fun h => decide_eq_false fun z => h (V.str.inj z)
    have yes : ∀ {a : Str}, decide (V.str a = V.str a) = true := decide_eq_true rfl
    have fail : ∀ (H1 : Hp) (r : Str), preA w [t1, t2] = some r → Same H H1 → (2 ≤ sizeLine ∧ ∀ D, H1 D = none → Q (.ref D) (upd H1 D (.lst [.str "failed", .str r]))) := fun H1 r e sm => ⟨by decide, fun D nD => qf r _ D e (sm.trans (same_upd nD)) upd_same⟩
    have fin : ∀ i : Int, preA w [t1, t2] = none → resT w [t1, t2] = .int i → Q (.int i) H := fun i e0 e => by
      refine qv _ _ e0 (Same.refl _) ?_ ?_ ?_ ?_
      · rw [e]; exact thInt
      · rw [e]; unfold shortA; exact True.intro
      · rw [e]; rfl
      · rw [e]; exact Nat.zero_le _
    refine ⟨_, rfl, rfl, _, rfl, ?_⟩
    by_cases e1 : w = "equal"
    · subst e1
      rw [yes]
      refine iteT ⟨_, rfl, _, rfl, eq_th (by omega) cl1 cl2 h1 h2 (.inr ⟨_, rfl, ?_⟩)⟩
      exact fin _ (pre_none equal_ok (fun z => absurd z (by decide +kernel)) (fun z => absurd z (by decide +kernel))) res_equal
    rw [no e1]
    refine iteF ⟨_, rfl, rfl, _, rfl, ?_⟩
    by_cases e2 : w = "join"
    · subst e2
      rw [yes]
      refine iteT ?_
      have bad : kindsOk "join" [t1, t2] = false → (2 ≤ sizeLine ∧ ∀ D, H D = none → Q (.ref D) (upd H D (.lst [.str "failed", .str "kind"]))) := fun z => fail H _ (pre_kind z) (Same.refl _)
      have nd : ¬ ("join" : Str) = "divide" := by decide +kernel
      have ni : ¬ ("join" : Str) = "item" := by decide +kernel
      refine ⟨_, rfl, t1, v1, rfl, h1, cl1, _, rfl, ?_⟩
      cases i1 : isInt t1 with
      | true =>
        cases t1 <;> first | (exact absurd i1 Bool.false_ne_true) | skip
        exact iteT (iteT (bad join_int1))
      | false =>
        refine iteF ⟨_, rfl, t2, v2, rfl, h2, cl2, _, rfl, ?_⟩
        cases i2 : isInt t2 with
        | true =>
          cases t2 <;> first | (exact absurd i2 Bool.false_ne_true) | skip
          exact iteT (iteT (bad join_int2))
        | false =>
          obtain ⟨n1, ty1, k1, -⟩ := ty_clean (K := K) cl1 h1
          obtain ⟨n2, ty2, k2, -⟩ := ty_clean (K := K) cl2 h2
          refine iteF ⟨_, rfl, _, _, _, _, isStrT t1, rfl, .ty "str", .base ty1, kit_ty k1, _, rfl, _, _, _, _, isStrT t2, rfl, .ty "str", .base ty2, kit_ty k2, rfl, _, rfl, ?_⟩
          cases t1 with
          | str x =>
            cases t2 with
            | str y =>
              unfold Th at h1 h2
              subst h1 h2
              have b1 := val_str vl1
              have b2 := val_str vl2
              refine iteF ⟨_, rfl, _, rfl, .inl ⟨x, y, rfl, rfl, Nat.le_trans (show x.length + y.length ≤ 120 by omega) (by decide), ?_⟩⟩
              refine qv _ _ (pre_none join_strs (fun z => absurd z nd) fun z => absurd z ni) (Same.refl _) ?_ ?_ ?_ ?_
              · rw [res_strs]; exact thStr
              · rw [res_strs]
                unfold shortA
                have := PySem.Str.length_append x y
                omega
              · rw [res_strs]; exact clean_str cl1 cl2
              · rw [res_strs]; exact Nat.zero_le _
            | tup us => exact iteT (bad join_mix1)
            | int j => exact absurd i2.symm Bool.false_ne_true
            | _ => exact absurd cl2 (by simp [clean])
          | tup us =>
            cases t2 with
            | str y => exact iteT (bad join_mix2)
            | tup ws =>
              have s1 := (val_small vl1).2
              have s2 := (val_small vl2).2
              have b1 := val_tup vl1
              have b2 := val_tup vl2
              unfold Th at h1 h2
              obtain ⟨b, ys, rfl, hb, hbl, hys⟩ := h1
              obtain ⟨c, zs, rfl, hc, hcl, hzs⟩ := h2
              have l1 := thAll_len hys
              have l2 := thAll_len hzs
              refine iteF ⟨_, rfl, _, rfl, .inr (catA_of hb hc (by omega) fun r H' sm hr => ?_)⟩
              refine qv _ _ (pre_none join_tups (fun z => absurd z nd) fun z => absurd z ni) sm ?_ ?_ ?_ ?_
              · rw [res_tups]
                exact thTup hr (by rw [List.length_append]; omega) (thAll_append (ThAll.same sm _ _ hys) (ThAll.same sm _ _ hzs))
              · rw [res_tups]; exact shortA_app s1 s2
              · rw [res_tups]
                refine clean_tup fun t ht => ?_
                rcases List.mem_append.mp ht with h | h
                · exact clean_kids cl1 t h
                · exact clean_kids cl2 t h
              · rw [res_tups]
                refine dep_tup fun t ht => ?_
                rcases List.mem_append.mp ht with h | h
                · exact Nat.le_trans (dep_kids (n := 4) dp1 t h) (by decide)
                · exact Nat.le_trans (dep_kids (n := 4) dp2 t h) (by decide)
            | int j => exact absurd i2.symm Bool.false_ne_true
            | _ => exact absurd cl2 (by simp [clean])
          | int i => exact absurd i1.symm Bool.false_ne_true
          | _ => exact absurd cl1 (by simp [clean])
    rw [no e2]
    refine iteF ⟨_, rfl, rfl, _, rfl, ?_⟩
    by_cases e3 : w = "item"
    · subst e3
      rw [yes]
      refine iteT ?_
      have bad : kindsOk "item" [t1, t2] = false → (2 ≤ sizeLine ∧ ∀ D, H D = none → Q (.ref D) (upd H D (.lst [.str "failed", .str "kind"]))) := fun z => fail H _ (pre_kind z) (Same.refl _)
      have nd : ¬ ("item" : Str) = "divide" := by decide +kernel
      obtain ⟨n1, ty1, -, k1⟩ := ty_clean (K := K) cl1 h1
      refine ⟨_, rfl, _, _, _, _, isTupT t1, rfl, .ty "tuple", .base ty1, kit_ty k1, _, rfl, ?_⟩
      cases i1 : isTupT t1 with
      | false => exact iteT (iteT (bad (item_no1 i1)))
      | true =>
        refine iteF ⟨_, rfl, t2, v2, rfl, h2, cl2, _, rfl, ?_⟩
        cases i2 : isInt t2 with
        | false => exact iteT (bad (item_no2 i2))
        | true =>
          cases t1 <;> first | (exact absurd i1 Bool.false_ne_true) | skip
          cases t2 <;> first | (exact absurd i2 Bool.false_ne_true) | skip
          rename_i us i
          have s1 := (val_small vl1).2
          unfold Th at h1 h2
          obtain ⟨b, ys, rfl, hb, hbl, hys⟩ := h1
          subst h2
          have l1 := thAll_len hys
          have rng : inRange [.tup us, .int i] = false → preA "item" [.tup us, .int i] = some ("range" : Str) := fun z => by
            unfold preA
            rw [if_neg (by rw [item_ok]; exact Bool.noConfusion), if_neg (fun a => nd a.1), if_pos ⟨rfl, z⟩]
          refine iteF ⟨_, rfl, _, _, rfl, rfl, _, rfl, ?_⟩
          by_cases h0 : (0 : Int) ≤ i
          · rw [decide_eq_true h0]
            refine iteT ⟨_, rfl, b, ys, rfl, .inr (.inl (.inl hb)), _, _, rfl, rfl, _, rfl, ?_⟩
            by_cases hl : i < (ys.length : Int)
            · rw [decide_eq_true hl]
              obtain ⟨n, rfl⟩ := Int.eq_ofNat_of_zero_le h0
              obtain ⟨u, y, e1, e2, hu⟩ := thAll_get hys (show n < us.length by omega)
              have er : resT "item" [.tup us, .int (n : Int)] = u := by
                rw [res_item, Int.toNat_natCast, e1]
                rfl
              have hmem := List.mem_of_getElem? e1
              have hin : inRange [.tup us, .int (n : Int)] = true := by
                show (decide ((0 : Int) ≤ n) && decide ((n : Int) < us.length)) = true
                rw [decide_eq_true h0, decide_eq_true (show (n : Int) < us.length by omega)]
                rfl
              refine iteT ⟨_, rfl, _, rfl, b, ys, _, y, rfl, rfl, SqT.of hb, atI_nat e2, ?_⟩
              refine qv _ _ (pre_none item_ok (fun z => absurd z nd) fun _ => hin) (Same.refl _) ?_ ?_ ?_ ?_
              · rw [er]; exact hu
              · rw [er]
                unfold shortA at s1
                exact shortAll_mem.mp s1 u hmem
              · rw [er]; exact clean_kids cl1 u hmem
              · rw [er]; exact Nat.le_trans (dep_kids (n := 4) dp1 u hmem) (by decide)
            · rw [decide_eq_false hl]
              refine iteF (fail H _ (rng ?_) (Same.refl _))
              show (decide ((0 : Int) ≤ i) && decide (i < us.length)) = false
              rw [decide_eq_false (show ¬ i < (us.length : Int) by omega), Bool.and_false]
          · rw [decide_eq_false h0]
            refine iteF ⟨_, rfl, iteF (fail H _ (rng ?_) (Same.refl _))⟩
            show (decide ((0 : Int) ≤ i) && decide (i < us.length)) = false
            rw [decide_eq_false h0, Bool.false_and]
    rw [no e3]
    refine iteF ?_
    have hl : kindTab.lookup w = some [[("integer" : Str), ("integer" : Str)]] := by
      rcases hw with h | h | h | h | h | h | h | h
      · exact absurd h e1
      · exact absurd h e2
      · exact absurd h e3
      · rw [h]; exact ln_int.2.2.2.1
      · rw [h]; exact ln_int.1
      · rw [h]; exact ln_int.2.1
      · rw [h]; exact ln_int.2.2.1
      · rw [h]; exact ln_int.2.2.2.2
    have bad : kindsOk w [t1, t2] = false → (2 ≤ sizeLine ∧ ∀ D, H D = none → Q (.ref D) (upd H D (.lst [.str "failed", .str "kind"]))) := fun z => fail H _ (pre_kind z) (Same.refl _)
    refine ⟨_, rfl, t1, v1, rfl, h1, cl1, _, rfl, ?_⟩
    cases i1 : isInt t1 with
    | false => exact iteT (iteT (bad (ints_no hl (.inl i1))))
    | true =>
      refine iteF ⟨_, rfl, t2, v2, rfl, h2, cl2, _, rfl, ?_⟩
      cases i2 : isInt t2 with
      | false => exact iteT (bad (ints_no hl (.inr i2)))
      | true =>
        cases t1 <;> first | (exact absurd i1 Bool.false_ne_true) | skip
        cases t2 <;> first | (exact absurd i2 Bool.false_ne_true) | skip
        rename_i i j
        unfold Th at h1 h2
        subst h1 h2
        have b1 := val_int vl1
        have b2 := val_int vl2
        have le : (2 : Nat) ^ 200 ≤ 2 ^ 1000 := by decide +kernel
        have cb : LK.CBig i j := ⟨Nat.lt_of_lt_of_le b1 le, Nat.lt_of_lt_of_le b2 le⟩
        have pn : (w = "divide" → isZero [.int i, .int j] = false) → preA w [.int i, .int j] = none := fun z => pre_none (ints_ok hl) z fun y => absurd y e3
        refine iteF ⟨_, rfl, rfl, _, rfl, ?_⟩
        by_cases e4 : w = "divide"
        · subst e4
          rw [yes]
          refine iteT ⟨_, rfl, rfl, _, rfl, ?_⟩
          by_cases hj : j = 0
          · rw [decide_eq_true (by rw [hj])]
            refine iteF (fail H _ ?_ (Same.refl _))
            unfold preA
            rw [if_neg (by rw [ints_ok hl]; exact Bool.noConfusion), if_pos ⟨rfl, by show decide (j = 0) = true; exact decide_eq_true hj⟩]
          · rw [decide_eq_false fun z => hj (V.int.inj z)]
            exact iteT ⟨_, rfl, _, rfl, _, _, rfl, rfl, ⟨hj, cb⟩, fin _ (pn fun _ => decide_eq_false hj) res_div⟩
        rw [no e4]
        refine iteF ⟨_, rfl, rfl, _, rfl, ?_⟩
        have pn' := pn fun z => absurd z e4
        by_cases e5 : w = "add"
        · subst e5
          rw [yes]
          exact iteT ⟨_, rfl, _, rfl, _, _, rfl, rfl, fin _ pn' res_add⟩
        rw [no e5]
        refine iteF ⟨_, rfl, rfl, _, rfl, ?_⟩
        by_cases e6 : w = "subtract"
        · subst e6
          rw [yes]
          exact iteT ⟨_, rfl, _, rfl, _, _, rfl, rfl, fin _ pn' res_sub⟩
        rw [no e6]
        refine iteF ⟨_, rfl, rfl, _, rfl, ?_⟩
        by_cases e7 : w = "multiply"
        · subst e7
          rw [yes]
          exact iteT ⟨_, rfl, _, rfl, _, _, rfl, rfl, cb, fin _ pn' res_mul⟩
        rw [no e7]
        have e8 : w = "less" := by
          rcases hw with h | h | h | h | h | h | h | h
          · exact absurd h e1
          · exact absurd h e2
          · exact absurd h e3
          · exact absurd h e4
          · exact absurd h e5
          · exact absurd h e6
          · exact absurd h e7
          · exact h
        subst e8
        refine iteF ⟨_, rfl, _, rfl, _, _, rfl, rfl, .inr ⟨_, rfl, ?_⟩⟩
        refine fin _ pn' (res_less.trans ?_)
        by_cases hij : i < j
        · rw [if_pos hij, decide_eq_true hij]; rfl
        · rw [if_neg hij, decide_eq_false hij]; rfl
end
end My
namespace My
open PySem PySem.Spec PyProof.Rows L2 LX LV
/-! ### the law's own evaluation -/
theorem scLRes : FnScope ["_law_term", "_law_names", "_law_word", "_law_items", "_law_part", "_law_result_here", "_law_good"] ["_law_term", "_law_names"] (defScope sLRes) := ⟨rfl, rfl, rfl, by decide +kernel, rfl, by decide +kernel, by decide +kernel⟩
def ResL (H : Hp) (p : Addr) : Ans → Prop
  | .fail r => H p = some (.lst [.str "failed", .str r])
  | .val u => ∃ y, H p = some (.lst [.str "value", y]) ∧ Th H u y
def spLRes (n : Nat) : Sp := fun vs H Q _ => ∃ (t : T) (v : V) (d : Addr) (prs : List (L2.Key × T)), vs = [v, .ref d] ∧ Th H t v ∧ nestT n t = true ∧ DkAt H d prs ∧ stOk prs = true ∧ ∀ H' p, Same H H' → ResL H' p (evA n (envP prs) t) → Q (.ref p) H'
theorem ty_list {K : PySem.W.Frag} {H : Hp} {t : T} {v : V} (hc : clean t = true) (ht : Th H t v) : ∃ n, TyOf K H v (.type n) ∧ kitB n "list" = some false := by
  cases t with
  | int i => unfold Th at ht; subst ht; exact ⟨_, .int i, by decide +kernel⟩
  | str x => unfold Th at ht; subst ht; exact ⟨_, .str x, by decide +kernel⟩
  | tup ts => unfold Th at ht; obtain ⟨a, xs, rfl, ha, _⟩ := ht; exact ⟨_, .tup ha, by decide +kernel⟩
  | _ => exact absurd hc (by simp [clean])
theorem two_wd {x : Str} {n : Nat} (h : Wd x n) (h1 : ¬ x = "list") (h2 : ¬ x = "size") : two x := by
  rcases h with h | h | ⟨_, h⟩
  · exact absurd h.1 h1
  · exact absurd h.1 h2
  · unfold two
    rcases h with h | h | h | h | h | h | h | h <;> simp [h]
section
variable {P : Program} {w : World} {K : PySem.W.Frag} {mg : Str → Option Value} {base : Heap}
theorem ok_lres {f fP fS fN fW : Addr} {fd fdP fdS fdN fdW : FuncData} (F : Fun K "_law_result" "_law_result" sLRes f fd) (bF : Binds K fd ["_law_term", "_law_names"] []) (gF : mg "_law_result" = some (.ref f))
    (FP : Fun K "_law_pair" "_law_pair" sPair fP fdP) (bP : Binds K fdP ["_law_word", "_law_a", "_law_b"] []) (gP : mg "_law_pair" = some (.ref fP))
    (FS : Fun K "_law_small" "_law_small" sSmall fS fdS) (bS : Binds K fdS ["_law_thing", "_law_levels"] []) (gS : mg "_law_small" = some (.ref fS))
    (FN : Fun K "_law_within" "_law_within" sWithin fN fdN) (bN : Binds K fdN ["_law_thing"] []) (gN : mg "_law_within" = some (.ref fN))
    (FW : Fun K "_law_whole" "_law_whole" sWhole fW fdW) (bW : Binds K fdW ["_law_thing"] []) (gW : mg "_law_whole" = some (.ref fW)) (TS : TxtQ mg) :
    ∀ n : Nat, FnOk P w K mg base CX0 (n + 8) f fd ["_law_term", "_law_names"] (spLRes n) := by
  have GW : FnOk P w K mg base CX0 1 fW fdW ["_law_thing"] spWhole := ok_whole FW TS
  have GP : FnOk P w K mg base CX0 2 fP fdP ["_law_word", "_law_a", "_law_b"] spPair := ok_pair FP FW bW gW TS
  have GS : FnOk P w K mg base CX0 8 fS fdS ["_law_thing", "_law_levels"] (spSmall 7) := ok_small FS bS gS TS 7
  have GN : FnOk P w K mg base CX0 8 fN fdN ["_law_thing"] (spWithin 7) := ok_within FN bN gN TS 7
  intro n
  induction n with
  | zero =>
    exact F.ok scLRes (fun vs H Q E h => by obtain ⟨t, v, d, prs, rfl, _⟩ := h; rfl) (fun cdv A outer s H vs Q E hr h => by
      obtain ⟨t, v, d, prs, rfl, _, z, _⟩ := h
      exact absurd z (by simp [nestT]))
  | succ n GR =>
    refine F.ok scLRes (fun vs H Q E h => ?_) (fun cdv A outer s H vs Q E hr h => ?_)
    · obtain ⟨t, v, d, prs, rfl, _⟩ := h
      rfl
    · obtain ⟨t, v, d, prs, rfl, ht, hne, hdk, hst, q⟩ := h
      have ND := scLRes.nd
      have hr1 : Room 1 _ := hr.mono (by omega)
      have hr2 : Room 2 _ := hr.mono (by omega)
      have hr8 : Room 8 _ := hr.mono (by omega)
      refine ⟨_, pss_cons (ps_par (i := 2) (j := 3) rfl ND rfl rfl (by decide) rfl rfl (pa_cons (pe_ix ix_tup (pv 0) pe_int (fun _ _ => rfl)) (pa_cons (pe_lst pa_nil) pa_nil)) rfl)
        (pss_cons (ps_if (pt_cmpR op_eq (pv 2) pe_str (nomark _)) (pss_one (ps_ret (pe_lst (pa_cons pe_str (pa_cons (pe_ix ix_tup (pv 0) pe_int (fun _ _ => rfl)) pa_nil))))) pss_nil)
        (pss_cons (ps_if (pt_cmpR op_eq (pv 2) pe_str (nomark _)) (pss_one (ps_ret (pe_ifExp (pt_cmp (pc_din (hu_of hr) (pe_ix ix_tup (pv 0) pe_int (fun _ _ => rfl)) (pv 1)))
            (pe_lst (pa_cons pe_str (pa_cons (pe_dget (hu_of hr) (pv 1) (pe_ix ix_tup (pv 0) pe_int (fun _ _ => rfl)) (fun _ _ => rfl)) pa_nil)))
            (pe_lst (pa_cons pe_str (pa_cons pe_str pa_nil)))))) pss_nil)
        (C8.pss_cut (ps_for PassesOwn.never rfl (pi_tup (pe_slice sl_tupA (pv 0) (po_some pe_int) po_none)) (pg_name (i := 4) ND rfl (.inl rfl))
          (pss_cons (ps_set (i := 5) ND rfl (.inl rfl) (pe_call GR hr rfl gF F.kp bF .nil pass0 (pa_cons (pv 4) (pa_cons (pv 1) pa_nil))))
          (pss_cons (ps_if (pt_cmpR op_eq (pe_ix ix_list (pv 5) pe_int (fun _ _ => rfl)) pe_str (nomark _)) (pss_one (ps_ret (pv 5))) pss_nil)
          (pss_one (ps_expr (pe_bm PySem.F.plainAttrs_list PySem.F.slot_list_append PySem.F.type_list_append mt_append (pv 3) (pa_cons (pe_ix ix_list (pv 5) pe_int (fun _ _ => rfl)) pa_nil)))))))
        (C8.pss_cut (ps_if (pt_cmpR op_eq (pv 2) pe_str (nomark _)) (pss_one (ps_set (i := 5) ND rfl (.inl rfl) (pe_callTy call_tuple_of (by rfl) TS.tuple (by decide +kernel) (pa_cons (pv 3) pa_nil))))
          (pss_one (ps_if (pt_cmpR op_eq (pv 2) pe_str (nomark _))
            (pss_one (ps_set (i := 5) ND rfl (.inl rfl) (pe_ifExp (pt_val (pe_call GW hr1 rfl gW FW.kp bW .nil pass0 (pa_cons (pe_ix ix_list (pv 3) pe_int (fun _ _ => rfl)) pa_nil)))
              (pe_lst (pa_cons pe_str (pa_cons pe_str pa_nil))) (pe_callB (LR.call_or call_len_seq call_len_str) (by rfl) TS.len PySem.boot_len (pa_cons (pe_ix ix_list (pv 3) pe_int (fun _ _ => rfl)) pa_nil)))))
            (pss_one (ps_set (i := 5) ND rfl (.inl rfl) (pe_call GP hr2 rfl gP FP.kp bP .nil pass0 (pa_cons (pv 2) (pa_cons (pe_ix ix_list (pv 3) pe_int (fun _ _ => rfl)) (pa_cons (pe_ix ix_list (pv 3) pe_int (fun _ _ => rfl)) pa_nil)))))))))
        (pss_cons (ps_if (pt_val (pe_callB call_isi (by rfl) TS.isi PyProof.Rows.boot_isinstance (pa_cons (pv 5) (pa_cons (pe_bltn (v := .ty "list") (by rfl) TS.list (by decide +kernel) rfl) pa_nil)))) (pss_one (ps_ret (pv 5))) pss_nil)
        (pss_cons (ps_set (i := 6) ND rfl (.inl rfl) (pe_and (pe_call GS hr8 rfl gS FS.kp bS .nil pass0 (pa_cons (pv 5) (pa_cons pe_int pa_nil)))
          (pe_one (pe_cmpR op_le (pe_call GN hr8 rfl gN FN.kp bN .nil pass0 (pa_cons (pv 5) pa_nil)) pe_int (nomark _)))))
        (pss_one (ps_ret (pe_ifExp (pt_val (pv 6)) (pe_lst (pa_cons pe_str (pa_cons (pv 5) pa_nil))) (pe_lst (pa_cons pe_str (pa_cons pe_str pa_nil)))))))))))), ?_⟩
      obtain ⟨hf, x, ps, rfl, hp⟩ := nest_parts hne
      simp only [Th] at ht
      obtain ⟨a, xs, rfl, ha, hxl, hall⟩ := ht
      simp only [ThAll] at hall
      obtain ⟨v0, r, rfl, h0, hr'⟩ := hall
      simp only [Th] at h0
      subst h0
      refine ⟨_, rfl, a, _, _, .str x, rfl, rfl, .inl (.inl ha), at0 _ _, ?_⟩
      refine ⟨by show 0 ≤ sizeLine; decide, fun D nD => ⟨_, _, rfl, ?_⟩⟩
      have s1 : Same H (upd H D (.lst [])) := same_upd nD
      have ha1 := s1 _ _ ha
      have hr1' := ThAll.same s1 _ _ hr'
      refine ⟨_, rfl, rfl, _, rfl, ?_⟩
      rw [dec_str]
      by_cases h1 : x = "value"
      · rw [decide_eq_true h1]
        obtain ⟨p, rfl⟩ := form_one hf (.inl h1)
        obtain ⟨u, rfl, hu⟩ := thAll_one hr1'
        refine iteT ⟨_, rfl, a, _, _, u, rfl, rfl, .inl (.inl ha1), at1 _ _ _, by show 2 ≤ sizeLine; decide, fun t nt => ?_⟩
        refine q _ _ (s1.trans (same_upd nt)) ?_
        simp only [evA]
        rw [if_pos h1]
        exact ⟨u, upd_same, Th.same (same_upd nt) _ _ hu⟩
      rw [decide_eq_false h1]
      refine iteF ⟨_, rfl, rfl, _, rfl, ?_⟩
      rw [dec_str]
      rw [if_neg h1] at hp
      by_cases h2 : x = "name"
      · rw [decide_eq_true h2]
        obtain ⟨p, rfl⟩ := form_one hf (.inr h2)
        rw [if_pos h2] at hp
        have hp1 : isName p = true := by simpa using hp
        obtain ⟨y, rfl⟩ : ∃ y, p = .str y := by
          cases p with
          | str y => exact ⟨y, rfl⟩
          | _ => exact absurd hp1 (by simp [isName, isKey])
        obtain ⟨u, rfl, hu⟩ := thAll_one hr1'
        unfold Th at hu
        subst hu
        obtain ⟨kvs, hd, hkv, hl, hpp⟩ := hdk.same s1
        have evn : evA (n + 1) (envP prs) (.tup [.str x, .str y]) = lookA prs y := by
          simp only [evA]
          rw [if_neg h1, if_pos h2]
          unfold lookA
          cases envP prs y <;> rfl
        refine iteT ⟨_, rfl, a, _, _, .str y, rfl, rfl, .inl (.inl ha1), at1 _ _ _, _, rfl, d, _, rfl, DGet.k (k := Sum.inr y) hd, _, rfl, ?_⟩
        rcases env_at (x := y) hkv with ⟨e1, e2⟩ | ⟨t, v, e1, e2, ht⟩
        · rw [e2]
          refine iteF ⟨by show 2 ≤ sizeLine; decide, fun p np => q _ _ (s1.trans (same_upd np)) ?_⟩
          rw [evn]
          unfold lookA
          rw [e1]
          exact upd_same
        · rw [e2]
          refine iteT ⟨_, rfl, _, rfl, a, _, _, .str y, rfl, rfl, .inl (.inl ha1), at1 _ _ _, d, v, rfl, ?_, by show 2 ≤ sizeLine; decide, fun p np => q _ _ (s1.trans (same_upd np)) ?_⟩
          · have g := DGet.k (k := Sum.inr y) hd
            rw [e2] at g
            exact g
          · rw [evn]
            unfold lookA
            rw [e1]
            exact ⟨v, upd_same, Th.same (same_upd np) _ _ ht⟩
      rw [decide_eq_false h2]
      refine iteF ?_
      rw [if_neg h2] at hp
      have hpa := List.all_eq_true.mp hp
      have hwd := wd_of hf h1 h2
      have h10 := form_ten hf
      have lps := thAll_len hr1'
      have een : evA (n + 1) (envP prs) (.tup (.str x :: ps)) = (match evAll (evA n (envP prs)) ps with | .inl r => .fail r | .inr vs => appA x vs) := by
        simp only [evA]
        rw [if_neg h1, if_neg h2]
        try rfl
      refine ⟨fun σ' H' => ∃ (z1 z2 : Option V) (us : List T) (vs : List V), σ' = [some (.ref a), some (.ref d), some (.str x), some (.ref D), z1, z2, none] ∧ Same H H' ∧ H' D = some (.lst vs) ∧ ThAll H' us vs ∧ evAll (evA n (envP prs)) ps = .inr us, ?_, ?_⟩
      · refine ⟨.ref a, rfl, 1, rfl, ?_⟩
        dsimp only [tNoPart]
        refine slA_of (s1 _ _ ha) fun b Hb sb hb => ?_
        have hb' : Hb b = some (.tup r) := hb.trans (congrArg (fun z => some (HO.tup z)) ((cut_from (V.str x :: r) 1).trans rfl))
        have hDb : Hb D = some (.lst []) := sb _ _ upd_same
        have nbD : b ≠ D := ne_of hb' hDb (by intro z; cases z)
        refine ⟨b, rfl, ⟨r, .inl (.inl hb')⟩, ?_⟩
        refine for_tup (K := K) (a := b) (xs := r) (D := { nx := fun σ' H' => ∃ (z1 z2 : Option V) (us : List T) (vs : List V), σ' = [some (.ref a), some (.ref d), some (.str x), some (.ref D), z1, z2, none] ∧ Same H H' ∧ H' D = some (.lst vs) ∧ ThAll H' us vs ∧ evAll (evA n (envP prs)) ps = .inr us, rt := Q })
          (fun i σ H' => ∃ (z1 z2 : Option V) (us : List T) (vs : List V), σ = [some (.ref a), some (.ref d), some (.str x), some (.ref D), z1, z2, none] ∧ Same H H' ∧ H' b = some (.tup r) ∧ H' D = some (.lst vs) ∧ ThAll H' us vs ∧ evAll (evA n (envP prs)) (ps.take i) = .inr us)
          ⟨none, none, [], [], rfl, s1.trans sb, hb', hDb, by unfold ThAll; rfl, rfl⟩ (fun i σ H' _ ⟨_, _, _, _, _, _, hb2, _⟩ => .inl (.inl hb2)) (fun i y σ H' hy hh => ?_) (fun σ H' hh => ?_)
        · obtain ⟨z1, z2, us, vs, rfl, sm, hb2, hD2, hall2, hev⟩ := hh
          have hi : i < ps.length := by
            have := (List.getElem?_eq_some_iff.mp hy).1
            omega
          obtain ⟨u, y', e1, e2, hu⟩ := thAll_get (ThAll.same sm _ _ hr') hi
          have ey : y' = y := Option.some.inj (e2.symm.trans hy)
          subst ey
          have hmem := List.mem_of_getElem? e1
          have etk : ps.take (i + 1) = ps.take i ++ [u] := by
            rw [List.take_add_one, e1]
            rfl
          refine ⟨_, rfl, _, rfl, u, y', d, prs, rfl, hu, hpa u hmem, hdk.same sm, hst, fun H2 p s2 hp2' => ?_⟩
          have sm2 := sm.trans s2
          cases hev2 : evA n (envP prs) u with
          | fail rs =>
            rw [hev2] at hp2'
            have hp2 : H2 p = some (.lst [.str "failed", .str rs]) := hp2'
            refine ⟨_, rfl, p, _, _, .str "failed", rfl, rfl, SqL.of hp2, at0 _ _, rfl, _, rfl, ?_⟩
            rw [dec_str, decide_eq_true rfl]
            refine iteT ⟨_, rfl, ?_⟩
            refine q _ _ sm2 ?_
            have e : evAll (evA n (envP prs)) ps = .inl rs := by
              rw [← List.take_append_drop (i + 1) ps, etk]
              refine evAll_stop _ _ _ _ ?_
              rw [evAll_snoc, hev]
              simp only
              rw [hev2]
            rw [een, e]
            exact hp2
          | val t2 =>
            rw [hev2] at hp2'
            obtain ⟨y2, hp2, ht2⟩ := hp2'
            refine ⟨_, rfl, p, _, _, .str "value", rfl, rfl, SqL.of hp2, at0 _ _, rfl, _, rfl, ?_⟩
            rw [dec_str, decide_eq_false ne_vf]
            refine iteF ?_
            have hD3 := s2 _ _ hD2
            have l2 := thAll_len hall2
            have lu : us.length = i := by
              have := (evAll_vals (P := fun _ => True) hev fun _ _ _ _ => True.intro).1
              rw [List.length_take] at this
              omega
            refine ⟨_, rfl, .inl ⟨rfl, _, SqL.of hD3⟩, _, rfl, p, _, _, y2, rfl, rfl, SqL.of hp2, at1 _ _ _, D, _, y2, rfl, rfl, hD3, small1000 (by omega), ?_⟩
            have mild : Mild H2 (upd H2 D (.lst (vs ++ [y2]))) := Mild.updL hD3
            refine ⟨_, _, us ++ [t2], vs ++ [y2], rfl, ?_, ?_, upd_same, thAll_snoc (mild.th ht2) (mild.thAll (ThAll.same s2 _ _ hall2)), ?_⟩
            · exact same_updN sm2 nD
            · rw [upd_ne nbD]
              exact s2 _ _ hb2
            · rw [etk, evAll_snoc, hev]
              simp only
              rw [hev2]
        · obtain ⟨z1, z2, us, vs, rfl, sm, hb2, hD2, hall2, hev⟩ := hh
          rw [List.take_of_length_le (by omega)] at hev
          exact ⟨z1, z2, us, vs, rfl, sm, hD2, hall2, hev⟩
      rintro σ' H1 ⟨z1, z2, us, vs, rfl, sm1, hD1, hall1, hev⟩
      have vv := evAll_vals (P := fun t => isVal t = true) hev fun p hp t ht => evA_val n (envP prs) p t (env_val hst) (hpa p hp) ht
      have hwu : Wd x us.length := by
        rw [vv.1]
        exact hwd
      have eap : evA (n + 1) (envP prs) (.tup (.str x :: ps)) = appA x us := by
        rw [een, hev]
      rw [eap] at q
      have lus := thAll_len hall1
      have fok : ∀ H' p r, preA x us = some r → Same H H' → H' p = some (.lst [.str "failed", .str r]) → ResL H' p (appA x us) := fun H' p r e sm hp => by
        rw [appA_pre, e]
        exact hp
      refine ⟨fun σ' H' => ∃ (rv : V), σ' = [some (.ref a), some (.ref d), some (.str x), some (.ref D), z1, some rv, none] ∧ Same H H' ∧ ((∃ p, rv = .ref p ∧ (∃ xs, H' p = some (.lst xs)) ∧ ResL H' p (appA x us)) ∨ (preA x us = none ∧ Th H' (resT x us) rv ∧ shortA (resT x us) ∧ clean (resT x us) = true ∧ dep (resT x us) ≤ 6)), ?_, ?_⟩
      · refine ⟨_, rfl, rfl, _, rfl, ?_⟩
        rw [dec_str]
        by_cases h3 : x = "list"
        · rw [decide_eq_true h3]
          subst h3
          have h10' := wd_ten hwu
          refine iteT ⟨_, rfl, D, vs, rfl, .inl ⟨SqL.of hD1, fun l nl => ?_⟩⟩
          refine ⟨_, rfl, sm1.trans (same_upd nl), .inr ⟨pre_none list_ok (fun z => absurd z (by decide +kernel)) (fun z => absurd z (by decide +kernel)), ?_, ?_, ?_, ?_⟩⟩
          · rw [res_list]
            exact thTup upd_same (by omega) (ThAll.same (same_upd nl) _ _ hall1)
          · rw [res_list]
            unfold shortA
            exact shortAll_mem.mpr fun t ht => (val_small (vv.2 t ht)).2
          · rw [res_list]
            exact clean_tup fun t ht => (val_clean (vv.2 t ht)).1
          · rw [res_list]
            exact dep_tup fun t ht => (val_clean (vv.2 t ht)).2
        rw [decide_eq_false h3]
        refine iteF ⟨_, rfl, rfl, _, rfl, ?_⟩
        rw [dec_str]
        by_cases h4 : x = "size"
        · rw [decide_eq_true h4]
          subst h4
          obtain ⟨t1, rfl⟩ : ∃ t1, us = [t1] := by
            have l1 : us.length = 1 := by
              rcases hwu with h | h | ⟨_, h⟩
              · exact absurd h.1 h3
              · exact h.2
              · exact absurd h (by decide +kernel)
            match us, l1 with
            | [t1], _ => exact ⟨t1, rfl⟩
          obtain ⟨v1, rfl, hv1⟩ := thAll_one hall1
          have vl1 := vv.2 t1 (List.mem_singleton.mpr rfl)
          have cl1 := (val_clean vl1).1
          have nd : ¬ ("size" : Str) = "divide" := by decide +kernel
          have ni : ¬ ("size" : Str) = "item" := by decide +kernel
          refine iteT ⟨_, rfl, D, _, _, v1, rfl, rfl, SqL.of hD1, at0 _ _, t1, v1, rfl, hv1, cl1, _, rfl, ?_⟩
          cases t1 with
          | int i => exact iteT ⟨by show 2 ≤ sizeLine; decide, fun p np => ⟨_, rfl, sm1.trans (same_upd np), .inl ⟨p, rfl, ⟨_, upd_same⟩, fok _ p _ (pre_kind size_int) (sm1.trans (same_upd np)) upd_same⟩⟩⟩
          | str y =>
            unfold Th at hv1
            subst hv1
            have hx := val_str vl1
            refine iteF ⟨_, rfl, D, _, _, .str y, rfl, rfl, SqL.of hD1, at0 _ _, .inr ⟨y, rfl, Nat.le_trans hx (by decide), ?_⟩⟩
            refine ⟨_, rfl, sm1, .inr ⟨pre_none size_str (fun z => absurd z nd) fun z => absurd z ni, ?_, ?_, ?_, ?_⟩⟩
            · rw [res_sizeS]; exact thInt
            · rw [res_sizeS]; unfold shortA; exact True.intro
            · rw [res_sizeS]; rfl
            · rw [res_sizeS]; exact Nat.zero_le _
          | tup ws =>
            unfold Th at hv1
            obtain ⟨b, ys, rfl, hb, hbl, hys⟩ := hv1
            have l2 := thAll_len hys
            refine iteF ⟨_, rfl, D, _, _, .ref b, rfl, rfl, SqL.of hD1, at0 _ _, .inl ⟨b, ys, rfl, .inr (.inl (.inl hb)), ?_⟩⟩
            refine ⟨_, rfl, sm1, .inr ⟨pre_none size_tup (fun z => absurd z nd) fun z => absurd z ni, ?_, ?_, ?_, ?_⟩⟩
            · rw [res_sizeT, l2]; exact thInt
            · rw [res_sizeT]; unfold shortA; exact True.intro
            · rw [res_sizeT]; rfl
            · rw [res_sizeT]; exact Nat.zero_le _
          | non => exact absurd cl1 (by simp [clean])
          | bl b => exact absurd cl1 (by simp [clean])
          | oth d => exact absurd cl1 (by simp [clean])
        rw [decide_eq_false h4]
        refine iteF ?_
        have htwo := two_of hwu h3 h4
        obtain ⟨t1, t2, rfl⟩ : ∃ t1 t2, us = [t1, t2] := by
          match us, htwo with
          | [t1, t2], _ => exact ⟨t1, t2, rfl⟩
        obtain ⟨v1, v2, rfl, hv1, hv2⟩ := thAll_two hall1
        have vl1 := vv.2 t1 (by simp)
        have vl2 := vv.2 t2 (by simp)
        refine ⟨_, rfl, _, rfl, D, _, _, v1, rfl, rfl, SqL.of hD1, at0 _ _, _, rfl, D, _, _, v2, rfl, rfl, SqL.of hD1, at1 _ _ _, x, t1, t2, v1, v2, rfl, hv1, hv2, vl1, vl2, two_wd hwu h3 h4, fun r H' p e s2 hp => ?_, fun H' v e s2 hv sh hc hd => ?_⟩
        · exact ⟨_, rfl, sm1.trans s2, .inl ⟨p, rfl, ⟨_, hp⟩, fok _ p r e (sm1.trans s2) hp⟩⟩
        · exact ⟨_, rfl, sm1.trans s2, .inr ⟨e, hv, sh, hc, hd⟩⟩
      rintro σ' H2 ⟨rv, rfl, sm2, hrv⟩
      rcases hrv with ⟨p, rfl, ⟨xs, hp⟩, hres⟩ | ⟨hpre, hv, sh, hc, hd⟩
      · exact ⟨_, rfl, _, _, _, _, true, rfl, .ty "list", .base (.lst hp), kit_ty (by decide +kernel), _, rfl, iteT ⟨_, rfl, q _ _ sm2 hres⟩⟩
      · obtain ⟨n1, ty1, k1⟩ := ty_list (K := K) hc hv
        have eas : appA x us = if isVal (resT x us) = true then .val (resT x us) else .fail "size" := by
          rw [appA_pre, hpre]
        have evs := val_eqS hc
        refine ⟨_, rfl, _, _, _, _, false, rfl, .ty "list", .base ty1, kit_ty k1, _, rfl, iteF ?_⟩
        refine ⟨_, rfl, resT x us, rv, 5, rfl, hv, hc, hd, sh, fun H3 s3 => ⟨_, rfl, ?_⟩⟩
        have bad : isVal (resT x us) = false → ∀ G, Same H G → (2 ≤ sizeLine ∧ ∀ D', G D' = none → Q (.ref D') (upd G D' (.lst [.str "failed", .str "size"]))) := fun e G sm => ⟨by decide, fun D' nD' => q _ _ (sm.trans (same_upd nD')) (by
          rw [eas, if_neg (by rw [e]; exact Bool.noConfusion)]
          exact upd_same)⟩
        cases hb1 : smallI 5 (resT x us) with
        | false =>
          refine iteF ⟨_, rfl, _, rfl, iteF (bad ?_ _ (sm2.trans s3))⟩
          rw [evs, hb1, Bool.false_and]
        | true =>
          refine iteT ⟨_, rfl, resT x us, rv, rfl, Th.same s3 _ _ hv, hc, hd, fun H4 s4 => ⟨_, _, rfl, rfl, ?_⟩⟩
          refine ⟨_, rfl, _, rfl, ?_⟩
          cases hb2 : decide ((cnt (resT x us) : Int) ≤ 50) with
          | false =>
            refine iteF (bad ?_ _ ((sm2.trans s3).trans s4))
            rw [evs, hb1, hb2, Bool.true_and]
          | true =>
            refine iteT ⟨_, rfl, by show 2 ≤ sizeLine; decide, fun D' nD' => q _ _ (((sm2.trans s3).trans s4).trans (same_upd nD')) ?_⟩
            rw [eas, if_pos (by rw [evs, hb1, hb2]; rfl)]
            exact ⟨rv, upd_same, Th.same ((s3.trans s4).trans (same_upd nD')) _ _ hv⟩
end
end My
namespace My
open PySem PySem.Spec PyProof.Rows L2 LX LV
/-! ### the law's own names -/
theorem scLNames : FnScope ["_law_term", "_law_part"] ["_law_term"] (defScope sLNames) := ⟨rfl, rfl, rfl, by decide +kernel, rfl, by decide +kernel, by decide +kernel⟩
theorem scOnce : FnScope ["_law_names", "_law_name"] ["_law_names"] (defScope sOnce) := ⟨rfl, rfl, rfl, by decide +kernel, rfl, by decide +kernel, by decide +kernel⟩
theorem paired_snoc {α β : Type} {P : α → β → Prop} : ∀ {xs : List α} {ys : List β} {x : α} {y : β}, Paired P xs ys → P x y → Paired P (xs ++ [x]) (ys ++ [y])
  | _, _, _, _, .nil, h => .cons h .nil
  | _, _, _, _, .cons a t, h => .cons a (paired_snoc t h)
theorem paired_mono {α β : Type} {P Q : α → β → Prop} (m : ∀ a b, P a b → Q a b) : ∀ {xs : List α} {ys : List β}, Paired P xs ys → Paired Q xs ys
  | _, _, .nil => .nil
  | _, _, .cons a t => .cons (m _ _ a) (paired_mono m t)
theorem paired_len {α β : Type} {P : α → β → Prop} : ∀ {xs : List α} {ys : List β}, Paired P xs ys → xs.length = ys.length
  | _, _, .nil => rfl
  | _, _, .cons _ t => by simp only [List.length_cons, paired_len t]
def spLN : Nat → Sp
  | 0 => fun vs _ _ _ => vs.length = 1 ∧ False
  | n + 1 => fun vs H Q _ => ∃ (t : T) (v : V), vs = [v] ∧ Th H t v ∧ nestT n t = true ∧ ∀ H' r, Same H H' → H r = none → H' r = some (.lst ((wn n t).map V.str)) → Q (.ref r) H'
def spOnce : Sp := fun vs H Q _ => ∃ (l : Addr) (ns : List Str), vs = [.ref l] ∧ H l = some (.lst (ns.map V.str)) ∧ ns.length < sizeLine ∧ ∀ H' r, Same H H' → H' r = some (.lst (onceS ns)) → Q (.ref r) H'
theorem flat_map {f : T → List Str} : ∀ ps : List T, (ps.map fun p => (f p).map V.str).flatten = (ps.flatMap f).map V.str
  | [] => rfl
  | p :: ps => by
    rw [List.map_cons, List.flatten_cons, List.flatMap_cons, List.map_append, flat_map ps]
section
variable {P : Program} {w : World} {K : PySem.W.Frag} {mg : Str → Option Value} {base : Heap}
theorem ok_ln {f : Addr} {fd : FuncData} (F : Fun K "_law_names_in" "_law_names_in" sLNames f fd) (bF : Binds K fd ["_law_term"] []) (gF : mg "_law_names_in" = some (.ref f)) (TS : TxtQ mg) :
    ∀ n : Nat, n ≤ 9 → FnOk P w K mg base CX0 (n + 1) f fd ["_law_term"] (spLN n) := by
  intro n
  induction n with
  | zero => exact fun _ => F.ok scLNames (fun vs H Q E h => h.1) (fun cdv A outer s H vs Q E hr h => h.2.elim)
  | succ n ih =>
    intro hn
    have GR := ih (by omega)
    refine F.ok scLNames (fun vs H Q E h => ?_) (fun cdv A outer s H vs Q E hr h => ?_)
    · obtain ⟨t, v, rfl, _⟩ := h
      rfl
    · obtain ⟨t, v, rfl, ht, hne, q⟩ := h
      have ND := scLNames.nd
      refine ⟨_, pss_cons (ps_if (pt_cmpR op_eq (pe_ix ix_tup (pv 0) pe_int (fun _ _ => rfl)) pe_str (nomark _)) (pss_one (ps_ret (pe_lst pa_nil))) pss_nil)
        (pss_cons (ps_if (pt_cmpR op_eq (pe_ix ix_tup (pv 0) pe_int (fun _ _ => rfl)) pe_str (nomark _)) (pss_one (ps_ret (pe_lst (pa_cons (pe_ix ix_tup (pv 0) pe_int (fun _ _ => rfl)) pa_nil)))) pss_nil)
        (pss_one (ps_ret (pe_callB (LSum.call_sumL rfl) (by rfl) TS.sum (by decide +kernel) (pa_cons
          (pe_lc (own := [("_law_part", 1)]) (g := gName 1) (tt := tYes) rfl ND (pi_tup (pe_slice sl_tupA (pv 0) (po_some pe_int) po_none)) (blkOk_by (own := [("_law_part", 1)]) (N := ["_law_term", "_law_part"]) (sc := defScope sLNames) (by decide +kernel))
            (fun _ _ _ _ _ => pg_name (i := 1) ND rfl (Or.inl rfl)) (fun _ _ _ _ _ => pts_nil) (fun _ _ _ _ _ => pe_call GR hr rfl gF F.kp bF .nil pass0 (pa_cons (pv 1) pa_nil)))
          (pa_cons (pe_lst pa_nil) pa_nil)))))), ?_⟩
      cases n with
      | zero => exact absurd hne (by simp [nestT])
      | succ k =>
        obtain ⟨hf, x, ps, rfl, hp⟩ := nest_parts hne
        simp only [Th] at ht
        obtain ⟨a, xs, rfl, ha, hxl, hall⟩ := ht
        simp only [ThAll] at hall
        obtain ⟨v0, r, rfl, h0, hr'⟩ := hall
        simp only [Th] at h0
        subst h0
        refine ⟨_, rfl, a, _, _, .str x, rfl, rfl, .inl (.inl ha), at0 _ _, ?_⟩
        refine ⟨rfl, _, rfl, ?_⟩
        rw [dec_str]
        by_cases h2 : x = "value"
        · rw [decide_eq_true h2]
          have h1 : ¬ x = "name" := by
            rw [h2]
            decide +kernel
          refine iteT ⟨by show 0 ≤ sizeLine; decide, fun D nD => ?_⟩
          refine q _ D (same_upd nD) nD ?_
          rw [upd_same]
          have e : wn (k + 1) (.tup (.str x :: ps)) = [] := by
            simp only [wn]
            rw [if_neg h1, if_pos h2]
          rw [e]
          rfl
        rw [decide_eq_false h2]
        refine iteF ⟨_, rfl, a, _, _, .str x, rfl, rfl, .inl (.inl ha), at0 _ _, ?_⟩
        refine ⟨rfl, _, rfl, ?_⟩
        rw [dec_str]
        rw [if_neg h2] at hp
        by_cases h1 : x = "name"
        · rw [decide_eq_true h1]
          obtain ⟨p, rfl⟩ := form_one hf (.inr h1)
          rw [if_pos h1] at hp
          have hp1 : isName p = true := by simpa using hp
          obtain ⟨y, rfl⟩ : ∃ y, p = .str y := by
            cases p with
            | str y => exact ⟨y, rfl⟩
            | _ => exact absurd hp1 (by simp [isName, isKey])
          simp only [ThAll] at hr'
          obtain ⟨u, r2, rfl, hu, rfl⟩ := hr'
          simp only [Th] at hu
          subst hu
          refine iteT ⟨_, rfl, a, _, _, .str y, rfl, rfl, .inl (.inl ha), at1 _ _ _, by show 1 ≤ sizeLine; decide, fun D nD => ?_⟩
          refine q _ D (same_upd nD) nD ?_
          rw [upd_same]
          have e : wn (k + 1) (.tup (.str x :: [.str y])) = [y] := by
            simp only [wn]
            rw [if_pos h1]
          rw [e]
          rfl
        rw [decide_eq_false h1]
        refine iteF ?_
        rw [if_neg h1] at hp
        have hpa := List.all_eq_true.mp hp
        have e : wn (k + 1) (.tup (.str x :: ps)) = ps.flatMap (wn k) := by
          simp only [wn]
          rw [if_neg h1, if_neg h2]
        have htot : (ps.flatMap (wn k)).length < sizeLine := by
          have b := wn_len k _ hne
          rw [e] at b
          have : 10 ^ k ≤ 10 ^ 7 := Nat.pow_le_pow_right (by decide) (by omega)
          rw [sizeLine_eq]
          omega
        rw [e] at q
        have lps := thAll_len hr'
        refine ⟨.ref a, rfl, 1, rfl, ?_⟩
        dsimp only [tNoPart]
        refine slA_of ha fun b Hb sb hb => ?_
        have hb' : Hb b = some (.tup r) := hb.trans (congrArg (fun z => some (HO.tup z)) ((cut_from (V.str x :: r) 1).trans rfl))
        have hallB := ThAll.same sb _ _ hr'
        refine ⟨b, rfl, ⟨r, .inl (.inl hb')⟩, fun D nD => ?_⟩
        refine lc_tup (K := K) (a := b) (xs := r) (fun i G => ∃ as : List Addr, Same Hb G ∧ G D = some (.lst (as.map V.ref)) ∧ Paired (fun c ys => G c = some (.lst ys) ∧ c ≠ D) as ((ps.take i).map fun p => (wn k p).map V.str))
          ⟨[], same_upd nD, upd_same, .nil⟩ (fun i G _ ⟨_, sm, _⟩ => .inl (.inl (sm _ _ hb'))) (fun i y G hy hh => ?_) (fun G hh => ?_)
        · obtain ⟨as, sm, hD, hpr⟩ := hh
          have hi : i < ps.length := by
            have := (List.getElem?_eq_some_iff.mp hy).1
            omega
          obtain ⟨u, y', e1, e2, hu⟩ := thAll_get hallB hi
          have ey : y' = y := Option.some.inj (e2.symm.trans hy)
          subst ey
          have hmem := List.mem_of_getElem? e1
          refine ⟨rfl, tYes_if ?_⟩
          cases k with
          | zero => exact absurd (hpa u hmem) (by simp [nestT])
          | succ k2 =>
          refine ⟨_, rfl, u, y', rfl, Th.same sm _ _ hu, hpa u hmem, fun H2 l s2 nl hl => ?_⟩
          have nlD : l ≠ D := fun z => by
            rw [z, hD] at nl
            cases nl
          have la := paired_len hpr
          rw [List.length_map, List.length_take] at la
          rw [List.length_cons] at hxl
          refine ⟨_, s2 _ _ hD, small1000 (by rw [List.length_map]; omega), as ++ [l], same_updN (sm.trans s2) nD, ?_, ?_⟩
          · rw [upd_same, List.map_append]
            rfl
          · rw [List.take_add_one, e1, List.map_append]
            have kp : ∀ c ys, (G c = some (.lst ys) ∧ c ≠ D) → upd H2 D (.lst (as.map V.ref ++ [.ref l])) c = some (.lst ys) := fun c ys ⟨h, n⟩ => by
              rw [upd_ne n]
              exact s2 _ _ h
            refine paired_snoc (paired_mono (fun c ys h => ⟨kp c ys h, h.2⟩) hpr) ⟨?_, nlD⟩
            rw [upd_ne nlD]
            exact hl
        · obtain ⟨as, sm, hD, hpr⟩ := hh
          rw [← lps, List.take_length] at hpr
          refine ⟨by show 0 ≤ sizeLine; decide, fun D2 nD2 => ?_⟩
          have sD2 : Same G (upd G D2 (.lst [])) := same_upd nD2
          refine ⟨D, D2, as, _, [], rfl, sD2 _ _ hD, paired_mono (fun c ys h => sD2 _ _ h.1) hpr, upd_same, ?_, fun p H' hor s3 hp => ?_⟩
          · rw [flat_map, List.length_map]
            show 0 + _ ≤ sizeLine
            omega
          · have s0 : Same H (upd G D2 (.lst [])) := (sb.trans sm).trans sD2
            refine q H' p (s0.trans s3) ?_ ?_
            · rcases hor with rfl | hn
              · exact none_of (sb.trans sm) nD2
              · exact none_of s0 hn
            · rw [flat_map] at hp
              exact hp
theorem ok_once {f : Addr} {fd : FuncData} (F : Fun K "_law_once" "_law_once" sOnce f fd) (gl : mg "list" = none) (gd : mg "dict" = none) : FnOk P w K mg base CX0 1 f fd ["_law_names"] spOnce := by
  refine F.ok scOnce (fun vs H Q E h => ?_) (fun cdv A outer s H vs Q E hr h => ?_)
  · obtain ⟨l, ns, rfl, _⟩ := h
    rfl
  · obtain ⟨l, ns, rfl, hl, hz, q⟩ := h
    have ND := scOnce.nd
    refine ⟨_, pss_one (ps_ret (pe_callTy (call_list_dK rfl) (by rfl) gl (by decide +kernel) (pa_cons (pe_callTy (call_dictP rfl) (by rfl) gd (by decide +kernel) (pa_cons
      (pe_lc (own := [("_law_name", 1)]) (g := gName 1) (tt := tYes) rfl ND (pi_list (pv 0)) (blkOk_by (own := [("_law_name", 1)]) (N := ["_law_names", "_law_name"]) (sc := defScope sOnce) (by decide +kernel))
        (fun _ _ _ _ _ => pg_name (i := 1) ND rfl (Or.inl rfl)) (fun _ _ _ _ _ => pts_nil) (fun _ _ _ _ _ => pe_tup (pa_cons (pv 1) (pa_cons pe_bl pa_nil)))) pa_nil)) pa_nil))), ?_⟩
    refine ⟨_, rfl, l, rfl, ⟨_, SqL.of hl⟩, fun D nD => ?_⟩
    have nlD : l ≠ D := ne_of_none hl nD
    refine lc_list (K := K) (a := l) (xs := ns.map V.str) (fun i G => ∃ as : List Addr, Same H G ∧ G D = some (.lst (as.map V.ref)) ∧ Paired (fun (c : Addr) (kv : Key × V) => G c = some (.tup [kV kv.1, kv.2]) ∧ c ≠ D) as ((ns.take i).map fun x => (Sum.inr x, V.bl true)))
      ⟨[], same_upd nD, upd_same, .nil⟩ (fun i G _ ⟨_, sm, _⟩ => SqL.of (sm _ _ hl)) (fun i y G hy hh => ?_) (fun G hh => ?_)
    · obtain ⟨as, sm, hD, hpr⟩ := hh
      obtain ⟨z, hzz, ez⟩ : ∃ z, ns[i]? = some z ∧ V.str z = y := by
        rw [List.getElem?_map] at hy
        exact Option.map_eq_some_iff.mp hy
      subst ez
      have hi : i < ns.length := (List.getElem?_eq_some_iff.mp hzz).1
      refine ⟨rfl, tYes_if ⟨_, rfl, by show 2 ≤ sizeLine; decide, fun t nt => ?_⟩⟩
      have st : Same G (upd G t (.tup [.str z, .bl true])) := same_upd nt
      have ntD : t ≠ D := fun e => by
        rw [e, hD] at nt
        cases nt
      have la := paired_len hpr
      rw [List.length_map, List.length_take] at la
      refine ⟨_, st _ _ hD, by rw [List.length_map]; omega, as ++ [t], same_updN (sm.trans st) nD, ?_, ?_⟩
      · rw [upd_same, List.map_append]
        rfl
      · rw [List.take_add_one, hzz, List.map_append]
        have kp : ∀ (c : Addr) (kv : Key × V), (G c = some (.tup [kV kv.1, kv.2]) ∧ c ≠ D) → (upd (upd G t (.tup [.str z, .bl true])) D (.lst (as.map V.ref ++ [.ref t])) c = some (.tup [kV kv.1, kv.2]) ∧ c ≠ D) := fun c kv h => by
          refine ⟨?_, h.2⟩
          rw [upd_ne h.2]
          exact st _ _ h.1
        refine paired_snoc (paired_mono kp hpr) ⟨?_, ntD⟩
        rw [upd_ne ntD, upd_same]
        rfl
    · obtain ⟨as, sm, hD, hpr⟩ := hh
      rw [List.length_map, List.take_length] at hpr
      refine ⟨D, as, _, rfl, SqL.of hD, paired_mono (fun c kv h => SqT.of h.1) hpr, fun p np => ?_⟩
      refine ⟨p, _, rfl, upd_same, fun r nr => ?_⟩
      refine q _ r (sm.trans ((same_upd np).trans (same_upd nr))) ?_
      rw [upd_same]
      unfold onceS nk mergeK
      rw [List.foldl_map]
end
end My
namespace My
open PySem PySem.Spec PyProof.Rows L2 LX LV LD
/-! ### the law's terms -/
def rX : Str := ⟨(List.replicate (40 : Int).toNat ("x" : Str).cps).foldl (· ++ ·) #[]⟩
def ones : List T := (List.replicate (30 : Int).toNat [T.int 1]).flatten
def some13 : List T := [.int 0, .int 1, .int (-7), .int ((10 : Int) ^ (59 : Int).toNat), .int (3 - (10 : Int) ^ (60 : Int).toNat), .str "", .str "ab", .str rX, .tup [], .tup [.int 1, .str "a"], .tup [.tup [.int 2], .int 3], .tup ones, .int 5]
theorem some_val : ∀ p ∈ some13, isVal p = true := fun p hp => List.all_eq_true.mp (show some13.all isVal = true by decide +kernel) p hp
def tenW : List Str := ["add", "subtract", "multiply", "divide", "less", "equal", "join", "item", "list", "size"]
def abcde : Str := "abcde"
inductive Gt : Nat → T → Prop
  | val {n : Nat} {t : T} : isVal t = true → Gt n (.tup [.str "value", t])
  | name {n : Nat} {x : Str} : isName (.str x) = true → Gt n (.tup [.str "name", .str x])
  | node {n : Nat} {w : Str} {ps : List T} : w ∈ tenW → Wd w ps.length → (∀ t ∈ ps, Gt n t) → Gt (n + 1) (.tup (.str w :: ps))
theorem pick_str {ws : List Str} {r : Int} (h0 : 0 ≤ r) (h1 : r < ws.length) : ∃ w, w ∈ ws ∧ atI (ws.map V.str) r = some (.str w) := by
  obtain ⟨k, rfl⟩ := Int.eq_ofNat_of_zero_le h0
  have hk : k < ws.length := by omega
  exact ⟨ws[k], List.getElem_mem hk, atI_nat (by rw [List.getElem?_map, List.getElem?_eq_getElem hk]; rfl)⟩
theorem pool_upd {H : Hp} {p : Addr} {g m : Int} (h1 : 0 ≤ g) (h2 : 0 ≤ m) (h3 : m < 2147483647) : PoolAt (upd H p (.lst [.int g, .int m])) p := ⟨g, m, upd_same, h1, h2, h3⟩
theorem PoolAt.ne {H : Hp} {p a : Addr} (h : PoolAt H p) (n : H a = none) : a ≠ p := by
  obtain ⟨_, _, ep, _⟩ := h
  exact (ne_of_none ep n).symm
theorem off_same {p : Addr} {H H1 H2 : Hp} (a : Off p H H1) (s : Same H1 H2) : Off p H H2 := a.trans (Off.of_same s)
theorem formW : ∀ (w : Str) (ps : List T), w ∈ tenW → Wd w ps.length → formT (.tup (.str w :: ps)) = true ∧ ¬ w = "value" ∧ ¬ w = "name" := by
  intro w ps hw hd
  have nv : ¬ w = "value" ∧ ¬ w = "name" := by
    have : ∀ w ∈ tenW, ¬ w = "value" ∧ ¬ w = "name" := by decide +kernel
    exact this w hw
  refine ⟨?_, nv⟩
  simp only [formT]
  by_cases h1 : w = "list"
  · rw [if_pos h1]
    rcases hd with h | h | h
    · exact decide_eq_true (by omega)
    · exact absurd (h1.symm.trans h.1) (by decide +kernel)
    · exact decide_eq_true (by omega)
  · rw [if_neg h1, if_neg (fun z => z.elim nv.1 nv.2)]
    refine decide_eq_true ?_
    rcases hd with h | h | ⟨h, h2⟩
    · exact absurd h.1 h1
    · rw [h.1, h.2]
      decide +kernel
    · rw [h]
      rcases h2 with h | h | h | h | h | h | h | h <;> rw [h] <;> decide +kernel
theorem gt_nest : ∀ {n : Nat} {t : T}, Gt n t → ∀ m, n < m → nestT m t = true := by
  intro n t h
  induction h with
  | val hv =>
    intro m hm
    obtain ⟨m', rfl⟩ : ∃ m', m = m' + 1 := ⟨m - 1, by omega⟩
    simp only [nestT, List.all_cons, List.all_nil, Bool.and_true]
    rw [if_pos trivial, hv, Bool.and_true]
    simp only [formT]
    rw [if_neg (by decide +kernel), if_pos (.inl trivial)]
    rfl
  | name hv =>
    intro m hm
    obtain ⟨m', rfl⟩ : ∃ m', m = m' + 1 := ⟨m - 1, by omega⟩
    simp only [nestT, List.all_cons, List.all_nil, Bool.and_true]
    rw [if_neg (by decide +kernel), if_pos trivial, hv, Bool.and_true]
    simp only [formT]
    rw [if_neg (by decide +kernel), if_pos (.inr trivial)]
    rfl
  | node hw hd _ ih =>
    intro m hm
    obtain ⟨m', rfl⟩ : ∃ m', m = m' + 1 := ⟨m - 1, by omega⟩
    obtain ⟨f, n1, n2⟩ := formW _ _ hw hd
    simp only [nestT]
    rw [f, if_neg n1, if_neg n2, Bool.true_and]
    exact List.all_eq_true.mpr fun t ht => ih t ht m' (by omega)
theorem gt_short : ∀ {n : Nat} {t : T}, Gt n t → shortA t := by
  intro n t h
  have v5 : shortA (.str "value") ∧ shortA (.str "name") := by
    unfold shortA
    exact ⟨by decide, by decide⟩
  induction h with
  | val hv =>
    unfold shortA
    refine shortAll_mem.mpr fun t ht => ?_
    rcases List.mem_cons.mp ht with rfl | ht
    · exact v5.1
    · rw [List.mem_singleton.mp ht]
      exact (val_small hv).2
  | name hv =>
    rename_i n x
    unfold shortA
    refine shortAll_mem.mpr fun t ht => ?_
    rcases List.mem_cons.mp ht with rfl | ht
    · exact v5.2
    · rw [List.mem_singleton.mp ht]
      unfold shortA
      simp only [isName, isKey, textS, Bool.and_eq_true, Bool.not_eq_true', decide_eq_false_iff_not] at hv
      have := hv.1.1.1
      omega
  | node hw hd _ ih =>
    rename_i n w ps _
    unfold shortA
    refine shortAll_mem.mpr fun t ht => ?_
    rcases List.mem_cons.mp ht with rfl | ht
    · unfold shortA
      have : ∀ w ∈ tenW, w.length ≤ 1000 := by decide +kernel
      exact this w hw
    · exact ih t ht
theorem scRTerm : FnScope ["_law_pool_here", "_law_depth", "_law_choice", "_law_some", "_law_words", "_law_word", "_law_many", "_law_turn"] ["_law_pool_here", "_law_depth"] (defScope sRTerm) := ⟨rfl, rfl, rfl, by decide +kernel, rfl, by decide +kernel, by decide +kernel⟩
structure TxtT (mg : Str → Option Value) : Prop where
  range : mg "range" = none
  tuple : mg "tuple" = none
def spRT : Nat → Sp
  | 0 => fun vs _ _ _ => vs.length = 2 ∧ False
  | n + 1 => fun vs H Q _ => ∃ (p : Addr), vs = [.ref p, .int n] ∧ PoolAt H p ∧ ∀ (t : T) (v : V) (H' : Hp), Gt n t → Th H' t v → Off p H H' → PoolAt H' p → Q v H'
def manyL (r : Int) : List (Leaf × V) := mergeL [] [(.text "list", .int r), (.text "size", .int 1)]
theorem many_of (r : Int) : ∀ w ∈ tenW, (valV (manyL r) (.text w)).getD (.int 2) = .int (if w = "list" then r else if w = "size" then 1 else 2) := by
  intro w hw
  simp only [tenW, List.mem_cons, List.not_mem_nil, or_false] at hw
  rcases hw with h | h | h | h | h | h | h | h | h | h <;> subst h <;> rfl
theorem abc_names : ∀ i : Fin 5, ∃ c, abcde.cps.toList[i.val]? = some c ∧ isName (.str ⟨#[c]⟩) = true := by
  intro i
  have h : ∀ i : Fin 5, (abcde.cps.toList[i.val]?).isSome = true ∧ isName (.str ⟨#[(abcde.cps.toList[i.val]?).getD 0]⟩) = true := by decide +kernel
  obtain ⟨h1, h2⟩ := h i
  obtain ⟨c, e⟩ := Option.isSome_iff_exists.mp h1
  rw [e] at h2
  exact ⟨c, e, h2⟩
def v13 (e0 e1 e3 e5 : Addr) : List V := [.int 0, .int 1, .int (-7), .int ((10 : Int) ^ (59 : Int).toNat), .int (3 - (10 : Int) ^ (60 : Int).toNat), .str "", .str "ab", .str rX, .ref e0, .ref e1, .ref e3, .ref e5, .int 5]
theorem ones_th {H : Hp} : ThAll H ones ((List.replicate (30 : Int).toNat [V.int 1]).flatten) := by
  have h : ∀ n : Nat, ThAll H (List.replicate n [T.int 1]).flatten (List.replicate n [V.int 1]).flatten := by
    intro n
    induction n with
    | zero => simp [ThAll]
    | succ n ih =>
      simp only [List.replicate_succ, List.flatten_cons, List.cons_append, List.nil_append, ThAll, Th]
      exact ⟨_, _, rfl, rfl, ih⟩
  exact h _
theorem vway13 {H1 : Hp} {e0 e1 e2 e3 e4 e5 : Addr} (n0 : H1 e0 = none) (n1 : upd H1 e0 (.tup []) e1 = none) (n2 : upd (upd H1 e0 (.tup [])) e1 (.tup [.int 1, .str "a"]) e2 = none)
    (n3 : upd (upd (upd H1 e0 (.tup [])) e1 (.tup [.int 1, .str "a"])) e2 (.tup [.int 2]) e3 = none) (n4 : upd (upd (upd (upd H1 e0 (.tup [])) e1 (.tup [.int 1, .str "a"])) e2 (.tup [.int 2])) e3 (.tup [.ref e2, .int 3]) e4 = none)
    (n5 : upd (upd (upd (upd (upd H1 e0 (.tup [])) e1 (.tup [.int 1, .str "a"])) e2 (.tup [.int 2])) e3 (.tup [.ref e2, .int 3])) e4 (.tup [.int 1]) e5 = none) :
    ∃ H2, upd (upd (upd (upd (upd (upd H1 e0 (.tup [])) e1 (.tup [.int 1, .str "a"])) e2 (.tup [.int 2])) e3 (.tup [.ref e2, .int 3])) e4 (.tup [.int 1])) e5 (.tup (List.replicate (30 : Int).toNat [V.int 1]).flatten) = H2 ∧ Same H1 H2 ∧ ThAll H2 some13 (v13 e0 e1 e3 e5) := by
  have s0 : Same H1 (upd H1 e0 (.tup [])) := same_upd n0
  have t0 : (upd H1 e0 (.tup [])) e0 = some (.tup []) := upd_same
  generalize upd H1 e0 (.tup []) = G0 at *
  have s1 : Same G0 (upd G0 e1 (.tup [.int 1, .str "a"])) := same_upd n1
  have t1 : (upd G0 e1 (.tup [.int 1, .str "a"])) e1 = some (.tup [.int 1, .str "a"]) := upd_same
  generalize upd G0 e1 (.tup [.int 1, .str "a"]) = G1 at *
  have s2 : Same G1 (upd G1 e2 (.tup [.int 2])) := same_upd n2
  have t2 : (upd G1 e2 (.tup [.int 2])) e2 = some (.tup [.int 2]) := upd_same
  generalize upd G1 e2 (.tup [.int 2]) = G2 at *
  have s3 : Same G2 (upd G2 e3 (.tup [.ref e2, .int 3])) := same_upd n3
  have t3 : (upd G2 e3 (.tup [.ref e2, .int 3])) e3 = some (.tup [.ref e2, .int 3]) := upd_same
  generalize upd G2 e3 (.tup [.ref e2, .int 3]) = G3 at *
  have s4 : Same G3 (upd G3 e4 (.tup [.int 1])) := same_upd n4
  generalize upd G3 e4 (.tup [.int 1]) = G4 at *
  have s5 : Same G4 (upd G4 e5 (.tup (List.replicate (30 : Int).toNat [V.int 1]).flatten)) := same_upd n5
  have t5 : (upd G4 e5 (.tup (List.replicate (30 : Int).toNat [V.int 1]).flatten)) e5 = some (.tup (List.replicate (30 : Int).toNat [V.int 1]).flatten) := upd_same
  generalize upd G4 e5 (.tup (List.replicate (30 : Int).toNat [V.int 1]).flatten) = G5 at *
  have s34 := s3.trans (s4.trans s5)
  refine ⟨G5, rfl, (s0.trans s1).trans (s2.trans s34), ?_⟩
  have u0 := s34 _ _ (s2 _ _ (s1 _ _ t0))
  have u1 := s34 _ _ (s2 _ _ t1)
  have u2 := s34 _ _ t2
  have u3 := (s4.trans s5) _ _ t3
  have h8 : Th G5 (.tup []) (.ref e0) := thTup u0 (by show 0 < 1000; decide) (by simp [ThAll])
  have h9 : Th G5 (.tup [.int 1, .str "a"]) (.ref e1) := thTup u1 (by show 2 < 1000; decide) (by simp only [ThAll, Th]; exact ⟨_, _, rfl, rfl, _, _, rfl, rfl, rfl⟩)
  have h2 : Th G5 (.tup [.int 2]) (.ref e2) := thTup u2 (by show 1 < 1000; decide) (by simp only [ThAll, Th]; exact ⟨_, _, rfl, rfl, rfl⟩)
  have h10 : Th G5 (.tup [.tup [.int 2], .int 3]) (.ref e3) := thTup u3 (by show 2 < 1000; decide) (by unfold ThAll; refine ⟨_, _, rfl, h2, ?_⟩; simp only [ThAll, Th]; exact ⟨_, _, rfl, rfl, rfl⟩)
  have h11 : Th G5 (.tup ones) (.ref e5) := thTup t5 (by decide) ones_th
  have c1 : ∀ {t : T} {v : V} {ts : List T} {vs : List V}, Th G5 t v → ThAll G5 ts vs → ThAll G5 (t :: ts) (v :: vs) := fun a b => by
    unfold ThAll
    exact ⟨_, _, rfl, a, b⟩
  have c0 : ThAll G5 [] [] := by simp [ThAll]
  exact c1 thInt (c1 thInt (c1 thInt (c1 thInt (c1 thInt (c1 thStr (c1 thStr (c1 thStr (c1 h8 (c1 h9 (c1 h10 (c1 h11 (c1 thInt c0))))))))))))
section
variable {P : Program} {w : World} {K : PySem.W.Frag} {mg : Str → Option Value} {base : Heap}
theorem ok_rterm {f fD : Addr} {fd fdD : FuncData} (F : Fun K "_law_random_term" "_law_random_term" sRTerm f fd) (bF : Binds K fd ["_law_pool_here", "_law_depth"] []) (gF : mg "_law_random_term" = some (.ref f))
    (FD : Fun K "_law_draw" "_law_draw" sDraw fD fdD) (bD : Binds K fdD ["_law_pool_here", "_law_many"] []) (gD : mg "_law_draw" = some (.ref fD)) (TT : TxtT mg) :
    ∀ n : Nat, n ≤ 20 → FnOk P w K mg base CX0 (n + 2) f fd ["_law_pool_here", "_law_depth"] (spRT n) := by
  have GD : FnOk P w K mg base CX0 1 fD fdD ["_law_pool_here", "_law_many"] spDraw := ok_draw FD
  intro n
  induction n with
  | zero => exact fun _ => F.ok scRTerm (fun vs H Q E h => h.1) (fun cdv A outer s H vs Q E hr h => h.2.elim)
  | succ n ih =>
    intro hn
    have GR := ih (by omega)
    refine F.ok scRTerm (fun vs H Q E h => ?_) (fun cdv A outer s H vs Q E hr h => ?_)
    · obtain ⟨p, rfl, _⟩ := h
      rfl
    · obtain ⟨p, rfl, hp, q⟩ := h
      have ND := scRTerm.nd
      have hr1 : Room 1 _ := hr.mono (by omega)
      refine ⟨_, C8.pss_cut (ps_set (i := 2) ND rfl (.inl rfl) (pe_call GD hr1 rfl gD FD.kp bD .nil pass0 (pa_cons (pv 0) (pa_cons (pe_ifExp (pt_cmpR op_gt (pv 1) pe_int (nomark _)) pe_int pe_int) pa_nil))))
        (pss_cons (ps_if (pt_cmpR op_eq (pv 2) pe_int (nomark _))
            (pss_cons (ps_set (i := 3) ND rfl (.inl rfl) (pe_lst (pa_cons pe_int (pa_cons pe_int (pa_cons (pe_un un_neg pe_int) (pa_cons (pe_op op_pow pe_int pe_int) (pa_cons (pe_op op_sub pe_int (pe_op op_pow pe_int pe_int)) (pa_cons pe_str (pa_cons pe_str (pa_cons (pe_op LT.op_repS pe_str pe_int)
                (pa_cons (pe_tup pa_nil) (pa_cons (pe_tup (pa_cons pe_int (pa_cons pe_str pa_nil))) (pa_cons (pe_tup (pa_cons (pe_tup (pa_cons pe_int pa_nil)) (pa_cons pe_int pa_nil))) (pa_cons (pe_op op_repT (pe_tup (pa_cons pe_int pa_nil)) pe_int) (pa_cons pe_int pa_nil)))))))))))))))
            (pss_one (ps_ret (pe_tup (pa_cons pe_str (pa_cons (pe_ix ix_list (pv 3) (pe_call GD hr1 rfl gD FD.kp bD .nil pass0 (pa_cons (pv 0) (pa_cons pe_int pa_nil))) (fun _ _ => rfl)) pa_nil)))))) pss_nil)
        (pss_cons (ps_if (pt_cmpR op_eq (pv 2) pe_int (nomark _)) (pss_one (ps_ret (pe_tup (pa_cons pe_str (pa_cons (pe_ix ix_str pe_str (pe_call GD hr1 rfl gD FD.kp bD .nil pass0 (pa_cons (pv 0) (pa_cons pe_int pa_nil))) (fun _ _ => rfl)) pa_nil))))) pss_nil)
        (pss_cons (ps_set (i := 4) ND rfl (.inl rfl) (pe_lst (pa_cons pe_str (pa_cons pe_str (pa_cons pe_str (pa_cons pe_str (pa_cons pe_str (pa_cons pe_str (pa_cons pe_str (pa_cons pe_str (pa_cons pe_str (pa_cons pe_str pa_nil))))))))))))
        (C8.pss_cut (ps_set (i := 5) ND rfl (.inl rfl) (pe_ix ix_list (pv 4) (pe_call GD hr1 rfl gD FD.kp bD .nil pass0 (pa_cons (pv 0) (pa_cons pe_int pa_nil))) (fun _ _ => rfl)))
        (C8.pss_cut (ps_set (i := 6) ND rfl (.inl rfl) (pe_getL (pe_dispL (pps_cons pe_str (pe_call GD hr1 rfl gD FD.kp bD .nil pass0 (pa_cons (pv 0) (pa_cons pe_int pa_nil))) (pps_cons pe_str pe_int pps_nil)) (by rfl) (by rfl) (fun z => by cases z) (by decide)) (pv 5) pe_int ⟨by rfl, by rfl, by rfl, by rfl⟩))
        (pss_one (ps_ret (pe_op op_catA (pe_tup (pa_cons (pv 5) pa_nil)) (pe_callTy call_tuple_of (by rfl) TT.tuple (by decide +kernel) (pa_cons
          (pe_lc (own := [("_law_turn", 7)]) (g := gName 7) (tt := tYes) rfl ND (pi_range1 rfl TT.range (pa_cons (pv 6) pa_nil))
            (blkOk_by (own := [("_law_turn", 7)]) (N := ["_law_pool_here", "_law_depth", "_law_choice", "_law_some", "_law_words", "_law_word", "_law_many", "_law_turn"]) (sc := defScope sRTerm) (by decide +kernel))
            (fun _ _ _ _ _ => pg_name (i := 7) ND rfl (Or.inl rfl)) (fun _ _ _ _ _ => pts_nil)
            (fun _ _ _ _ _ => pe_call GR hr rfl gF F.kp bF .nil pass0 (pa_cons (pv 0) (pa_cons (pe_op op_sub (pv 1) pe_int) pa_nil)))) pa_nil)))))))))), ?_⟩
      refine ⟨fun σ' H' => ∃ c : Int, σ' = [some (.ref p), some (.int n), some (.int c), none, none, none, none, none] ∧ 0 ≤ c ∧ (n = 0 → c < 2) ∧ PoolAt H' p ∧ Off p H H', ?_, ?_⟩
      · refine ⟨_, rfl, _, rfl, _, _, rfl, rfl, _, rfl, ?_⟩
        refine ite2 (fun hc => ?_) (fun hc => ?_)
        · have hc' := of_decide_eq_true hc
          exact ⟨p, 4, rfl, by decide, by decide, hp, fun r g m h0 h1 hg hm hm2 => ⟨r, rfl, h0, fun z => absurd hc' (by omega), pool_upd hg hm hm2, Off.upd⟩⟩
        · exact ⟨p, 2, rfl, by decide, by decide, hp, fun r g m h0 h1 hg hm hm2 => ⟨r, rfl, h0, fun z => h1, pool_upd hg hm hm2, Off.upd⟩⟩
      rintro σ' H1 ⟨c, rfl, hc0, hc2, hp1, o1⟩
      refine ⟨_, rfl, rfl, _, rfl, ?_⟩
      by_cases hz : c = 0
      · rw [decide_eq_true (by rw [hz])]
        refine iteT ⟨_, rfl, _, _, rfl, rfl, ⟨by decide, by decide, by decide⟩, _, _, rfl, rfl, ⟨by decide, by decide, by decide⟩, _, _, rfl, rfl, _, _, rX, rfl, rfl, by decide, by decide, by decide +kernel, by decide +kernel, rfl, by decide +kernel, by show 0 ≤ sizeLine; decide, fun e0 n0 => ⟨by show 2 ≤ sizeLine; decide, fun e1 n1 =>
          ⟨by show 1 ≤ sizeLine; decide, fun e2 n2 => ⟨by show 2 ≤ sizeLine; decide, fun e3 n3 => ⟨by show 1 ≤ sizeLine; decide, fun e4 n4 => ⟨e4, 30, _, rfl, rfl, SqT.of upd_same, by simp, by decide, by decide, by decide, fun e5 n5 => ⟨by show 13 ≤ sizeLine; decide, fun l nl => ?_⟩⟩⟩⟩⟩⟩⟩
        obtain ⟨H3, eH, sm, hall⟩ := vway13 (H1 := H1) n0 n1 n2 n3 n4 n5
        have nl' : H3 l = none := by
          rw [← eH]
          exact nl
        refine ⟨_, rfl, _, rfl, p, 13, rfl, by decide, by decide, ?_, fun r g m h0 h1 hg hm hm2 => ?_⟩
        · rw [eH]
          exact (hp1.same sm).same (same_upd nl')
        rw [eH]
        obtain ⟨k, rfl⟩ := Int.eq_ofNat_of_zero_le h0
        have hk : k < some13.length := by
          have : some13.length = 13 := rfl
          omega
        have hp3 : PoolAt (upd H3 l (.lst (v13 e0 e1 e3 e5))) p := (hp1.same sm).same (same_upd nl')
        have ml : Mild H3 (upd (upd H3 l (.lst (v13 e0 e1 e3 e5))) p (.lst [V.int g, V.int m])) := (Mild.of_same (same_upd nl')).trans (Mild.off Off.upd hp3 (pool_upd hg hm hm2))
        obtain ⟨t, v, e1', e2', ht⟩ := thAll_get (ml.thAll hall) hk
        refine ⟨l, _, _, v, rfl, rfl, SqL.of ?_, atI_nat e2', by show 2 ≤ sizeLine; decide, fun tt ntt => ?_⟩
        · rw [upd_ne ((hp1.same sm).ne nl'), upd_same]
          rfl
        · refine q _ _ _ (.val (some_val _ (List.mem_of_getElem? e1'))) (thTup upd_same (by show 2 < 1000; decide) ?_) ?_ ((pool_upd hg hm hm2).same (same_upd ntt))
          · have h3 := Th.same (same_upd (o := .tup [.str "value", v]) ntt) _ _ ht
            simp only [ThAll]
            exact ⟨_, _, rfl, thStr, _, _, rfl, h3, rfl⟩
          · exact off_same ((off_same (off_same o1 sm) (same_upd nl')).trans Off.upd) (same_upd ntt)
      rw [decide_eq_false fun z => hz (V.int.inj z)]
      refine iteF ⟨_, rfl, rfl, _, rfl, ?_⟩
      by_cases hone : c = 1
      · rw [decide_eq_true (by rw [hone])]
        refine iteT ⟨_, rfl, p, 5, rfl, by decide, by decide, hp1, fun r g m h0 h1 hg hm hm2 => ?_⟩
        obtain ⟨k, rfl⟩ := Int.eq_ofNat_of_zero_le h0
        obtain ⟨ch, hch, hn⟩ := abc_names ⟨k, by omega⟩
        refine ⟨abcde, _, ch, rfl, rfl, by decide, atI_nat hch, by show 2 ≤ sizeLine; decide, fun t nt => ?_⟩
        refine q _ _ _ (.name hn) (thTup upd_same (by show 2 < 1000; decide) ?_) (off_same (o1.trans Off.upd) (same_upd nt)) ((pool_upd hg hm hm2).same (same_upd nt))
        simp only [ThAll, Th]
        exact ⟨_, _, rfl, rfl, _, _, rfl, rfl, rfl⟩
      rw [decide_eq_false fun z => hone (V.int.inj z)]
      refine iteF ?_
      obtain ⟨n', rfl⟩ : ∃ n', n = n' + 1 := by
        cases n with
        | zero => exact absurd (hc2 rfl) (by omega)
        | succ n' => exact ⟨n', rfl⟩
      refine ⟨by show 10 ≤ sizeLine; decide, fun l nl => ?_⟩
      refine ⟨fun σ' H' => ∃ w : Str, σ' = [some (.ref p), some (.int (n' + 1 : Nat)), some (.int c), none, some (.ref l), some (.str w), none, none] ∧ w ∈ tenW ∧ PoolAt H' p ∧ Off p H H', ?_, ?_⟩
      · refine ⟨_, rfl, _, rfl, p, 10, rfl, by decide, by decide, hp1.same (same_upd nl), fun r g m h0 h1 hg hm hm2 => ?_⟩
        obtain ⟨x, hx, ex⟩ := pick_str (ws := tenW) h0 h1
        refine ⟨l, _, r, .str x, rfl, rfl, SqL.of ?_, ex, ?_⟩
        · rw [upd_ne (hp1.ne nl), upd_same]
          rfl
        · exact ⟨x, rfl, hx, pool_upd hg hm hm2, (off_same o1 (same_upd nl)).trans Off.upd⟩
      rintro σ' H2 ⟨w0, rfl, hw, hp2, o2⟩
      refine ⟨fun σ' H' => ∃ m : Nat, σ' = [some (.ref p), some (.int (n' + 1 : Nat)), some (.int c), none, some (.ref l), some (.str w0), some (.int m), none] ∧ Wd w0 m ∧ PoolAt H' p ∧ Off p H H', ?_, ?_⟩
      · intro d nd
        have ndp := hp2.ne nd
        refine ⟨_, rfl, p, 5, rfl, by decide, by decide, hp2.same (same_upd nd), fun r g m h0 h1 hg hm hm2 => ?_⟩
        refine ⟨by rw [upd_ne ndp, upd_same], [(.text "list", .int r), (.text "size", .int 1)], .cons ⟨rfl, rfl⟩ (.cons ⟨rfl, rfl⟩ .nil), d, _, rfl, upd_same, .str w0, rfl, upd_same, .text w0, rfl, ?_⟩
        have hoff : Off p H2 (upd (upd (upd H2 d (dlO P w d [])) p (.lst [V.int g, V.int m])) d (dlO P w d (manyL r))) := fun b o nb eb => by
          rw [upd_ne (ne_of_none eb nd), upd_ne nb, upd_ne (ne_of_none eb nd)]
          exact eb
        have hpool : PoolAt (upd (upd (upd H2 d (dlO P w d [])) p (.lst [V.int g, V.int m])) d (dlO P w d (manyL r))) p := ⟨g, m, by rw [upd_ne ndp.symm, upd_same], hg, hm, hm2⟩
        have em := many_of r w0 hw
        obtain ⟨k, rfl⟩ := Int.eq_ofNat_of_zero_le h0
        have key : ∃ m0 : Nat, (if w0 = "list" then (k : Int) else if w0 = "size" then 1 else 2) = (m0 : Int) ∧ Wd w0 m0 := by
          by_cases h1 : w0 = "list"
          · exact ⟨k, by rw [if_pos h1], .inl ⟨h1, by omega⟩⟩
          · by_cases h2 : w0 = "size"
            · exact ⟨1, by rw [if_neg h1, if_pos h2]; rfl, .inr (.inl ⟨h2, rfl⟩)⟩
            · refine ⟨2, by rw [if_neg h1, if_neg h2]; rfl, .inr (.inr ⟨rfl, ?_⟩)⟩
              simp only [tenW, List.mem_cons, List.not_mem_nil, or_false] at hw
              rcases hw with h | h | h | h | h | h | h | h | h | h
              · exact .inl h
              · exact .inr (.inl h)
              · simp [h]
              · simp [h]
              · simp [h]
              · simp [h]
              · simp [h]
              · simp [h]
              · exact absurd h h1
              · exact absurd h h2
        obtain ⟨m0, e0, hwd⟩ := key
        rw [e0] at em
        refine ⟨m0, ?_, hwd, hpool, o2.trans hoff⟩
        show _ = _
        rw [show (valV (mergeL [] [(Leaf.text "list", V.int (k : Int)), (Leaf.text "size", V.int 1)]) (.text w0)).getD (.int 2) = .int (m0 : Int) from em]
        rfl
      rintro σ' H3 ⟨m0, rfl, hwd, hp3, o3⟩
      have hm10 := wd_ten hwd
      refine ⟨_, rfl, by show 1 ≤ sizeLine; decide, fun t1 nt1 => ?_⟩
      have sm1 : Same H3 (upd H3 t1 (.tup [.str w0])) := same_upd nt1
      have ht1 : (upd H3 t1 (.tup [.str w0])) t1 = some (.tup [.str w0]) := upd_same
      have nt1p := hp3.ne nt1
      have hp3' := hp3.same sm1
      have o3' := off_same o3 sm1
      generalize upd H3 t1 (.tup [.str w0]) = G at *
      refine ⟨_, rfl, (m0 : Int), rfl, by omega, by omega, fun D hD => ?_⟩
      have nDp := hp3'.ne hD
      refine lc_range (lo := 0) (n := (m0 : Int).toNat) (fun i H' => ∃ (acc : List V) (ts : List T), H' D = some (.lst acc) ∧ ThAll H' ts acc ∧ ts.length = i ∧ (∀ t ∈ ts, Gt n' t) ∧ Off p G H' ∧ PoolAt H' p)
        ⟨[], [], upd_same, by simp [ThAll], rfl, fun t ht => (nomatch ht), Off.of_same (same_upd hD), hp3'.same (same_upd hD)⟩ (fun i H' hi hPv => ?_) (fun H' hPv => ?_)
      · obtain ⟨acc, ts, hDl, hth, hts, hgd, off, hpp⟩ := hPv
        refine ⟨rfl, tYes_if ?_⟩
        refine ⟨_, rfl, _, rfl, _, _, rfl, rfl, p, ?_, hpp, fun t v H4 ht hv o4 hp4 => ?_⟩
        · exact congrArg (fun z => [V.ref p, V.int z]) (show ((n' + 1 : Nat) : Int) - 1 = ((n' : Nat) : Int) by omega)
        have hD4 : H4 D = some (.lst acc) := o4 _ _ nDp hDl
        have ml : Mild H' H4 := Mild.off o4 hpp hp4
        have hacc := thAll_len hth
        refine ⟨acc, hD4, small1000 (by omega), acc ++ [v], ts ++ [t], upd_same, ?_, by rw [List.length_append, List.length_singleton, hts], ?_, ?_, ?_⟩
        · exact (Mild.updL hD4).thAll (thAll_snoc hv (ml.thAll hth))
        · intro u hu
          rcases List.mem_append.mp hu with hu | hu
          · exact hgd u hu
          · rw [List.mem_singleton.mp hu]
            exact ht
        · intro b o nb eb
          rw [upd_ne (ne_of_none eb hD)]
          exact (off.trans o4) b o nb eb
        · obtain ⟨g3, m3, e3, r3⟩ := hp4
          exact ⟨g3, m3, by rw [upd_ne nDp.symm]; exact e3, r3⟩
      · obtain ⟨acc, ts, hDl, hth, hts, hgd, off, hpp⟩ := hPv
        have hacc := thAll_len hth
        rw [Int.toNat_natCast] at hts
        refine ⟨D, acc, rfl, .inl ⟨SqL.of hDl, fun t2 nt2 => ?_⟩⟩
        have sm2 : Same H' (upd H' t2 (.tup acc)) := same_upd nt2
        refine catA_of (sm2 _ _ (off _ _ nt1p ht1)) upd_same (by simp only [List.length_singleton]; omega) fun r H5 sm3 hr3 => ?_
        have smA := sm2.trans sm3
        refine q _ _ _ (.node (ps := ts) hw (by rw [hts]; exact hwd) hgd) (thTup hr3 (by simp only [List.length_append, List.length_singleton]; omega) ?_) (off_same (o3'.trans off) smA) (hpp.same smA)
        simp only [List.cons_append, List.nil_append, ThAll]
        exact ⟨_, _, rfl, thStr, ThAll.same smA _ _ hth⟩
end
end My
namespace My
open PySem PySem.Spec PyProof.Rows L2 LX LV LD
abbrev sLaw : Stmt := top 52
/-! ### the nested lists -/
theorem scNst : FnScope ["_law_levels", "_law_found", "_law_turn"] ["_law_levels"] (defScope sNest) := ⟨rfl, rfl, rfl, by decide +kernel, rfl, by decide +kernel, by decide +kernel⟩
def nst : Nat → T
  | 0 => .tup []
  | n + 1 => .tup [nst n]
def spNst : Sp := fun vs H Q _ => ∃ n : Nat, vs = [.int n] ∧ n ≤ 10 ∧ ∀ H' v, Same H H' → Th H' (nst n) v → Q v H'
theorem tc_nil {H : Hp} : ThAll H [] [] := by simp [ThAll]
theorem tc_cons {H : Hp} {t : T} {v : V} {ts : List T} {vs : List V} (a : Th H t v) (b : ThAll H ts vs) : ThAll H (t :: ts) (v :: vs) := by
  unfold ThAll
  exact ⟨_, _, rfl, a, b⟩
theorem passNo {P : Program} {w : World} {X : Cx} : Passes (L2.CX P w) X E0 := fun _ _ _ _ _ _ _ h => by
  obtain ⟨_, _, _, _, _, _, _, _, _, _, _, _, h⟩ := h
  exact h.elim
theorem NeV_tup {K : PySem.W.Frag} {H : Hp} {a b : Addr} {xs ys : List V} {n : Nat} {e : Nat → Bool} (ha : SqT K H a xs) (hb : SqT K H b ys) (he : ∀ i x y, xs[i]? = some x → ys[i]? = some y → EqV K H n x y (e i)) :
    NeV K H (n + 1) (.ref a) (.ref b) (!((List.range (min xs.length ys.length)).all e && xs.length == ys.length)) := by
  intro X pins σ s hK I v u rv ru A hu
  subst hK
  obtain rfl : v = Value.ref a := rv
  obtain rfl : u = Value.ref b := ru
  obtain ⟨its, r1, p1, _⟩ := I.tuple ha
  obtain ⟨its2, r2, p2, _⟩ := I.tuple hb
  have l1 := r1.length
  have l2 := r2.length
  have hz : xs.length = its.toArray.size := by rw [List.size_toArray, l1]
  have hz2 : ys.length = its2.toArray.size := by rw [List.size_toArray, l2]
  rw [hz, hz2]
  refine SeqAt.RcNeAt.tuples (e := e) p1 p2 (by omega) fun j h1 h2 => ?_
  rw [List.size_toArray] at h1 h2
  have hx : xs[j]? = some (xs[j]'(by omega)) := List.getElem?_eq_getElem (by omega)
  have hy : ys[j]? = some (ys[j]'(by omega)) := List.getElem?_eq_getElem (by omega)
  obtain ⟨v1, e1, q1⟩ := r1.get hx
  obtain ⟨v2, e2, q2⟩ := r2.get hy
  have f1 : its.toArray[j] = v1 := by
    have := List.getElem?_eq_getElem h1
    rw [e1] at this
    simpa using (Option.some.inj this).symm
  have f2 : its2.toArray[j] = v2 := by
    have := List.getElem?_eq_getElem h2
    rw [e2] at this
    simpa using (Option.some.inj this).symm
  rw [f1, f2]
  exact he j _ _ hx hy X pins σ s rfl I v1 v2 q1 q2 A.in1 (by show A.units + 1 + n < cLine; omega)
theorem eq_str {K : PySem.W.Frag} {H : Hp} {n : Nat} (x : Str) : EqV K H n (.str x) (.str x) true := by
  have f := EqV.flat (K := K) (H := H) (n := n) (x := .str x) (y := .str x) rfl rfl
  rw [show eqV (.str x) (.str x) = true from beq_self_eq_true x] at f
  exact f
theorem ne_two {K : PySem.W.Frag} {H : Hp} {l q : Addr} {a x y : V} (hl : H l = some (.lst [a, x])) (hq : H q = some (.lst [a, y])) (h1 : EqV K H 59 a a true) (h2 : EqV K H 59 x y true) : NeV K H 60 (.ref l) (.ref q) false :=
  NeV.lst (e := fun _ => true) (SqL.of hl) (SqL.of hq) rfl fun i p r hp hr => by
    match i, hp, hr with
    | 0, hp, hr =>
      cases hp
      cases hr
      exact h1
    | 1, hp, hr =>
      cases hp
      cases hr
      exact h2
    | i + 2, hp, _ => exact absurd hp (by simp)
theorem ne_pair {K : PySem.W.Frag} {H : Hp} {l q : Addr} {a b : Str} (hl : H l = some (.tup [.str a, .str b])) (hq : H q = some (.tup [.str a, .str b])) : NeV K H 60 (.ref l) (.ref q) false :=
  NeV_tup (n := 59) (e := fun _ => true) (SqT.of hl) (SqT.of hq) fun i p r hp hr => by
    match i, hp, hr with
    | 0, hp, hr =>
      cases hp
      cases hr
      exact eq_str a
    | 1, hp, hr =>
      cases hp
      cases hr
      exact eq_str b
    | i + 2, hp, _ => exact absurd hp (by simp)
theorem eq_kV {K : PySem.W.Frag} {H : Hp} {n : Nat} (k : Key) : EqV K H n (kV k) (kV k) true := by
  cases k with
  | inl i =>
    have f := EqV.flat (K := K) (H := H) (n := n) (x := .int i) (y := .int i) rfl rfl
    rw [show eqV (.int i) (.int i) = true from beq_self_eq_true i] at f
    exact f
  | inr x => exact eq_str x
theorem all_true (n : Nat) : (!(List.range n).all fun _ => true) = false := by simp
theorem ne_once {K : PySem.W.Frag} {H : Hp} {l q : Addr} {ns : List Str} (hl : H l = some (.lst (onceS ns))) (hq : H q = some (.lst (onceS ns))) : NeV K H 60 (.ref l) (.ref q) false := by
  have r := NeV.lst (K := K) (n := 59) (e := fun _ => true) (SqL.of hl) (SqL.of hq) rfl fun i p r hp hr => by
    obtain rfl : p = r := Option.some.inj (hp.symm.trans hr)
    unfold onceS at hp
    rw [List.getElem?_map] at hp
    obtain ⟨kv, _, rfl⟩ := Option.map_eq_some_iff.mp hp
    exact eq_kV kv.1
  rw [all_true] at r
  exact r
def deep4 : T := .tup [.str "list", .tup [.str "value", nst 4]]
def deep3 : T := .tup [.str "list", .tup [.str "value", nst 3]]
theorem deep_ok : nestT 8 deep4 = true ∧ nestT 8 deep3 = true := by decide +kernel
theorem deep4_ev : evA 8 (envP []) deep4 = .fail "size" := by
  have h : (match evA 8 (envP []) deep4 with | .fail r => decide (r = "size") | .val _ => false) = true := by decide +kernel
  cases e : evA 8 (envP []) deep4 with
  | fail r =>
    rw [e] at h
    have h2 := of_decide_eq_true h
    rw [h2]
  | val u =>
    rw [e] at h
    exact absurd h Bool.false_ne_true
theorem deep3_ev : ∃ u, evA 8 (envP []) deep3 = .val u := by
  have h : (match evA 8 (envP []) deep3 with | .fail r => false | .val _ => true) = true := by decide +kernel
  cases e : evA 8 (envP []) deep3 with
  | fail r =>
    rw [e] at h
    exact absurd h Bool.false_ne_true
  | val u => exact ⟨u, rfl⟩
theorem deep_short : shortA deep4 ∧ shortA deep3 := by
  unfold deep4 deep3
  simp only [nst, shortA, shortAll]
  decide +kernel
theorem vars0 : varsOk [] = true := rfl
/-! ### the variables of the law -/
def three : List T := [.tup [.int 1, .int 2], .tup [], .tup [.str "a", .tup [.int 1]]]
def bWords : List Str := ["ab", "", "q7"]
def given (i : Int) (x : Str) (t : T) : List (L2.Key × T) := [(.inr "a", .int i), (.inr "b", .str x), (.inr "c", t)]
theorem three_ok : ∀ t ∈ three, isVal t = true := fun p hp => List.all_eq_true.mp (show three.all isVal = true by decide +kernel) p hp
theorem bw_ok : ∀ x ∈ bWords, isVal (.str x) = true := by decide +kernel
theorem int_ok {i : Int} (h1 : -4 ≤ i) (h2 : i ≤ 4) : isVal (.int i) = true := by
  show (decide (-(10 ^ 60) < i) && decide (i < 10 ^ 60)) = true
  rw [decide_eq_true (by omega), decide_eq_true (by omega)]
  rfl
theorem given_ok {i : Int} {x : Str} {t : T} (h1 : -4 ≤ i) (h2 : i ≤ 4) (hx : x ∈ bWords) (ht : t ∈ three) : varsOk (given i x t) = true := by
  have k : isKey (.str "a") = true ∧ isKey (.str "b") = true ∧ isKey (.str "c") = true ∧ isName (.str "a") = true ∧ isName (.str "b") = true ∧ isName (.str "c") = true := by decide +kernel
  have e : varsOk (given i x t) = (((isKey (.str "a") && isVal (.int i)) && ((isKey (.str "b") && isVal (.str x)) && ((isKey (.str "c") && isVal t) && true))) && (isName (.str "a") && (isName (.str "b") && (isName (.str "c") && true)))) := rfl
  rw [e, k.1, k.2.1, k.2.2.1, k.2.2.2.1, k.2.2.2.2.1, k.2.2.2.2.2, int_ok h1 h2, bw_ok x hx, three_ok t ht]
  rfl
theorem kab : ¬ ((.inr "a" : Key) = .inr "b") ∧ ¬ ((.inr "a" : Key) = .inr "c") ∧ ¬ ((.inr "b" : Key) = .inr "c") := by decide +kernel
theorem merge_ab {u v : V} : mergeK [] [((.inr "a" : Key), u), (.inr "b", v)] = [(.inr "a", u), (.inr "b", v)] := by
  unfold mergeK
  simp only [List.foldl_cons, List.foldl_nil]
  have e1 : putK ([] : List (Key × V)) (.inr "a") u = [(.inr "a", u)] := rfl
  rw [e1]
  unfold putK
  rw [if_neg]
  · rfl
  · simp only [List.any_cons, List.any_nil]
    rw [decide_eq_false kab.1]
    exact Bool.noConfusion
theorem put_c {u v z : V} : putK [((.inr "a" : Key), u), (.inr "b", v)] (.inr "c") z = [(.inr "a", u), (.inr "b", v), (.inr "c", z)] := by
  unfold putK
  rw [if_neg]
  · rfl
  · simp only [List.any_cons, List.any_nil]
    rw [decide_eq_false kab.2.1, decide_eq_false kab.2.2]
    exact Bool.noConfusion
theorem three_noD : ∀ t ∈ three, noD t := by
  intro t ht
  simp only [three, List.mem_cons, List.not_mem_nil, or_false] at ht
  rcases ht with rfl | rfl | rfl <;> simp [noD]
theorem given_dk {H : Hp} {d : Addr} {i : Int} {x : Str} {t : T} {v : V} (hd : H d = some (.dK [(.inr "a", .int i), (.inr "b", .str x), (.inr "c", v)])) (hx : x ∈ bWords) (ht : t ∈ three) (hv : Th H t v) : DkAt H d (given i x t) := by
  refine ⟨_, hd, .cons ⟨rfl, thInt⟩ (.cons ⟨rfl, thStr⟩ (.cons ⟨rfl, hv⟩ .nil)), by show 3 ≤ 1000; decide, fun p hp => ?_⟩
  simp only [given, List.mem_cons, List.not_mem_nil, or_false] at hp
  rcases hp with rfl | rfl | rfl
  · exact ⟨by show (1 : Nat) ≤ 1000; decide, by unfold shortA; exact True.intro, by unfold noD; exact True.intro⟩
  · exact ⟨by show (1 : Nat) ≤ 1000; decide, (val_small (bw_ok x hx)).2, by unfold noD; exact True.intro⟩
  · exact ⟨by show (1 : Nat) ≤ 1000; decide, (val_small (three_ok t ht)).2, three_noD t ht⟩
end My
namespace My
open PySem PySem.Spec PyProof.Rows L2 LX LV LD
theorem vway3 {H1 : Hp} {e0 e1 e2 e3 : Addr} (n0 : H1 e0 = none) (n1 : upd H1 e0 (.tup [.int 1, .int 2]) e1 = none) (n2 : upd (upd H1 e0 (.tup [.int 1, .int 2])) e1 (.tup []) e2 = none) (n3 : upd (upd (upd H1 e0 (.tup [.int 1, .int 2])) e1 (.tup [])) e2 (.tup [.int 1]) e3 = none) :
    ∃ H2, upd (upd (upd (upd H1 e0 (.tup [.int 1, .int 2])) e1 (.tup [])) e2 (.tup [.int 1])) e3 (.tup [.str "a", .ref e2]) = H2 ∧ Same H1 H2 ∧ ThAll H2 three [.ref e0, .ref e1, .ref e3] := by
  have s0 : Same H1 (upd H1 e0 (.tup [.int 1, .int 2])) := same_upd n0
  have t0 : (upd H1 e0 (.tup [.int 1, .int 2])) e0 = some (.tup [.int 1, .int 2]) := upd_same
  generalize upd H1 e0 (.tup [.int 1, .int 2]) = G0 at *
  have s1 : Same G0 (upd G0 e1 (.tup [])) := same_upd n1
  have t1 : (upd G0 e1 (.tup [])) e1 = some (.tup []) := upd_same
  generalize upd G0 e1 (.tup []) = G1 at *
  have s2 : Same G1 (upd G1 e2 (.tup [.int 1])) := same_upd n2
  have t2 : (upd G1 e2 (.tup [.int 1])) e2 = some (.tup [.int 1]) := upd_same
  generalize upd G1 e2 (.tup [.int 1]) = G2 at *
  have s3 : Same G2 (upd G2 e3 (.tup [.str "a", .ref e2])) := same_upd n3
  have t3 : (upd G2 e3 (.tup [.str "a", .ref e2])) e3 = some (.tup [.str "a", .ref e2]) := upd_same
  generalize upd G2 e3 (.tup [.str "a", .ref e2]) = G3 at *
  refine ⟨G3, rfl, (s0.trans s1).trans (s2.trans s3), ?_⟩
  have u0 := s3 _ _ (s2 _ _ (s1 _ _ t0))
  have u1 := s3 _ _ (s2 _ _ t1)
  have u2 := s3 _ _ t2
  exact tc_cons (thTup u0 (by show 2 < 1000; decide) (tc_cons thInt (tc_cons thInt tc_nil))) (tc_cons (thTup u1 (by show 0 < 1000; decide) tc_nil) (tc_cons (thTup t3 (by show 2 < 1000; decide) (tc_cons thStr (tc_cons (thTup u2 (by show 1 < 1000; decide) (tc_cons thInt tc_nil)) tc_nil))) tc_nil))
theorem res_eq {K : PySem.W.Frag} {H1 : Hp} {r : V} {A : Ans} (hv : ∀ u, A = .val u → isVal u = true) (h : Th H1 (ansT A) r) :
    ∃ (p : Addr) (a : Str) (y : V), r = .ref p ∧ H1 p = some (.tup [.str a, y]) ∧ ∀ H2 q, Same H1 H2 → ResL H2 q A → ∃ y', H2 q = some (.lst [.str a, y']) ∧ EqV K H2 59 y y' true := by
  cases A with
  | fail rs =>
    obtain ⟨p, rfl, hp⟩ := un_fail h
    exact ⟨p, "failed", .str rs, rfl, hp, fun H2 q s hq => ⟨.str rs, hq, eq_str rs⟩⟩
  | val u =>
    obtain ⟨p, y, rfl, hp, hu⟩ := un_val h
    obtain ⟨hc, hd⟩ := val_clean (hv u rfl)
    refine ⟨p, "value", y, rfl, hp, fun H2 q s hq => ?_⟩
    obtain ⟨y', hq', hu'⟩ := hq
    have hu2 := Th.same s _ _ hu
    have e := eqv_th (K := K) 58 u u y y' (by omega) hc hc hu2 hu'
    rw [th_det u u y hc hc hu2 hu2] at e
    exact ⟨y', hq', e⟩
section
variable {P : Program} {w : World} {K : PySem.W.Frag} {mg : Str → Option Value} {base : Heap}
theorem ok_nst {f : Addr} {fd : FuncData} (F : Fun K "_law_nested" "_law_nested" sNest f fd) (mr : mg "range" = none) : FnOk P w K mg base CX0 1 f fd ["_law_levels"] spNst := by
  refine F.ok scNst (fun vs H Q E h => ?_) (fun cdv A outer s H vs Q E hr h => ?_)
  · obtain ⟨n, rfl, _⟩ := h
    rfl
  · obtain ⟨n, rfl, hn, q⟩ := h
    have ND := scNst.nd
    refine ⟨_, pss_cons (ps_set (i := 1) ND rfl (.inl rfl) (pe_tup pa_nil))
      (pss_cons (ps_for PassesOwn.never rfl (pi_range1 rfl mr (pa_cons (pv 0) pa_nil)) (pg_name (i := 2) ND rfl (.inl rfl))
        (pss_one (ps_set (i := 1) ND rfl (.inl rfl) (pe_tup (pa_cons (pv 1) pa_nil)))))
      (pss_one (ps_ret (pv 1)))), ?_⟩
    refine ⟨by show 0 ≤ sizeLine; decide, fun p0 np0 => ?_⟩
    have s0 : Same H (upd H p0 (.tup [])) := same_upd np0
    refine ⟨_, rfl, (n : Int), rfl, by omega, by omega, ?_⟩
    refine for_range (lo := 0) (n := (n : Int).toNat) (fun i σ H' => ∃ (v : V) (z2 : Option V), σ = [some (.int n), some v, z2] ∧ Th H' (nst i) v ∧ Same H H') ⟨.ref p0, none, rfl, thTup upd_same (by show 0 < 1000; decide) tc_nil, s0⟩ (fun i σ H' hi hPv => ?_) (fun σ H' hPv => ?_)
    · obtain ⟨v, z2, rfl, hv, sm⟩ := hPv
      refine ⟨_, rfl, by show 1 ≤ sizeLine; decide, fun p np => ?_⟩
      have k1 := same_upd (o := .tup [v]) np
      exact ⟨_, _, rfl, thTup upd_same (by show 1 < 1000; decide) (tc_cons (Th.same k1 _ _ hv) tc_nil), sm.trans k1⟩
    · obtain ⟨v, z2, rfl, hv, sm⟩ := hPv
      rw [Int.toNat_natCast] at hv
      exact ⟨_, rfl, q _ _ sm hv⟩
def spRA : Sp := fun vs H Q E => ∃ n, n ≤ 4 ∧ spRT (n + 1) vs H Q E
theorem ok_rall {f fD : Addr} {fd fdD : FuncData} (F : Fun K "_law_random_term" "_law_random_term" sRTerm f fd) (bF : Binds K fd ["_law_pool_here", "_law_depth"] []) (gF : mg "_law_random_term" = some (.ref f))
    (FD : Fun K "_law_draw" "_law_draw" sDraw fD fdD) (bD : Binds K fdD ["_law_pool_here", "_law_many"] []) (gD : mg "_law_draw" = some (.ref fD)) (TT : TxtT mg) : FnOk P w K mg base CX0 7 f fd ["_law_pool_here", "_law_depth"] spRA :=
  ⟨fun vs H Q E ⟨n, hn, h⟩ => (ok_rterm (P := P) (w := w) (base := base) F bF gF FD bD gD TT (n + 1) (by omega)).len vs H Q E h,
   fun A outer s H args us vs Q E hr he hb hv ⟨n, hn, h⟩ => ((ok_rterm F bF gF FD bD gD TT (n + 1) (by omega)).mono (by omega)).run A outer s H args us vs Q E hr he hb hv h⟩
structure TxtL (mg : Str → Option Value) : Prop where
  range : mg "range" = none
  max : mg "max" = none
  min : mg "min" = none
  len : mg "len" = none
  list : mg "list" = none
theorem scLaw : FnScope ["_law_script", "_law_deep", "_law_k", "_law_pool_here", "_law_turn", "_law_given", "_law_term"] ["_law_script"] (defScope sLaw) := ⟨rfl, rfl, rfl, by decide +kernel, rfl, by decide +kernel, by decide +kernel⟩
def spLaw (K : PySem.W.Frag) : Sp := fun vs H Q _ => ∃ (a : Addr) (ns : List Int), vs = [.ref a] ∧ SqL K H a (ns.map V.int) ∧ ns.length ≤ 63 ∧ ∀ H', Q (.bl true) H'
theorem ok_law {f fE fN fR fO fM fP fT fD fX CE CS : Addr} {fd fdE fdN fdR fdO fdM fdP fdT fdD fdX : FuncData} (F : Fun K "law" "law" sLaw f fd)
    (FE : Fun K "evaluate" "evaluate" sEvaluate fE fdE) (bE : Binds K fdE ["expression", "variables"] []) (gE : mg "evaluate" = some (.ref fE)) (GE : FnOk P w K mg base (L2.CX P w) 18 fE fdE ["expression", "variables"] (spEvaluate CE CS))
    (FN : Fun K "names_in" "names_in" sNamesIn fN fdN) (bN : Binds K fdN ["expression"] []) (gN : mg "names_in" = some (.ref fN)) (GN : FnOk P w K mg base (L2.CX P w) 18 fN fdN ["expression"] (spNames CE))
    (FR : Fun K "_law_result" "_law_result" sLRes fR fdR) (bR : Binds K fdR ["_law_term", "_law_names"] []) (gR : mg "_law_result" = some (.ref fR)) (GR : FnOk P w K mg base CX0 16 fR fdR ["_law_term", "_law_names"] (spLRes 8))
    (FO : Fun K "_law_once" "_law_once" sOnce fO fdO) (bO : Binds K fdO ["_law_names"] []) (gO : mg "_law_once" = some (.ref fO)) (GO : FnOk P w K mg base CX0 1 fO fdO ["_law_names"] spOnce)
    (FM : Fun K "_law_names_in" "_law_names_in" sLNames fM fdM) (bM : Binds K fdM ["_law_term"] []) (gM : mg "_law_names_in" = some (.ref fM)) (GM : FnOk P w K mg base CX0 10 fM fdM ["_law_term"] (spLN 9))
    (FP : Fun K "_law_pool" "_law_pool" sPool fP fdP) (bP : Binds K fdP ["_law_script", "_law_k"] []) (gP : mg "_law_pool" = some (.ref fP)) (GP : FnOk P w K mg base CX0 1 fP fdP ["_law_script", "_law_k"] (spPool K))
    (FT : Fun K "_law_random_term" "_law_random_term" sRTerm fT fdT) (bT : Binds K fdT ["_law_pool_here", "_law_depth"] []) (gT : mg "_law_random_term" = some (.ref fT)) (GT : FnOk P w K mg base CX0 7 fT fdT ["_law_pool_here", "_law_depth"] spRA)
    (FD : Fun K "_law_draw" "_law_draw" sDraw fD fdD) (bD : Binds K fdD ["_law_pool_here", "_law_many"] []) (gD : mg "_law_draw" = some (.ref fD))
    (FX : Fun K "_law_nested" "_law_nested" sNest fX fdX) (bX : Binds K fdX ["_law_levels"] []) (gX : mg "_law_nested" = some (.ref fX))
    (TL : TxtL mg) : FnOk P w K mg base CX0 20 f fd ["_law_script"] (spLaw K) := by
  have GD : FnOk P w K mg base CX0 1 fD fdD ["_law_pool_here", "_law_many"] spDraw := ok_draw FD
  have GX : FnOk P w K mg base CX0 1 fX fdX ["_law_levels"] spNst := ok_nst FX TL.range
  refine F.ok scLaw (fun vs H Q E h => ?_) (fun cdv A outer s H vs Q E hr h => ?_)
  · obtain ⟨a, ns, rfl, _⟩ := h
    rfl
  · obtain ⟨a, ns, rfl, hS, hlen, q⟩ := h
    have ND := scLaw.nd
    have hr1 : Room 1 _ := hr.mono (by decide)
    have hr7 : Room 7 _ := hr.mono (by decide)
    have hr10 : Room 10 _ := hr.mono (by decide)
    have hr16 : Room 16 _ := hr.mono (by decide)
    have hr18 : Room 18 _ := hr.mono (by decide)
    refine ⟨_, pss_cons (ps_set (i := 1) ND rfl (.inl rfl) (pe_tup (pa_cons pe_str (pa_cons (pe_tup (pa_cons pe_str (pa_cons (pe_call GX hr1 rfl gX FX.kp bX .nil pass0 (pa_cons pe_int pa_nil)) pa_nil))) pa_nil))))
      (pss_cons (ps_if (pt_cmpR (op_neW hr.units) (pe_call (E := E0) GE hr18 rfl gE FE.kp bE .nil passNo (pa_cons (pv 1) (pa_cons pe_dnewK pa_nil))) (pe_tup (pa_cons pe_str (pa_cons pe_str pa_nil))) (nomark _)) (pss_one (ps_ret pe_bl)) pss_nil)
      (pss_cons (ps_if (pt_cmpR op_ne (pe_ix ix_tup (pe_call (E := E0) GE hr18 rfl gE FE.kp bE .nil passNo (pa_cons (pe_tup (pa_cons pe_str (pa_cons (pe_tup (pa_cons pe_str (pa_cons (pe_call GX hr1 rfl gX FX.kp bX .nil pass0 (pa_cons pe_int pa_nil)) pa_nil))) pa_nil))) (pa_cons pe_dnewK pa_nil))) pe_int (fun _ _ => rfl)) pe_str (nomark _)) (pss_one (ps_ret pe_bl)) pss_nil)
      (pss_cons (ps_for PassesOwn.never rfl (pi_range1 rfl TL.range (pa_cons (pe_callB (call_max2 rfl) (by rfl) TL.max PyProof.Rows.boot_max (pa_cons pe_int (pa_cons (pe_callB (call_min2 rfl) (by rfl) TL.min PyProof.Rows.boot_min
            (pa_cons (pe_callB call_len_seq (by rfl) TL.len PySem.boot_len (pa_cons (pv 0) pa_nil)) (pa_cons pe_int pa_nil))) pa_nil))) pa_nil)) (pg_name (i := 2) ND rfl (.inl rfl))
          (pss_cons (ps_set (i := 3) ND rfl (.inl rfl) (pe_call GP hr1 rfl gP FP.kp bP .nil pass0 (pa_cons (pv 0) (pa_cons (pv 2) pa_nil))))
          (pss_one (ps_for PassesOwn.never rfl (pi_range1 rfl TL.range (pa_cons pe_int pa_nil)) (pg_name (i := 4) ND rfl (.inl rfl))
            (C8.pss_cut (ps_set (i := 5) ND rfl (.inl rfl) (pe_disp (pps_cons pe_str (pe_op op_sub (pe_call GD hr1 rfl gD FD.kp bD .nil pass0 (pa_cons (pv 3) (pa_cons pe_int pa_nil))) pe_int)
                (pps_cons pe_str (pe_ix ix_list (pe_lst (pa_cons pe_str (pa_cons pe_str (pa_cons pe_str pa_nil)))) (pe_call GD hr1 rfl gD FD.kp bD .nil pass0 (pa_cons (pv 3) (pa_cons pe_int pa_nil))) (fun _ _ => rfl)) pps_nil)) (by rfl) (by rfl) (fun z => by cases z) (by decide)))
            (C8.pss_cut (ps_asg (pe_ix ix_list (pe_lst (pa_cons (pe_tup (pa_cons pe_int (pa_cons pe_int pa_nil))) (pa_cons (pe_tup pa_nil) (pa_cons (pe_tup (pa_cons pe_str (pa_cons (pe_tup (pa_cons pe_int pa_nil)) pa_nil))) pa_nil))))
                (pe_call GD hr1 rfl gD FD.kp bD .nil pass0 (pa_cons (pv 3) (pa_cons pe_int pa_nil))) (fun _ _ => rfl)) (pg_sub (pv 5) pe_str (set_dict (hu_of hr))))
            (C8.pss_cut (ps_set (i := 6) ND rfl (.inl rfl) (pe_call GT hr7 rfl gT FT.kp bT .nil pass0 (pa_cons (pv 3) (pa_cons (pe_op op_add pe_int (pe_call GD hr1 rfl gD FD.kp bD .nil pass0 (pa_cons (pv 3) (pa_cons pe_int pa_nil)))) pa_nil))))
            (pss_cons (ps_if (pt_cmpR (op_neW hr.units) (pe_callTy call_list_of (by rfl) TL.list (by decide +kernel) (pa_cons (pe_call (E := E0) GE hr18 rfl gE FE.kp bE .nil passNo (pa_cons (pv 6) (pa_cons (pv 5) pa_nil))) pa_nil))
                (pe_call GR hr16 rfl gR FR.kp bR .nil pass0 (pa_cons (pv 6) (pa_cons (pv 5) pa_nil))) (nomark _)) (pss_one (ps_ret pe_bl)) pss_nil)
            (pss_one (ps_if (pt_cmpR (op_neW hr.units) (pe_call (E := E0) GN hr18 rfl gN FN.kp bN .nil passNo (pa_cons (pv 6) pa_nil))
                (pe_call GO hr1 rfl gO FO.kp bO .nil pass0 (pa_cons (pe_call GM hr10 rfl gM FM.kp bM .nil pass0 (pa_cons (pv 6) pa_nil)) pa_nil)) (nomark _)) (pss_one (ps_ret pe_bl)) pss_nil))))))))))
      (pss_one (ps_ret pe_bl))))), ?_⟩
    have ev0 : ∀ {G : Hp} {d : Addr}, G d = some (.dK []) → VarsV G (.ref d) (some []) := fun hd => .inr ⟨_, [], rfl, ⟨[], hd, .nil, Nat.zero_le _, fun q hq => nomatch hq⟩, by rw [if_pos vars0]⟩
    refine ⟨4, rfl, by decide, fun G1 v4 s1 hv4 => ⟨by show 2 ≤ sizeLine; decide, fun p1 np1 => ⟨by show 2 ≤ sizeLine; decide, fun p0 np0 => ?_⟩⟩⟩
    have k1 := same_upd (o := .tup [V.str "value", v4]) np1
    have hp1 : Th (upd G1 p1 (.tup [V.str "value", v4])) (.tup [.str "value", nst 4]) (.ref p1) := thTup upd_same (by show 2 < 1000; decide) (tc_cons thStr (tc_cons (Th.same k1 _ _ hv4) tc_nil))
    have k0 := same_upd (o := .tup [V.str "list", .ref p1]) np0
    have hdp : Th (upd (upd G1 p1 (.tup [V.str "value", v4])) p0 (.tup [V.str "list", .ref p1])) deep4 (.ref p0) := thTup upd_same (by show 2 < 1000; decide) (tc_cons thStr (tc_cons (Th.same k0 _ _ hp1) tc_nil))
    have sm2 : Same H (upd (upd G1 p1 (.tup [V.str "value", v4])) p0 (.tup [V.str "list", .ref p1])) := (s1.trans k1).trans k0
    generalize upd (upd G1 p1 (.tup [V.str "value", v4])) p0 (.tup [V.str "list", .ref p1]) = G2 at hdp sm2
    refine ⟨_, rfl, fun d nd => ?_⟩
    have kd := same_upd (o := .dK []) nd
    refine ⟨deep4, _, _, some [], rfl, Th.same kd _ _ hdp, deep_short.1, ev0 upd_same, fun z => absurd z (by rw [deep_ok.1]; exact Bool.noConfusion), (fun _ z => nomatch z), fun _ prs e G3 r s3 hr3 => ?_⟩
    cases e
    rw [deep4_ev] at hr3
    obtain ⟨p3, rfl, hp3⟩ := un_fail hr3
    refine ⟨by show 2 ≤ sizeLine; decide, fun t nt => ⟨false, ne_pair (same_upd (o := .tup [V.str "failed", .str "size"]) nt _ _ hp3) upd_same, _, rfl, iteF ?_⟩⟩
    have smA := ((sm2.trans kd).trans s3).trans (same_upd (o := .tup [V.str "failed", .str "size"]) nt)
    generalize upd G3 t (.tup [V.str "failed", .str "size"]) = G4 at smA
    refine ⟨3, rfl, by decide, fun G5 v3 s5 hv3 => ⟨by show 2 ≤ sizeLine; decide, fun p1' np1' => ⟨by show 2 ≤ sizeLine; decide, fun p0' np0' => ?_⟩⟩⟩
    have k1' := same_upd (o := .tup [V.str "value", v3]) np1'
    have hp1' : Th (upd G5 p1' (.tup [V.str "value", v3])) (.tup [.str "value", nst 3]) (.ref p1') := thTup upd_same (by show 2 < 1000; decide) (tc_cons thStr (tc_cons (Th.same k1' _ _ hv3) tc_nil))
    have k0' := same_upd (o := .tup [V.str "list", .ref p1']) np0'
    have hdp' : Th (upd (upd G5 p1' (.tup [V.str "value", v3])) p0' (.tup [V.str "list", .ref p1'])) deep3 (.ref p0') := thTup upd_same (by show 2 < 1000; decide) (tc_cons thStr (tc_cons (Th.same k0' _ _ hp1') tc_nil))
    have smB := ((smA.trans s5).trans k1').trans k0'
    generalize upd (upd G5 p1' (.tup [V.str "value", v3])) p0' (.tup [V.str "list", .ref p1']) = G6 at hdp' smB
    refine fun d' nd' => ?_
    have kd' := same_upd (o := .dK []) nd'
    refine ⟨deep3, _, _, some [], rfl, Th.same kd' _ _ hdp', deep_short.2, ev0 upd_same, fun z => absurd z (by rw [deep_ok.2]; exact Bool.noConfusion), (fun _ z => nomatch z), fun _ prs e G7 r s7 hr7 => ?_⟩
    cases e
    obtain ⟨u, eu⟩ := deep3_ev
    rw [eu] at hr7
    obtain ⟨p7, y7, rfl, hp7, _⟩ := un_val hr7
    refine ⟨p7, _, _, .str "value", rfl, rfl, SqT.of hp7, at0 _ _, rfl, _, rfl, ?_⟩
    rw [dec_str, decide_eq_true rfl]
    refine iteF ?_
    have sm7 := (smB.trans kd').trans s7
    have hS7 := sm7.seq hS
    refine ⟨_, rfl, a, _, rfl, .inl hS7, _, _, rfl, _, _, rfl, _, rfl, ?_⟩
    have hN : ∃ N : Nat, (if (if (8 : Int) < ((ns.map V.int).length : Nat) then (8 : Int) else ((ns.map V.int).length : Nat)) > 1 then (if (8 : Int) < ((ns.map V.int).length : Nat) then (8 : Int) else ((ns.map V.int).length : Nat)) else 1) = (N : Int) ∧ N ≤ 8 := by
      refine ⟨(if (if (8 : Int) < ((ns.map V.int).length : Nat) then (8 : Int) else ((ns.map V.int).length : Nat)) > 1 then (if (8 : Int) < ((ns.map V.int).length : Nat) then (8 : Int) else ((ns.map V.int).length : Nat)) else 1).toNat, ?_, ?_⟩
      · split <;> split <;> omega
      · split <;> split <;> omega
    obtain ⟨N, eN, hN8⟩ := hN
    rw [eN]
    refine ⟨by omega, by omega, ?_⟩
    refine for_range (lo := 0) (n := N) (fun i σ H' => ∃ z2 z3 z4 z5 z6 : Option V, σ = [some (.ref a), some (.ref p0), z2, z3, z4, z5, z6] ∧ SqL K H' a (ns.map V.int)) ⟨_, _, _, _, _, rfl, hS7⟩ (fun i σ Hk hi hPv => ?_) (fun σ Hk _ => q _)
    obtain ⟨z2, z3, z4, z5, z6, rfl, hSk⟩ := hPv
    refine ⟨_, rfl, _, rfl, a, ns, i, congrArg (fun z => [V.ref a, V.int z]) (show (0 : Int) + (i : Int) = (i : Int) by omega), hSk, hlen, by omega, fun Hq p smp np hp => ?_⟩
    refine ⟨25, rfl, by decide, by decide, ?_⟩
    refine for_range (lo := 0) (n := 25) (fun j σ H' => ∃ z4 z5 z6 : Option V, σ = [some (.ref a), some (.ref p0), some (.int (0 + (i : Int))), some (.ref p), z4, z5, z6] ∧ Same Hk H' ∧ PoolAt H' p) ⟨_, _, _, rfl, smp, hp⟩ (fun j σ Hj hj hPv => ?_) (fun σ Hj hPv => ?_)
    · obtain ⟨z4, z5, z6, rfl, smj, hpj⟩ := hPv
      refine ⟨fun σ' H' => ∃ (d : Addr) (i1 : Int) (x : Str), σ' = [some (.ref a), some (.ref p0), some (.int (0 + (i : Int))), some (.ref p), some (.int (0 + (j : Int))), some (.ref d), z6] ∧ -4 ≤ i1 ∧ i1 ≤ 4 ∧ x ∈ bWords ∧ H' d = some (.dK [(.inr "a", .int i1), (.inr "b", .str x)]) ∧ Hk d = none ∧ Same Hk H' ∧ PoolAt H' p, ?_, ?_⟩
      · intro d nd
        have ndp := hpj.ne nd
        have hp1 := hpj.same (same_upd (o := .dK []) nd)
        refine ⟨_, rfl, p, 9, rfl, by decide, by decide, hp1, fun r g m h0 h1 hg hm hm2 => ⟨_, _, rfl, rfl, by show 3 ≤ sizeLine; decide, fun l nl => ?_⟩⟩
        have hp2 : PoolAt (upd (upd Hj d (.dK [])) p (.lst [V.int g, V.int m])) p := pool_upd hg hm hm2
        have nlp := hp2.ne nl
        have nld : l ≠ d := fun z => by
          rw [z, upd_ne ndp, upd_same] at nl
          cases nl
        refine ⟨_, rfl, p, 3, rfl, by decide, by decide, hp2.same (same_upd nl), fun r2 g2 m2 h02 h12 hg2 hm22 hm32 => ?_⟩
        obtain ⟨x, hx, ex⟩ := pick_str (ws := bWords) h02 h12
        refine ⟨l, _, r2, .str x, rfl, rfl, SqL.of ?_, ex, ?_, [(.inr "a", .int (r - 4)), (.inr "b", .str x)], rfl, (by decide : (2 : Nat) ≤ 15), ?_⟩
        · rw [upd_ne nlp, upd_same]
          rfl
        · rw [upd_ne ndp, upd_ne nld.symm, upd_ne ndp, upd_same]
        · refine ⟨d, r - 4, x, rfl, by omega, by omega, hx, ?_, none_of smj nd, fun b o eb => ?_, ?_⟩
          · rw [upd_same, merge_ab]
          · have nb := ne_of_none eb np
            have e1 := smj _ _ eb
            have nbd := ne_of_none e1 nd
            have nbl : b ≠ l := ne_of_none (show upd (upd Hj d (.dK [])) p (.lst [V.int g, V.int m]) b = some o by rw [upd_ne nb, upd_ne nbd]; exact e1) nl
            rw [upd_ne nbd, upd_ne nb, upd_ne nbl, upd_ne nb, upd_ne nbd]
            exact e1
          · exact ⟨g2, m2, by rw [upd_ne ndp.symm, upd_same], hg2, hm22, hm32⟩
      rintro σ' Ha ⟨d, i1, x, rfl, hi1, hi2, hx, hda, ndk, sma, hpa⟩
      refine ⟨fun σ' H' => ∃ (t : T), σ' = [some (.ref a), some (.ref p0), some (.int (0 + (i : Int))), some (.ref p), some (.int (0 + (j : Int))), some (.ref d), z6] ∧ t ∈ three ∧ DkAt H' d (given i1 x t) ∧ Same Hk H' ∧ PoolAt H' p, ?_, ?_⟩
      · refine ⟨by show 2 ≤ sizeLine; decide, fun e0 n0 => ⟨by show 0 ≤ sizeLine; decide, fun e1 n1 => ⟨by show 1 ≤ sizeLine; decide, fun e2 n2 => ⟨by show 2 ≤ sizeLine; decide, fun e3 n3 => ⟨by show 3 ≤ sizeLine; decide, fun l nl => ?_⟩⟩⟩⟩⟩
        obtain ⟨H3, eH, sm, hall⟩ := vway3 (H1 := Ha) n0 n1 n2 n3
        have nl' : H3 l = none := by
          rw [← eH]
          exact nl
        have ndp : d ≠ p := by
          obtain ⟨_, _, ep, _⟩ := hpa
          exact ne_of hda ep (by intro z; cases z)
        refine ⟨_, rfl, p, 3, rfl, by decide, by decide, ?_, fun r g m h0 h1 hg hm hm2 => ?_⟩
        · rw [eH]
          exact (hpa.same sm).same (same_upd nl')
        rw [eH]
        obtain ⟨k, rfl⟩ := Int.eq_ofNat_of_zero_le h0
        have hk : k < three.length := by
          have : three.length = 3 := rfl
          omega
        have hp3 : PoolAt (upd H3 l (.lst [V.ref e0, .ref e1, .ref e3])) p := (hpa.same sm).same (same_upd nl')
        have ml : Mild H3 (upd (upd H3 l (.lst [V.ref e0, .ref e1, .ref e3])) p (.lst [V.int g, V.int m])) := (Mild.of_same (same_upd nl')).trans (Mild.off Off.upd hp3 (pool_upd hg hm hm2))
        obtain ⟨t, v, e1', e2', ht⟩ := thAll_get (ml.thAll hall) hk
        have hmem := List.mem_of_getElem? e1'
        have ndl : d ≠ l := ne_of_none (sm _ _ hda) nl'
        have hd' : (upd (upd H3 l (.lst [V.ref e0, .ref e1, .ref e3])) p (.lst [V.int g, V.int m])) d = some (.dK [(.inr "a", .int i1), (.inr "b", .str x)]) := by
          rw [upd_ne ndp, upd_ne ndl]
          exact sm _ _ hda
        refine ⟨l, _, _, v, rfl, rfl, SqL.of ?_, atI_nat e2', _, rfl, d, _, rfl, DPut.k (k := .inr "c") hd' (by show 2 < sizeLine; decide), t, rfl, hmem, ?_, fun b o eb => ?_, ?_⟩
        · rw [upd_ne ((hpa.same sm).ne nl'), upd_same]
        · exact given_dk (by rw [upd_same, put_c]) hx hmem (Th.lockK hd' (three_noD t hmem) ht)
        · have nb := ne_of_none eb np
          have e1 := sm _ _ (sma _ _ eb)
          rw [upd_ne (ne_of_none eb ndk), upd_ne nb, upd_ne (ne_of_none e1 nl')]
          exact e1
        · exact ⟨g, m, by rw [upd_ne ndp.symm, upd_same], hg, hm, hm2⟩
      rintro σ' Hb ⟨tc, rfl, htc, hdk, smb, hpb⟩
      have hvars := given_ok hi1 hi2 hx htc
      have hst : stOk (given i1 x tc) = true := by
        unfold varsOk at hvars
        rw [Bool.and_eq_true] at hvars
        exact hvars.1
      refine ⟨fun σ' H' => ∃ (t : T) (v : V) (n : Nat), σ' = [some (.ref a), some (.ref p0), some (.int (0 + (i : Int))), some (.ref p), some (.int (0 + (j : Int))), some (.ref d), some v] ∧ n ≤ 4 ∧ Gt n t ∧ Th H' t v ∧ DkAt H' d (given i1 x tc) ∧ Same Hk H' ∧ PoolAt H' p, ?_, ?_⟩
      · have ndp : d ≠ p := by
          obtain ⟨kvs, hd, _⟩ := hdk
          obtain ⟨_, _, ep, _⟩ := hpb
          exact ne_of hd ep (by intro z; cases z)
        refine ⟨_, rfl, _, rfl, p, 4, rfl, by decide, by decide, hpb, fun r g m h0 h1 hg hm hm2 => ⟨_, _, rfl, rfl, (1 + r).toNat, by omega, p, ?_, pool_upd hg hm hm2, fun t v H' gt th off hp' => ?_⟩⟩
        · exact congrArg (fun z => [V.ref p, V.int z]) (show (1 : Int) + r = (((1 + r).toNat : Nat) : Int) by omega)
        have offT : Off p Hb H' := Off.upd.trans off
        have ml : Mild Hb H' := Mild.off offT hpb hp'
        refine ⟨t, v, (1 + r).toNat, rfl, by omega, gt, th, ?_, fun b o eb => offT b o (ne_of_none eb np) (smb _ _ eb), hp'⟩
        obtain ⟨kvs, hd, hkv, hl, hpp⟩ := hdk
        exact ⟨kvs, offT _ _ ndp hd, paired_mono (fun _ _ r => ⟨r.1, ml.th r.2⟩) hkv, hl, hpp⟩
      rintro σ' Hc ⟨t, v, n, rfl, hn4, gt, hth, hdkc, smc, hpc⟩
      have hnest := gt_nest gt 8 (by omega)
      have hsh := gt_short gt
      refine ⟨_, rfl, _, rfl, t, v, .ref d, some (given i1 x tc), rfl, hth, hsh, .inr ⟨d, _, rfl, hdkc, by rw [if_pos hvars]⟩, fun z => absurd z (by rw [hnest]; exact Bool.noConfusion), (fun _ z => nomatch z), fun _ prs e H1 r s1' hr1' => ?_⟩
      cases e
      have hlen8 : (wn 8 t).length < sizeLine := by
        have b : (wn 8 t).length ≤ 10 ^ 7 := wn_len 7 t hnest
        rw [sizeLine_eq]
        omega
      obtain ⟨p1, aa, y, rfl, hp1, hq⟩ := res_eq (K := K) (fun u e => evA_val 8 _ t u (env_val hst) hnest e) hr1'
      refine ⟨p1, _, rfl, .inr (SqT.of hp1), fun l nl => ?_⟩
      have kl := same_upd (o := .lst [.str aa, y]) nl
      refine ⟨_, rfl, _, rfl, t, v, d, _, rfl, Th.same (s1'.trans kl) _ _ hth, hnest, hdkc.same (s1'.trans kl), hst, fun H2 q2 s2 hres => ?_⟩
      obtain ⟨y', hq2, heq⟩ := hq H2 q2 (kl.trans s2) hres
      refine ⟨false, ne_two (s2 _ _ upd_same) hq2 (eq_str aa) heq, _, rfl, iteF ?_⟩
      have sB := (s1'.trans kl).trans s2
      refine ⟨_, rfl, t, v, rfl, Th.same sB _ _ hth, hsh, fun hb H3 r3 s3 nr3 hr3 => ?_, fun z => absurd z (by rw [hnest]; exact Bool.noConfusion)⟩
      refine ⟨_, rfl, t, v, rfl, Th.same (sB.trans s3) _ _ hth, hnest, fun H4 l4 s4 nl4 hl4 => ?_⟩
      refine ⟨l4, wn 8 t, rfl, hl4, hlen8, fun H5 r5 s5 hr5 => ?_⟩
      refine ⟨false, ne_once ((s4.trans s5) _ _ hr3) hr5, _, rfl, iteF ?_⟩
      have sC := (sB.trans s3).trans (s4.trans s5)
      exact ⟨_, _, _, rfl, smc.trans sC, hpc.same sC⟩
    · obtain ⟨z4, z5, z6, rfl, smj, hpj⟩ := hPv
      exact ⟨_, _, _, _, _, rfl, smj.seq hSk⟩
end
end My
namespace My
open PySem PySem.Spec PyProof.Rows L2 LX
/-- an error class and what it rests on, its field -/
structure ET (prog : Program) (K : PySem.W.Frag) (mg : Str → Option Value) (x p : Str) (C : Addr) : Prop extends EK prog K mg x p C where
  X : XfC K C
  no : PySem.W.findIn K (.ref C) p = some none
  te : PySem.W.exmOne K (.ref C) (.ref C) = some true
/-- the __init__ of the i-th class -/
def meth (i : Nat) : Stmt := match top i with
  | .ClassDef _ _ _ b _ _ _ _ _ _ _ => b.getD 0 (.Pass ⟨0, 0, 0, 0⟩)
  | s => s
/-- a built-in error class and what it rests on -/
structure Bs (B newId initId : String) (bmB : List Value) : Prop where
  FB : ∃ (B1 i1 : String) (b1 : List Value), ExcBaseFacts B1 newId i1 b1 ∧ bmB.contains (.type B1) = true
  KF : PySem.W.KxsFacts B initId
  IF : InF B initId
  pass : ∀ self : Value, refuseLoop self "__setattr__" bmB = pure ()
  ob : bmB.contains (.type "object") = true
  noA : bmB.contains (.type "AttributeError") = false
  noN : bmB.contains (.type "NameError") = false
abbrev veM : List Value := [.type "ValueError", .type "Exception", .type "BaseException", .type "object"]
theorem bVE : Bs "ValueError" "ValueError.__new__" "ValueError.__init__" veM :=
  ⟨⟨_, _, _, F.excBase_ValueError, by decide +kernel⟩, PySem.W.kxs_ValueError, .of F.excBase_ValueError.toExcCallFacts, F.store_ValueError.passes, by decide +kernel, by decide +kernel, by decide +kernel⟩
/-- the text of an __init__ -/
structure Txt (st : Stmt) (p : Str) : Prop where
  ex : ∃ (msg : Str) (q0 q1 q2 q3 q4 q5 q6 q7 q8 q9 : Pos) (j : Nat) (ar a2 : Arg), defBody st = ibody p msg q0 q1 q2 q3 q4 q5 q6 q7 q8 q9 j ∧ ((defArgs st).posonlyargs ++ (defArgs st).args) = [ar, a2] ∧ ar.arg = ("self" : Str) ∧ (q2.endLine == q4.line) = true
  sc : defScope st = isc p
  b1 : ∀ (qn : Str) (kV doc pm : Value) (an : Option Addr) (cdv ct : Value) (cc : Addr) (u v : Value), bindArgs (PySem.W.ksFn "__init__" qn (defArgs st) (defBody st) (defScope st) .none kV doc pm an cdv ct cc) ⟨[u, v], []⟩ = pure [(("self" : Str), u), (p, v)]
  b2 : ∀ (qn : Str) (kV doc pm : Value) (an : Option Addr) (cdv ct : Value) (cc : Addr) (u v : Value), bindArgs (PySem.W.ksFn "__init__" qn (defArgs st) (defBody st) (defScope st) .none kV doc pm an cdv ct cc) ⟨[u], [(p, v)]⟩ = pure [(("self" : Str), u), (p, v)]
  ps : p ≠ ("self" : Str)
  pc : p ≠ ("__class__" : Str)
  pd : (p == ("__debug__" : Str)) = false
  pu : p ≠ ("super" : Str)
theorem xtS : Txt (meth 2) "value" := ⟨⟨_, _, _, _, _, _, _, _, _, _, _, _, _, _, rfl, rfl, rfl, rfl⟩, rfl, fun _ _ _ _ _ _ _ _ _ _ => rfl, fun _ _ _ _ _ _ _ _ _ _ => rfl, by decide, by decide, by decide, by decide⟩
theorem xtE : Txt (meth 3) "value" := ⟨⟨_, _, _, _, _, _, _, _, _, _, _, _, _, _, rfl, rfl, rfl, rfl⟩, rfl, fun _ _ _ _ _ _ _ _ _ _ => rfl, fun _ _ _ _ _ _ _ _ _ _ => rfl, by decide, by decide, by decide, by decide⟩
theorem et_mk {P : Program} {K : PySem.W.Frag} {h : Heap} {mg : Str → Option Value} {x p : Str} {C fI cc cda : Addr} {B newId initId : String} {bmB : List Value} {st : Stmt} {kV doc pm ct oc ccl cl : Value} {an od cdd cld : Option Addr} {osl ccs csl : Array (Option Value)} {vs : Array Value} {qn : Str}
    (b : Bs B newId initId bmB) (X : Txt st p) (KX : K.In h) (G : h.Ns mainGlobals mg) (noany : PySem.W.nsIn K cStatics "thirdparty.any" = some none) (topS : (P.main.scope.names.lookup ("super" : Str)).isSome = false)
    (hn : PySem.W.nsIn K mainGlobals x = some (some (.ref C))) (q : PySem.W.excInitIn K C bmB newId = true) (ov : PySem.W.excOver K C bmB = true)
    (i1 : PySem.W.findIn K (.ref C) "__init__" = some (some (.ref fI))) (i2 : PySem.W.typeIn K (.ref fI) = some (.type "function"))
    (l : K.lookup fI = some ⟨oc, od, .func (PySem.W.ksFn "__init__" qn (defArgs st) (defBody st) (defScope st) .none kV doc pm an (.ref cda) ct cc), osl⟩)
    (c : PySem.W.codeIn K (.ref cda) qn = true) (d : K.lookup cda = some ⟨ccl, cdd, .fields vs, ccs⟩) (fl : ∃ (file : Str) (tf : Tok), vs[2]? = some (.str file tf) ∧ ((P.main.file : Str) == file) = true)
    (ce : K.lookup cc = some ⟨cl, cld, .cell (some (.ref C)), csl⟩) (sp : PySem.W.ks_superIn K C C "__init__" = some (some (.builtin initId))) (sB : PySem.W.subIn K (.ref C) (.type B) = some true) (sC : PySem.W.mroIn K C (.ref C) = some true)
    (sa : PySem.W.findIn K (.ref C) "__setattr__" = some (some (.builtin "object.__setattr__"))) (hd : PySem.W.hasDictIn K C = true) (hf : PySem.W.findIn K (.ref C) p = some none)
    (ga : PySem.W.findIn K (.ref C) "__getattribute__" = some (some (.builtin "BaseException.__getattribute__"))) (gg : PySem.W.findIn K (.ref C) "__getattr__" = some none) (eC : PySem.W.subIn K (.ref C) (.type "BaseException") = some true)
    (ty : PySem.W.typeIn K (.ref C) = some (.type "type")) (te : PySem.W.exmOne K (.ref C) (.ref C) = some true) (kp : PySem.W.keepIn K (.ref C) = true) : ET P K mg x p C := by
  obtain ⟨⟨msg, q0, q1, q2, q3, q4, q5, q6, q7, q8, q9, j, ar, a2, hb, hp, ha, hq⟩, hs, b1, b2, ps, pc, pd, pu⟩ := X
  obtain ⟨file, tf, v2, hfile⟩ := fl
  refine ⟨⟨⟨[], B, newId, initId, bmB, ⟨b.FB, b.noA, b.noN, b.IF, b.KF, b.pass, b.ob, q, ov, ?_, noany, sp, sB, sC, topS, sa, hd, hf, ps, pc, pd, pu⟩⟩, PySem.W.mg_of KX G hn, kp, eC, ty⟩, ⟨ga, gg, eC, hd⟩, hf, te⟩
  rw [hb, hs] at l
  refine ⟨fI, cc, cda, defArgs st, msg, q0, q1, q2, q3, q4, q5, q6, q7, q8, q9, j, kV, doc, pm, ct, an, oc, od, osl, ar, a2, ccl, cl, cdd, cld, ccs, csl, vs, file, tf, qn, i1, i2, l, c, hp, ha, fun u v => ?_, fun u v => ?_, d, v2, hfile, ce, hq⟩
  · rw [← hb, ← hs]
    exact b1 _ _ _ _ _ _ _ _ _ _
  · rw [← hb, ← hs]
    exact b2 _ _ _ _ _ _ _ _ _ _
end My
namespace My
open PySem PySem.Spec PyProof.Rows L2 LX
theorem ltS_eq : ltS = ⟨#[97, 98, 99, 100, 101, 102, 103, 104, 105, 106, 107, 108, 109, 110, 111, 112, 113, 114, 115, 116, 117, 118, 119, 120, 121, 122]⟩ := by decide +kernel
theorem ldS_eq : ldS = ⟨#[97, 98, 99, 100, 101, 102, 103, 104, 105, 106, 107, 108, 109, 110, 111, 112, 113, 114, 115, 116, 117, 118, 119, 120, 121, 122, 48, 49, 50, 51, 52, 53, 54, 55, 56, 57]⟩ := by decide +kernel
theorem bound_eq : (10 : Int) ^ 60 = 1000000000000000000000000000000000000000000000000000000000000 := by decide +kernel
theorem all_mk {l : PySem.W.OpenLaw} {w : World} {K : PySem.W.Frag} {h : Heap} {mg : Str → Option Value} {fa f1 f2 f3 f4 f5 f6 f7 f8 f9 f10 f11 f12 f13 f14 f15 f16 f17 f18 f19 f20 f21 f22 f23 f24 f25 f26 f27 f28 f29 f30 f31 f32 f33 f34 f35 : Addr} (X : K.In h) (G : h.Ns mainGlobals mg) (hfa : mg "law" = some (.ref fa))
    {od1 an1 od2 an2 od3 an3 od4 an4 od5 an5 od6 an6 od7 an7 od8 an8 od9 an9 od10 an10 od11 an11 od12 an12 od13 an13 od14 an14 od15 an15 od16 an16 od17 an17 od18 an18 od19 an19 od20 an20 od21 an21 od22 an22 od23 an23 od24 an24 od25 an25 od26 an26 od27 an27 od28 an28 od29 an29 od30 an30 od31 an31 od32 an32 od33 an33 od34 an34 od35 an35 : Option Addr} {sl1 sl2 sl3 sl4 sl5 sl6 sl7 sl8 sl9 sl10 sl11 sl12 sl13 sl14 sl15 sl16 sl17 sl18 sl19 sl20 sl21 sl22 sl23 sl24 sl25 sl26 sl27 sl28 sl29 sl30 sl31 sl32 sl33 sl34 sl35 : Array (Option Value)} {oc1 kV1 dc1 pm1 cd1 ct1 oc2 kV2 dc2 pm2 cd2 ct2 oc3 kV3 dc3 pm3 cd3 ct3 oc4 kV4 dc4 pm4 cd4 ct4 oc5 kV5 dc5 pm5 cd5 ct5 oc6 kV6 dc6 pm6 cd6 ct6 oc7 kV7 dc7 pm7 cd7 ct7 oc8 kV8 dc8 pm8 cd8 ct8 oc9 kV9 dc9 pm9 cd9 ct9 oc10 kV10 dc10 pm10 cd10 ct10 oc11 kV11 dc11 pm11 cd11 ct11 oc12 kV12 dc12 pm12 cd12 ct12 oc13 kV13 dc13 pm13 cd13 ct13 oc14 kV14 dc14 pm14 cd14 ct14 oc15 kV15 dc15 pm15 cd15 ct15 oc16 kV16 dc16 pm16 cd16 ct16 oc17 kV17 dc17 pm17 cd17 ct17 oc18 kV18 dc18 pm18 cd18 ct18 oc19 kV19 dc19 pm19 cd19 ct19 oc20 kV20 dc20 pm20 cd20 ct20 oc21 kV21 dc21 pm21 cd21 ct21 oc22 kV22 dc22 pm22 cd22 ct22 oc23 kV23 dc23 pm23 cd23 ct23 oc24 kV24 dc24 pm24 cd24 ct24 oc25 kV25 dc25 pm25 cd25 ct25 oc26 kV26 dc26 pm26 cd26 ct26 oc27 kV27 dc27 pm27 cd27 ct27 oc28 kV28 dc28 pm28 cd28 ct28 oc29 kV29 dc29 pm29 cd29 ct29 oc30 kV30 dc30 pm30 cd30 ct30 oc31 kV31 dc31 pm31 cd31 ct31 oc32 kV32 dc32 pm32 cd32 ct32 oc33 kV33 dc33 pm33 cd33 ct33 oc34 kV34 dc34 pm34 cd34 ct34 oc35 kV35 dc35 pm35 cd35 ct35 : Value}
    {tk0 tk1 tk2 tk3 tk4 tk5 tk6 tk7 tk8 : Tok} {pC pK CE CS : Addr}
    (a1 : PySem.W.nsIn K mainGlobals "kind_of" = some (some (.ref f1))) (l1 : K.lookup f1 = some ⟨oc1, od1, .func (PySem.W.fnOf "kind_of" "kind_of" (defArgs sKind) (defBody sKind) (defScope sKind) .none kV1 dc1 pm1 an1 cd1 ct1), sl1⟩) (c1 : PySem.W.codeIn K cd1 "kind_of" = true) (k1 : PySem.W.keepIn K (.ref f1) = true)
    (a2 : PySem.W.nsIn K mainGlobals "is_value" = some (some (.ref f2))) (l2 : K.lookup f2 = some ⟨oc2, od2, .func (PySem.W.fnOf "is_value" "is_value" (defArgs sIsValue) (defBody sIsValue) (defScope sIsValue) .none kV2 dc2 pm2 an2 cd2 ct2), sl2⟩) (c2 : PySem.W.codeIn K cd2 "is_value" = true) (k2 : PySem.W.keepIn K (.ref f2) = true)
    (a3 : PySem.W.nsIn K mainGlobals "is_plain_value" = some (some (.ref f3))) (l3 : K.lookup f3 = some ⟨oc3, od3, .func (PySem.W.fnOf "is_plain_value" "is_plain_value" (defArgs sIsPlain) (defBody sIsPlain) (defScope sIsPlain) .none kV3 dc3 pm3 an3 cd3 ct3), sl3⟩) (c3 : PySem.W.codeIn K cd3 "is_plain_value" = true) (k3 : PySem.W.keepIn K (.ref f3) = true)
    (a4 : PySem.W.nsIn K mainGlobals "is_text" = some (some (.ref f4))) (l4 : K.lookup f4 = some ⟨oc4, od4, .func (PySem.W.fnOf "is_text" "is_text" (defArgs sIsText) (defBody sIsText) (defScope sIsText) .none kV4 dc4 pm4 an4 cd4 ct4), sl4⟩) (c4 : PySem.W.codeIn K cd4 "is_text" = true) (k4 : PySem.W.keepIn K (.ref f4) = true)
    (a5 : PySem.W.nsIn K mainGlobals "has_only" = some (some (.ref f5))) (l5 : K.lookup f5 = some ⟨oc5, od5, .func (PySem.W.fnOf "has_only" "has_only" (defArgs sHasOnly) (defBody sHasOnly) (defScope sHasOnly) .none kV5 dc5 pm5 an5 cd5 ct5), sl5⟩) (c5 : PySem.W.codeIn K cd5 "has_only" = true) (k5 : PySem.W.keepIn K (.ref f5) = true)
    (a6 : PySem.W.nsIn K mainGlobals "is_list" = some (some (.ref f6))) (l6 : K.lookup f6 = some ⟨oc6, od6, .func (PySem.W.fnOf "is_list" "is_list" (defArgs sIsList) (defBody sIsList) (defScope sIsList) .none kV6 dc6 pm6 an6 cd6 ct6), sl6⟩) (c6 : PySem.W.codeIn K cd6 "is_list" = true) (k6 : PySem.W.keepIn K (.ref f6) = true)
    (a7 : PySem.W.nsIn K mainGlobals "is_key" = some (some (.ref f7))) (l7 : K.lookup f7 = some ⟨oc7, od7, .func (PySem.W.fnOf "is_key" "is_key" (defArgs sIsKey) (defBody sIsKey) (defScope sIsKey) .none kV7 dc7 pm7 an7 cd7 ct7), sl7⟩) (c7 : PySem.W.codeIn K cd7 "is_key" = true) (k7 : PySem.W.keepIn K (.ref f7) = true)
    (a8 : PySem.W.nsIn K mainGlobals "is_name" = some (some (.ref f8))) (l8 : K.lookup f8 = some ⟨oc8, od8, .func (PySem.W.fnOf "is_name" "is_name" (defArgs sIsName) (defBody sIsName) (defScope sIsName) .none kV8 dc8 pm8 an8 cd8 ct8), sl8⟩) (c8 : PySem.W.codeIn K cd8 "is_name" = true) (k8 : PySem.W.keepIn K (.ref f8) = true)
    (a9 : PySem.W.nsIn K mainGlobals "is_state" = some (some (.ref f9))) (l9 : K.lookup f9 = some ⟨oc9, od9, .func (PySem.W.fnOf "is_state" "is_state" (defArgs sIsState) (defBody sIsState) (defScope sIsState) .none kV9 dc9 pm9 an9 cd9 ct9), sl9⟩) (c9 : PySem.W.codeIn K cd9 "is_state" = true) (k9 : PySem.W.keepIn K (.ref f9) = true)
    (a10 : PySem.W.nsIn K mainGlobals "is_variables" = some (some (.ref f10))) (l10 : K.lookup f10 = some ⟨oc10, od10, .func (PySem.W.fnOf "is_variables" "is_variables" (defArgs sIsVars) (defBody sIsVars) (defScope sIsVars) .none kV10 dc10 pm10 an10 cd10 ct10), sl10⟩) (c10 : PySem.W.codeIn K cd10 "is_variables" = true) (k10 : PySem.W.keepIn K (.ref f10) = true)
    (a11 : PySem.W.nsIn K mainGlobals "are_equal" = some (some (.ref f11))) (l11 : K.lookup f11 = some ⟨oc11, od11, .func (PySem.W.fnOf "are_equal" "are_equal" (defArgs sEqual) (defBody sEqual) (defScope sEqual) .none kV11 dc11 pm11 an11 cd11 ct11), sl11⟩) (c11 : PySem.W.codeIn K cd11 "are_equal" = true) (k11 : PySem.W.keepIn K (.ref f11) = true)
    (a12 : PySem.W.nsIn K mainGlobals "evaluate" = some (some (.ref f12))) (l12 : K.lookup f12 = some ⟨oc12, od12, .func (PySem.W.fnOf "evaluate" "evaluate" (defArgs sEvaluate) (defBody sEvaluate) (defScope sEvaluate) .none kV12 dc12 pm12 an12 cd12 ct12), sl12⟩) (c12 : PySem.W.codeIn K cd12 "evaluate" = true) (k12 : PySem.W.keepIn K (.ref f12) = true)
    (a13 : PySem.W.nsIn K mainGlobals "names_in" = some (some (.ref f13))) (l13 : K.lookup f13 = some ⟨oc13, od13, .func (PySem.W.fnOf "names_in" "names_in" (defArgs sNamesIn) (defBody sNamesIn) (defScope sNamesIn) .none kV13 dc13 pm13 an13 cd13 ct13), sl13⟩) (c13 : PySem.W.codeIn K cd13 "names_in" = true) (k13 : PySem.W.keepIn K (.ref f13) = true)
    (a14 : PySem.W.nsIn K mainGlobals "check_expression" = some (some (.ref f14))) (l14 : K.lookup f14 = some ⟨oc14, od14, .func (PySem.W.fnOf "check_expression" "check_expression" (defArgs sCheckE) (defBody sCheckE) (defScope sCheckE) .none kV14 dc14 pm14 an14 cd14 ct14), sl14⟩) (c14 : PySem.W.codeIn K cd14 "check_expression" = true) (k14 : PySem.W.keepIn K (.ref f14) = true)
    (a15 : PySem.W.nsIn K mainGlobals "is_expression" = some (some (.ref f15))) (l15 : K.lookup f15 = some ⟨oc15, od15, .func (PySem.W.fnOf "is_expression" "is_expression" (defArgs sIsExpr) (defBody sIsExpr) (defScope sIsExpr) .none kV15 dc15 pm15 an15 cd15 ct15), sl15⟩) (c15 : PySem.W.codeIn K cd15 "is_expression" = true) (k15 : PySem.W.keepIn K (.ref f15) = true)
    (a16 : PySem.W.nsIn K mainGlobals "is_nested_expression" = some (some (.ref f16))) (l16 : K.lookup f16 = some ⟨oc16, od16, .func (PySem.W.fnOf "is_nested_expression" "is_nested_expression" (defArgs sNested) (defBody sNested) (defScope sNested) .none kV16 dc16 pm16 an16 cd16 ct16), sl16⟩) (c16 : PySem.W.codeIn K cd16 "is_nested_expression" = true) (k16 : PySem.W.keepIn K (.ref f16) = true)
    (a17 : PySem.W.nsIn K mainGlobals "is_form" = some (some (.ref f17))) (l17 : K.lookup f17 = some ⟨oc17, od17, .func (PySem.W.fnOf "is_form" "is_form" (defArgs sIsForm) (defBody sIsForm) (defScope sIsForm) .none kV17 dc17 pm17 an17 cd17 ct17), sl17⟩) (c17 : PySem.W.codeIn K cd17 "is_form" = true) (k17 : PySem.W.keepIn K (.ref f17) = true)
    (a18 : PySem.W.nsIn K mainGlobals "written_names" = some (some (.ref f18))) (l18 : K.lookup f18 = some ⟨oc18, od18, .func (PySem.W.fnOf "written_names" "written_names" (defArgs sWritten) (defBody sWritten) (defScope sWritten) .none kV18 dc18 pm18 an18 cd18 ct18), sl18⟩) (c18 : PySem.W.codeIn K cd18 "written_names" = true) (k18 : PySem.W.keepIn K (.ref f18) = true)
    (a19 : PySem.W.nsIn K mainGlobals "evaluated" = some (some (.ref f19))) (l19 : K.lookup f19 = some ⟨oc19, od19, .func (PySem.W.fnOf "evaluated" "evaluated" (defArgs sEvaluated) (defBody sEvaluated) (defScope sEvaluated) .none kV19 dc19 pm19 an19 cd19 ct19), sl19⟩) (c19 : PySem.W.codeIn K cd19 "evaluated" = true) (k19 : PySem.W.keepIn K (.ref f19) = true)
    (a20 : PySem.W.nsIn K mainGlobals "looked_up" = some (some (.ref f20))) (l20 : K.lookup f20 = some ⟨oc20, od20, .func (PySem.W.fnOf "looked_up" "looked_up" (defArgs sLooked) (defBody sLooked) (defScope sLooked) .none kV20 dc20 pm20 an20 cd20 ct20), sl20⟩) (c20 : PySem.W.codeIn K cd20 "looked_up" = true) (k20 : PySem.W.keepIn K (.ref f20) = true)
    (a21 : PySem.W.nsIn K mainGlobals "applied" = some (some (.ref f21))) (l21 : K.lookup f21 = some ⟨oc21, od21, .func (PySem.W.fnOf "applied" "applied" (defArgs sApplied) (defBody sApplied) (defScope sApplied) .none kV21 dc21 pm21 an21 cd21 ct21), sl21⟩) (c21 : PySem.W.codeIn K cd21 "applied" = true) (k21 : PySem.W.keepIn K (.ref f21) = true)
    (a22 : PySem.W.nsIn K mainGlobals "are_of_right_kinds" = some (some (.ref f22))) (l22 : K.lookup f22 = some ⟨oc22, od22, .func (PySem.W.fnOf "are_of_right_kinds" "are_of_right_kinds" (defArgs sKinds) (defBody sKinds) (defScope sKinds) .none kV22 dc22 pm22 an22 cd22 ct22), sl22⟩) (c22 : PySem.W.codeIn K cd22 "are_of_right_kinds" = true) (k22 : PySem.W.keepIn K (.ref f22) = true)
    (a23 : PySem.W.nsIn K mainGlobals "result_of" = some (some (.ref f23))) (l23 : K.lookup f23 = some ⟨oc23, od23, .func (PySem.W.fnOf "result_of" "result_of" (defArgs sResult) (defBody sResult) (defScope sResult) .none kV23 dc23 pm23 an23 cd23 ct23), sl23⟩) (c23 : PySem.W.codeIn K cd23 "result_of" = true) (k23 : PySem.W.keepIn K (.ref f23) = true)
    (a24 : PySem.W.nsIn K mainGlobals "_law_pool" = some (some (.ref f24))) (l24 : K.lookup f24 = some ⟨oc24, od24, .func (PySem.W.fnOf "_law_pool" "_law_pool" (defArgs sPool) (defBody sPool) (defScope sPool) .none kV24 dc24 pm24 an24 cd24 ct24), sl24⟩) (c24 : PySem.W.codeIn K cd24 "_law_pool" = true) (k24 : PySem.W.keepIn K (.ref f24) = true)
    (a25 : PySem.W.nsIn K mainGlobals "_law_draw" = some (some (.ref f25))) (l25 : K.lookup f25 = some ⟨oc25, od25, .func (PySem.W.fnOf "_law_draw" "_law_draw" (defArgs sDraw) (defBody sDraw) (defScope sDraw) .none kV25 dc25 pm25 an25 cd25 ct25), sl25⟩) (c25 : PySem.W.codeIn K cd25 "_law_draw" = true) (k25 : PySem.W.keepIn K (.ref f25) = true)
    (a26 : PySem.W.nsIn K mainGlobals "_law_whole" = some (some (.ref f26))) (l26 : K.lookup f26 = some ⟨oc26, od26, .func (PySem.W.fnOf "_law_whole" "_law_whole" (defArgs sWhole) (defBody sWhole) (defScope sWhole) .none kV26 dc26 pm26 an26 cd26 ct26), sl26⟩) (c26 : PySem.W.codeIn K cd26 "_law_whole" = true) (k26 : PySem.W.keepIn K (.ref f26) = true)
    (a27 : PySem.W.nsIn K mainGlobals "_law_small" = some (some (.ref f27))) (l27 : K.lookup f27 = some ⟨oc27, od27, .func (PySem.W.fnOf "_law_small" "_law_small" (defArgs sSmall) (defBody sSmall) (defScope sSmall) .none kV27 dc27 pm27 an27 cd27 ct27), sl27⟩) (c27 : PySem.W.codeIn K cd27 "_law_small" = true) (k27 : PySem.W.keepIn K (.ref f27) = true)
    (a28 : PySem.W.nsIn K mainGlobals "_law_within" = some (some (.ref f28))) (l28 : K.lookup f28 = some ⟨oc28, od28, .func (PySem.W.fnOf "_law_within" "_law_within" (defArgs sWithin) (defBody sWithin) (defScope sWithin) .none kV28 dc28 pm28 an28 cd28 ct28), sl28⟩) (c28 : PySem.W.codeIn K cd28 "_law_within" = true) (k28 : PySem.W.keepIn K (.ref f28) = true)
    (a29 : PySem.W.nsIn K mainGlobals "_law_pair" = some (some (.ref f29))) (l29 : K.lookup f29 = some ⟨oc29, od29, .func (PySem.W.fnOf "_law_pair" "_law_pair" (defArgs sPair) (defBody sPair) (defScope sPair) .none kV29 dc29 pm29 an29 cd29 ct29), sl29⟩) (c29 : PySem.W.codeIn K cd29 "_law_pair" = true) (k29 : PySem.W.keepIn K (.ref f29) = true)
    (a30 : PySem.W.nsIn K mainGlobals "_law_result" = some (some (.ref f30))) (l30 : K.lookup f30 = some ⟨oc30, od30, .func (PySem.W.fnOf "_law_result" "_law_result" (defArgs sLRes) (defBody sLRes) (defScope sLRes) .none kV30 dc30 pm30 an30 cd30 ct30), sl30⟩) (c30 : PySem.W.codeIn K cd30 "_law_result" = true) (k30 : PySem.W.keepIn K (.ref f30) = true)
    (a31 : PySem.W.nsIn K mainGlobals "_law_names_in" = some (some (.ref f31))) (l31 : K.lookup f31 = some ⟨oc31, od31, .func (PySem.W.fnOf "_law_names_in" "_law_names_in" (defArgs sLNames) (defBody sLNames) (defScope sLNames) .none kV31 dc31 pm31 an31 cd31 ct31), sl31⟩) (c31 : PySem.W.codeIn K cd31 "_law_names_in" = true) (k31 : PySem.W.keepIn K (.ref f31) = true)
    (a32 : PySem.W.nsIn K mainGlobals "_law_once" = some (some (.ref f32))) (l32 : K.lookup f32 = some ⟨oc32, od32, .func (PySem.W.fnOf "_law_once" "_law_once" (defArgs sOnce) (defBody sOnce) (defScope sOnce) .none kV32 dc32 pm32 an32 cd32 ct32), sl32⟩) (c32 : PySem.W.codeIn K cd32 "_law_once" = true) (k32 : PySem.W.keepIn K (.ref f32) = true)
    (a33 : PySem.W.nsIn K mainGlobals "_law_random_term" = some (some (.ref f33))) (l33 : K.lookup f33 = some ⟨oc33, od33, .func (PySem.W.fnOf "_law_random_term" "_law_random_term" (defArgs sRTerm) (defBody sRTerm) (defScope sRTerm) .none kV33 dc33 pm33 an33 cd33 ct33), sl33⟩) (c33 : PySem.W.codeIn K cd33 "_law_random_term" = true) (k33 : PySem.W.keepIn K (.ref f33) = true)
    (a34 : PySem.W.nsIn K mainGlobals "_law_nested" = some (some (.ref f34))) (l34 : K.lookup f34 = some ⟨oc34, od34, .func (PySem.W.fnOf "_law_nested" "_law_nested" (defArgs sNest) (defBody sNest) (defScope sNest) .none kV34 dc34 pm34 an34 cd34 ct34), sl34⟩) (c34 : PySem.W.codeIn K cd34 "_law_nested" = true) (k34 : PySem.W.keepIn K (.ref f34) = true)
    (a35 : PySem.W.nsIn K mainGlobals "law" = some (some (.ref f35))) (l35 : K.lookup f35 = some ⟨oc35, od35, .func (PySem.W.fnOf "law" "law" (defArgs sLaw) (defBody sLaw) (defScope sLaw) .none kV35 dc35 pm35 an35 cd35 ct35), sl35⟩) (c35 : PySem.W.codeIn K cd35 "law" = true) (k35 : PySem.W.keepIn K (.ref f35) = true)
    (z_sum : PySem.W.nsIn K mainGlobals "sum" = some none)
    (z_len : PySem.W.nsIn K mainGlobals "len" = some none)
    (z_abs : PySem.W.nsIn K mainGlobals "abs" = some none)
    (z_int : PySem.W.nsIn K mainGlobals "int" = some none)
    (z_isinstance : PySem.W.nsIn K mainGlobals "isinstance" = some none)
    (z_bool : PySem.W.nsIn K mainGlobals "bool" = some none)
    (z_str : PySem.W.nsIn K mainGlobals "str" = some none)
    (z_tuple : PySem.W.nsIn K mainGlobals "tuple" = some none)
    (z_list : PySem.W.nsIn K mainGlobals "list" = some none)
    (z_dict : PySem.W.nsIn K mainGlobals "dict" = some none)
    (z_range : PySem.W.nsIn K mainGlobals "range" = some none)
    (z_all : PySem.W.nsIn K mainGlobals "all" = some none)
    (z_max : PySem.W.nsIn K mainGlobals "max" = some none)
    (z_min : PySem.W.nsIn K mainGlobals "min" = some none)
    (z_zip : PySem.W.nsIn K mainGlobals "zip" = some none)
    (z_super : PySem.W.nsIn K mainGlobals "super" = some none)
    (v_LETTERS : PySem.W.nsIn K mainGlobals "LETTERS" = some (some (.str ⟨#[97, 98, 99, 100, 101, 102, 103, 104, 105, 106, 107, 108, 109, 110, 111, 112, 113, 114, 115, 116, 117, 118, 119, 120, 121, 122]⟩ tk0)))
    (v_LETTERS_AND_DIGITS : PySem.W.nsIn K mainGlobals "LETTERS_AND_DIGITS" = some (some (.str ⟨#[97, 98, 99, 100, 101, 102, 103, 104, 105, 106, 107, 108, 109, 110, 111, 112, 113, 114, 115, 116, 117, 118, 119, 120, 121, 122, 48, 49, 50, 51, 52, 53, 54, 55, 56, 57]⟩ tk1)))
    (v_INTEGER_BOUND : PySem.W.nsIn K mainGlobals "INTEGER_BOUND" = some (some (.int 1000000000000000000000000000000000000000000000000000000000000 tk2)))
    (v_LONGEST_TEXT : PySem.W.nsIn K mainGlobals "LONGEST_TEXT" = some (some (.int 60 tk3)))
    (v_LONGEST_NAME : PySem.W.nsIn K mainGlobals "LONGEST_NAME" = some (some (.int 12 tk4)))
    (v_DEEPEST_LIST : PySem.W.nsIn K mainGlobals "DEEPEST_LIST" = some (some (.int 5 tk5)))
    (v_MOST_VALUES : PySem.W.nsIn K mainGlobals "MOST_VALUES" = some (some (.int 50 tk6)))
    (v_DEEPEST_EXPRESSION : PySem.W.nsIn K mainGlobals "DEEPEST_EXPRESSION" = some (some (.int 8 tk7)))
    (v_MOST_LIST_PARTS : PySem.W.nsIn K mainGlobals "MOST_LIST_PARTS" = some (some (.int 10 tk8)))
    (tC1 : PySem.W.nsIn K mainGlobals "PART_COUNTS" = some (some (.ref pC))) (tC2 : He.dicW K pC = some (He.keysIn w.params (partTab.map (·.1)))) (tC3 : LT.valW K pC = some (partTab.map some))
    (tK1 : PySem.W.nsIn K mainGlobals "PART_KINDS" = some (some (.ref pK))) (tK2 : He.dicW K pK = some (He.keysIn w.params (kindTab.map (·.1)))) (tK3 : LT.valK K pK = some (kindTab.map fun q => (some q.1, some q.2)))
    (IS : ET l.prog K mg "InvalidState" "value" CS) (IE : ET l.prog K mg "InvalidExpression" "value" CE)
    : ∃ fd : FuncData, (∀ (s : Shared) (v : Value), BindsTo s fd ⟨[v], []⟩ [("_law_script", v)]) ∧ ∀ base : Heap, K.In base → base.Ns mainGlobals mg → FnOk l.prog w K mg base CX0 20 fa fd ["_law_script"] (spLaw K) := by
  have e := hfa.symm.trans (PySem.W.mg_of X G a35)
  cases e
  have F1 := fun_mk (st := sKind) l1 c1 k1
  have g1 := PySem.W.mg_of X G a1
  have b1 := F1.binds (ps := ["value"]) fun _ _ _ _ _ _ us hl => match us, hl with | [_], _ => rfl
  have F2 := fun_mk (st := sIsValue) l2 c2 k2
  have g2 := PySem.W.mg_of X G a2
  have b2 := F2.binds (ps := ["value"]) fun _ _ _ _ _ _ us hl => match us, hl with | [_], _ => rfl
  have F3 := fun_mk (st := sIsPlain) l3 c3 k3
  have g3 := PySem.W.mg_of X G a3
  have b3 := F3.binds (ps := ["value"]) fun _ _ _ _ _ _ us hl => match us, hl with | [_], _ => rfl
  have F4 := fun_mk (st := sIsText) l4 c4 k4
  have g4 := PySem.W.mg_of X G a4
  have b4 := F4.binds (ps := ["value"]) fun _ _ _ _ _ _ us hl => match us, hl with | [_], _ => rfl
  have F5 := fun_mk (st := sHasOnly) l5 c5 k5
  have g5 := PySem.W.mg_of X G a5
  have b5 := F5.binds (ps := ["text", "characters"]) fun _ _ _ _ _ _ us hl => match us, hl with | [_, _], _ => rfl
  have F6 := fun_mk (st := sIsList) l6 c6 k6
  have g6 := PySem.W.mg_of X G a6
  have b6 := F6.binds (ps := ["value"]) fun _ _ _ _ _ _ us hl => match us, hl with | [_], _ => rfl
  have F7 := fun_mk (st := sIsKey) l7 c7 k7
  have g7 := PySem.W.mg_of X G a7
  have b7 := F7.binds (ps := ["value"]) fun _ _ _ _ _ _ us hl => match us, hl with | [_], _ => rfl
  have F8 := fun_mk (st := sIsName) l8 c8 k8
  have g8 := PySem.W.mg_of X G a8
  have b8 := F8.binds (ps := ["value"]) fun _ _ _ _ _ _ us hl => match us, hl with | [_], _ => rfl
  have F9 := fun_mk (st := sIsState) l9 c9 k9
  have g9 := PySem.W.mg_of X G a9
  have b9 := F9.binds (ps := ["value"]) fun _ _ _ _ _ _ us hl => match us, hl with | [_], _ => rfl
  have F10 := fun_mk (st := sIsVars) l10 c10 k10
  have g10 := PySem.W.mg_of X G a10
  have b10 := F10.binds (ps := ["value"]) fun _ _ _ _ _ _ us hl => match us, hl with | [_], _ => rfl
  have F11 := fun_mk (st := sEqual) l11 c11 k11
  have g11 := PySem.W.mg_of X G a11
  have b11 := F11.binds (ps := ["one", "other"]) fun _ _ _ _ _ _ us hl => match us, hl with | [_, _], _ => rfl
  have F12 := fun_mk (st := sEvaluate) l12 c12 k12
  have g12 := PySem.W.mg_of X G a12
  have b12 := F12.binds (ps := ["expression", "variables"]) fun _ _ _ _ _ _ us hl => match us, hl with | [_, _], _ => rfl
  have F13 := fun_mk (st := sNamesIn) l13 c13 k13
  have g13 := PySem.W.mg_of X G a13
  have b13 := F13.binds (ps := ["expression"]) fun _ _ _ _ _ _ us hl => match us, hl with | [_], _ => rfl
  have F14 := fun_mk (st := sCheckE) l14 c14 k14
  have g14 := PySem.W.mg_of X G a14
  have b14 := F14.binds (ps := ["expression"]) fun _ _ _ _ _ _ us hl => match us, hl with | [_], _ => rfl
  have F15 := fun_mk (st := sIsExpr) l15 c15 k15
  have g15 := PySem.W.mg_of X G a15
  have b15 := F15.binds (ps := ["expression"]) fun _ _ _ _ _ _ us hl => match us, hl with | [_], _ => rfl
  have F16 := fun_mk (st := sNested) l16 c16 k16
  have g16 := PySem.W.mg_of X G a16
  have b16 := F16.binds (ps := ["expression", "depth"]) fun _ _ _ _ _ _ us hl => match us, hl with | [_, _], _ => rfl
  have F17 := fun_mk (st := sIsForm) l17 c17 k17
  have g17 := PySem.W.mg_of X G a17
  have b17 := F17.binds (ps := ["expression"]) fun _ _ _ _ _ _ us hl => match us, hl with | [_], _ => rfl
  have F18 := fun_mk (st := sWritten) l18 c18 k18
  have g18 := PySem.W.mg_of X G a18
  have b18 := F18.binds (ps := ["expression"]) fun _ _ _ _ _ _ us hl => match us, hl with | [_], _ => rfl
  have F19 := fun_mk (st := sEvaluated) l19 c19 k19
  have g19 := PySem.W.mg_of X G a19
  have b19 := F19.binds (ps := ["expression", "variables"]) fun _ _ _ _ _ _ us hl => match us, hl with | [_, _], _ => rfl
  have F20 := fun_mk (st := sLooked) l20 c20 k20
  have g20 := PySem.W.mg_of X G a20
  have b20 := F20.binds (ps := ["name", "variables"]) fun _ _ _ _ _ _ us hl => match us, hl with | [_, _], _ => rfl
  have F21 := fun_mk (st := sApplied) l21 c21 k21
  have g21 := PySem.W.mg_of X G a21
  have b21 := F21.binds (ps := ["word", "values"]) fun _ _ _ _ _ _ us hl => match us, hl with | [_, _], _ => rfl
  have F22 := fun_mk (st := sKinds) l22 c22 k22
  have g22 := PySem.W.mg_of X G a22
  have b22 := F22.binds (ps := ["word", "values"]) fun _ _ _ _ _ _ us hl => match us, hl with | [_, _], _ => rfl
  have F23 := fun_mk (st := sResult) l23 c23 k23
  have g23 := PySem.W.mg_of X G a23
  have b23 := F23.binds (ps := ["word", "values"]) fun _ _ _ _ _ _ us hl => match us, hl with | [_, _], _ => rfl
  have F24 := fun_mk (st := sPool) l24 c24 k24
  have g24 := PySem.W.mg_of X G a24
  have b24 := F24.binds (ps := ["_law_script", "_law_k"]) fun _ _ _ _ _ _ us hl => match us, hl with | [_, _], _ => rfl
  have F25 := fun_mk (st := sDraw) l25 c25 k25
  have g25 := PySem.W.mg_of X G a25
  have b25 := F25.binds (ps := ["_law_pool_here", "_law_many"]) fun _ _ _ _ _ _ us hl => match us, hl with | [_, _], _ => rfl
  have F26 := fun_mk (st := sWhole) l26 c26 k26
  have g26 := PySem.W.mg_of X G a26
  have b26 := F26.binds (ps := ["_law_thing"]) fun _ _ _ _ _ _ us hl => match us, hl with | [_], _ => rfl
  have F27 := fun_mk (st := sSmall) l27 c27 k27
  have g27 := PySem.W.mg_of X G a27
  have b27 := F27.binds (ps := ["_law_thing", "_law_levels"]) fun _ _ _ _ _ _ us hl => match us, hl with | [_, _], _ => rfl
  have F28 := fun_mk (st := sWithin) l28 c28 k28
  have g28 := PySem.W.mg_of X G a28
  have b28 := F28.binds (ps := ["_law_thing"]) fun _ _ _ _ _ _ us hl => match us, hl with | [_], _ => rfl
  have F29 := fun_mk (st := sPair) l29 c29 k29
  have g29 := PySem.W.mg_of X G a29
  have b29 := F29.binds (ps := ["_law_word", "_law_a", "_law_b"]) fun _ _ _ _ _ _ us hl => match us, hl with | [_, _, _], _ => rfl
  have F30 := fun_mk (st := sLRes) l30 c30 k30
  have g30 := PySem.W.mg_of X G a30
  have b30 := F30.binds (ps := ["_law_term", "_law_names"]) fun _ _ _ _ _ _ us hl => match us, hl with | [_, _], _ => rfl
  have F31 := fun_mk (st := sLNames) l31 c31 k31
  have g31 := PySem.W.mg_of X G a31
  have b31 := F31.binds (ps := ["_law_term"]) fun _ _ _ _ _ _ us hl => match us, hl with | [_], _ => rfl
  have F32 := fun_mk (st := sOnce) l32 c32 k32
  have g32 := PySem.W.mg_of X G a32
  have b32 := F32.binds (ps := ["_law_names"]) fun _ _ _ _ _ _ us hl => match us, hl with | [_], _ => rfl
  have F33 := fun_mk (st := sRTerm) l33 c33 k33
  have g33 := PySem.W.mg_of X G a33
  have b33 := F33.binds (ps := ["_law_pool_here", "_law_depth"]) fun _ _ _ _ _ _ us hl => match us, hl with | [_, _], _ => rfl
  have F34 := fun_mk (st := sNest) l34 c34 k34
  have g34 := PySem.W.mg_of X G a34
  have b34 := F34.binds (ps := ["_law_levels"]) fun _ _ _ _ _ _ us hl => match us, hl with | [_], _ => rfl
  have F35 := fun_mk (st := sLaw) l35 c35 k35
  have m_sum := PySem.W.mg_none_of X G z_sum
  have m_len := PySem.W.mg_none_of X G z_len
  have m_abs := PySem.W.mg_none_of X G z_abs
  have m_int := PySem.W.mg_none_of X G z_int
  have m_isinstance := PySem.W.mg_none_of X G z_isinstance
  have m_bool := PySem.W.mg_none_of X G z_bool
  have m_str := PySem.W.mg_none_of X G z_str
  have m_tuple := PySem.W.mg_none_of X G z_tuple
  have m_list := PySem.W.mg_none_of X G z_list
  have m_dict := PySem.W.mg_none_of X G z_dict
  have m_range := PySem.W.mg_none_of X G z_range
  have m_all := PySem.W.mg_none_of X G z_all
  have m_max := PySem.W.mg_none_of X G z_max
  have m_min := PySem.W.mg_none_of X G z_min
  have m_zip := PySem.W.mg_none_of X G z_zip
  have m_super := PySem.W.mg_none_of X G z_super
  have v1 : ∃ t, mg "LETTERS" = some (.str ltS t) := ⟨_, by rw [ltS_eq]; exact PySem.W.mg_of X G v_LETTERS⟩
  have v2 : ∃ t, mg "LETTERS_AND_DIGITS" = some (.str ldS t) := ⟨_, by rw [ldS_eq]; exact PySem.W.mg_of X G v_LETTERS_AND_DIGITS⟩
  have v3 : ∃ t, mg "INTEGER_BOUND" = some (.int (10 ^ 60) t) := ⟨_, by rw [bound_eq]; exact PySem.W.mg_of X G v_INTEGER_BOUND⟩
  have v4 : ∃ t, mg "LONGEST_TEXT" = some (.int 60 t) := ⟨_, PySem.W.mg_of X G v_LONGEST_TEXT⟩
  have v5 : ∃ t, mg "LONGEST_NAME" = some (.int 12 t) := ⟨_, PySem.W.mg_of X G v_LONGEST_NAME⟩
  have v6 : ∃ t, mg "DEEPEST_LIST" = some (.int 5 t) := ⟨_, PySem.W.mg_of X G v_DEEPEST_LIST⟩
  have v7 : ∃ t, mg "MOST_VALUES" = some (.int 50 t) := ⟨_, PySem.W.mg_of X G v_MOST_VALUES⟩
  have v8 : ∃ t, mg "DEEPEST_EXPRESSION" = some (.int 8 t) := ⟨_, PySem.W.mg_of X G v_DEEPEST_EXPRESSION⟩
  have v9 : ∃ t, mg "MOST_LIST_PARTS" = some (.int 10 t) := ⟨_, PySem.W.mg_of X G v_MOST_LIST_PARTS⟩
  obtain ⟨krows, kt1, kt2⟩ := LT.kinds_mk (w := w) tK2 tK3
  have TKx : TxtK mg := ⟨m_isinstance, m_bool, m_int, m_str, m_tuple⟩
  have TVx : TxtV mg := ⟨m_len, v1, v2, v3, v4, v5⟩
  have TIx : TxtI mg := ⟨m_sum, m_range, m_all, m_len, v6, v7⟩
  have TSx : TxtS mg := ⟨m_isinstance, m_all, m_dict⟩
  have TFx : TxtF K w mg := ⟨m_isinstance, m_len, m_str, m_tuple, v9, pC, PySem.W.mg_of X G tC1, LT.ktab_mk tC2 tC3⟩
  have TRx : TxtR K w mg := ⟨m_len, m_tuple, pK, krows, PySem.W.mg_of X G tK1, kt1, kt2⟩
  have TQx : TxtQ mg := ⟨m_isinstance, m_tuple, m_int, m_bool, m_str, m_list, m_len, m_abs, m_sum⟩
  exact ⟨_, fun s v => .of_eq rfl, fun base _ _ =>
    have GT : FnOk l.prog w K mg base CX0 2 f4 _ ["value"] (spB isText) := ok_isText F4 F1 b1 g1 TKx F5 b5 g5 TVx
    have GX : FnOk l.prog w K mg base CX0 3 f3 _ ["value"] (spB isPlain) := ok_isPlain F3 F1 b1 g1 TKx F4 b4 g4 GT TVx
    have GY : FnOk l.prog w K mg base CX0 3 f7 _ ["value"] (spB isKey) := ok_isKey F7 F4 b4 g4 GT TVx
    have GL : FnOk l.prog w K mg base CX0 4 f6 _ ["value"] spIsList := ok_isList F6 F1 b1 g1 TKx F3 b3 g3 GX TIx
    have GV : FnOk l.prog w K mg base CX0 5 f2 _ ["value"] spVal := ok_isVal F2 F1 b1 g1 TKx F6 b6 g6 GL F3 b3 g3 GX
    have GN : FnOk l.prog w K mg base CX0 4 f8 _ ["value"] (spB isName) := ok_isName F8 F7 b7 g7 GY F5 b5 g5 TVx
    have GS : FnOk l.prog w K mg base CX0 6 f9 _ ["value"] (spStK stOk) := ok_isStK F9 F7 b7 g7 GY F2 b2 g2 GV TSx
    have GR : FnOk l.prog w K mg base CX0 7 f10 _ ["value"] (spStK varsOk) := ok_isVars F10 F9 b9 g9 GS F8 b8 g8 GN TSx
    have GE : FnOk l.prog w K mg base CX0 2 f11 _ ["one", "other"] spEq := ok_equal F11 F1 b1 g1 TKx ⟨m_len, m_list, m_zip⟩
    have GFo : FnOk l.prog w K mg base CX0 1 f17 _ ["expression"] spForm := ok_form F17 TFx
    have GNe : FnOk l.prog w K mg base CX0 15 f16 _ ["expression", "depth"] (spNest 9) := ok_nest F16 b16 g16 F17 b17 g17 GFo F2 b2 g2 GV F8 b8 g8 GN 9
    have GIe : FnOk l.prog w K mg base CX0 16 f15 _ ["expression"] spExpr := ok_isExpr F15 F16 b16 g16 GNe v8
    have GC : FnOk l.prog w K mg base (L2.CX l.prog w) 17 f14 _ ["expression"] (spCheck CE) := ok_check F14 F15 b15 g15 GIe m_super IE.toEK
    have GW : FnOk l.prog w K mg base CX0 10 f18 _ ["expression"] (spWritten 9) := ok_written F18 b18 g18 9 (by decide)
    have GNa : FnOk l.prog w K mg base (L2.CX l.prog w) 18 f13 _ ["expression"] (spNames CE) := ok_names F13 F14 b14 g14 GC F18 b18 g18 GW m_list
    have GKi : FnOk l.prog w K mg base CX0 2 f22 _ ["word", "values"] spKinds := ok_kinds F22 F1 b1 g1 TKx TRx
    have GRe : FnOk l.prog w K mg base CX0 3 f23 _ ["word", "values"] spResult := ok_result F23 F11 b11 g11 GE TRx
    have GA : FnOk l.prog w K mg base CX0 6 f21 _ ["word", "values"] spApplied := ok_applied F21 F22 b22 g22 GKi F23 b23 g23 GRe F2 b2 g2 GV m_len
    have GEd : FnOk l.prog w K mg base CX0 15 f19 _ ["expression", "variables"] (spEvd 8) := ok_evd F19 b19 g19 F20 b20 g20 F21 b21 g21 GA 8
    have GEv : FnOk l.prog w K mg base (L2.CX l.prog w) 18 f12 _ ["expression", "variables"] (spEvaluate CE CS) := ok_evaluate F12 F14 b14 g14 GC F10 b10 g10 GR F19 b19 g19 GEd m_super IS.toEK
    have GLr : FnOk l.prog w K mg base CX0 16 f30 _ ["_law_term", "_law_names"] (spLRes 8) := ok_lres F30 b30 g30 F29 b29 g29 F27 b27 g27 F28 b28 g28 F26 b26 g26 TQx 8
    have GOn : FnOk l.prog w K mg base CX0 1 f32 _ ["_law_names"] spOnce := ok_once F32 m_list m_dict
    have GLN : FnOk l.prog w K mg base CX0 10 f31 _ ["_law_term"] (spLN 9) := ok_ln F31 b31 g31 TQx 9 (by decide)
    have GRa : FnOk l.prog w K mg base CX0 7 f33 _ ["_law_pool_here", "_law_depth"] spRA := ok_rall F33 b33 g33 F25 b25 g25 ⟨m_range, m_tuple⟩
    ok_law F35 F12 b12 g12 GEv F13 b13 g13 GNa F30 b30 g30 GLr F32 b32 g32 GOn F31 b31 g31 GLN F24 b24 g24 (ok_pool F24 ⟨m_sum, m_len, m_abs, m_int⟩) F33 b33 g33 GRa F25 b25 g25 F34 b34 g34 ⟨m_range, m_max, m_min, m_len, m_list⟩⟩
theorem walk {l : PySem.W.OpenLaw} {q : Program} {loose : List Str} {XP : (Str → Option Value) → Heap → Prop} {YP : World → Heap → Prop} {d : DefRec} {K : Params → PySem.W.Frag} (hn : l.most = some 63) (hdf : d.params.defaults = [])
    (hY : ∀ (w : World) (h : Heap), YP w h → (K w.params).In h)
    (F : ∀ (w : World) (mg : Str → Option Value) (fa : Addr) (h : Heap), (K w.params).In h → h.Ns mainGlobals mg → mg d.name = some (.ref fa) →
      ∃ fd : FuncData, (∀ (s : Shared) (u : Value), BindsTo s fd ⟨[u], []⟩ [("_law_script", u)]) ∧ ∀ base : Heap, (K w.params).In base → base.Ns mainGlobals mg → FnOk l.prog w (K w.params) mg base CX0 20 fa fd ["_law_script"] (spLaw (K w.params))) :
    PySem.W.WalkO q loose XP YP l.row.toRowW d [] (fun f vs => PySem.call f vs) :=
  L2.walk_of (n := 63) (k := 20) (x := "_law_script") (CX := fun _ => CX0) (sp := fun w => spLaw (K w.params)) hn (by decide) hdf ⟨rfl, by decide, by decide⟩ hY F (fun _ _ a ns hl _ hS => ⟨a, ns, rfl, hS, hl, fun _ => rfl⟩) fun _ _ _ _ _ z => z
end My

open PySem PySem.W PyProof.Rows in
set_option maxRecDepth 100000 in
set_option maxHeartbeats 0 in
theorem PySem.Challenge.cw_mendedruns_k03_whole_values_of_expressio_holds : PySem.Challenge.rw_mendedruns_k03_whole_values_of_expressio.Holds := by
  w_on; o_law; k_head; (case hw => w_witness2)
  k_fill
  refine My.walk (l := PySem.Challenge.rw_mendedruns_k03_whole_values_of_expressio) rfl rfl (fun w h Y => PySem.W.kIn_of Y) ?F
  case F =>
    intro w mg fa h KX G hmg
    refine' My.all_mk KX G hmg ?a1 ?l1 ?c1 ?k1 ?a2 ?l2 ?c2 ?k2 ?a3 ?l3 ?c3 ?k3 ?a4 ?l4 ?c4 ?k4 ?a5 ?l5 ?c5 ?k5 ?a6 ?l6 ?c6 ?k6 ?a7 ?l7 ?c7 ?k7 ?a8 ?l8 ?c8 ?k8 ?a9 ?l9 ?c9 ?k9 ?a10 ?l10 ?c10 ?k10 ?a11 ?l11 ?c11 ?k11 ?a12 ?l12 ?c12 ?k12 ?a13 ?l13 ?c13 ?k13 ?a14 ?l14 ?c14 ?k14 ?a15 ?l15 ?c15 ?k15 ?a16 ?l16 ?c16 ?k16 ?a17 ?l17 ?c17 ?k17 ?a18 ?l18 ?c18 ?k18 ?a19 ?l19 ?c19 ?k19 ?a20 ?l20 ?c20 ?k20 ?a21 ?l21 ?c21 ?k21 ?a22 ?l22 ?c22 ?k22 ?a23 ?l23 ?c23 ?k23 ?a24 ?l24 ?c24 ?k24 ?a25 ?l25 ?c25 ?k25 ?a26 ?l26 ?c26 ?k26 ?a27 ?l27 ?c27 ?k27 ?a28 ?l28 ?c28 ?k28 ?a29 ?l29 ?c29 ?k29 ?a30 ?l30 ?c30 ?k30 ?a31 ?l31 ?c31 ?k31 ?a32 ?l32 ?c32 ?k32 ?a33 ?l33 ?c33 ?k33 ?a34 ?l34 ?c34 ?k34 ?a35 ?l35 ?c35 ?k35 ?z_sum ?z_len ?z_abs ?z_int ?z_isinstance ?z_bool ?z_str ?z_tuple ?z_list ?z_dict ?z_range ?z_all ?z_max ?z_min ?z_zip ?z_super ?v_LETTERS ?v_LETTERS_AND_DIGITS ?v_INTEGER_BOUND ?v_LONGEST_TEXT ?v_LONGEST_NAME ?v_DEEPEST_LIST ?v_MOST_VALUES ?v_DEEPEST_EXPRESSION ?v_MOST_LIST_PARTS ?tC1 ?tC2 ?tC3 ?tK1 ?tK2 ?tK3 ?IS ?IE
    (case a1 => k_is)
    (case l1 => k_is)
    (case c1 => k_is)
    (case k1 => k_is)
    (case a2 => k_is)
    (case l2 => k_is)
    (case c2 => k_is)
    (case k2 => k_is)
    (case a3 => k_is)
    (case l3 => k_is)
    (case c3 => k_is)
    (case k3 => k_is)
    (case a4 => k_is)
    (case l4 => k_is)
    (case c4 => k_is)
    (case k4 => k_is)
    (case a5 => k_is)
    (case l5 => k_is)
    (case c5 => k_is)
    (case k5 => k_is)
    (case a6 => k_is)
    (case l6 => k_is)
    (case c6 => k_is)
    (case k6 => k_is)
    (case a7 => k_is)
    (case l7 => k_is)
    (case c7 => k_is)
    (case k7 => k_is)
    (case a8 => k_is)
    (case l8 => k_is)
    (case c8 => k_is)
    (case k8 => k_is)
    (case a9 => k_is)
    (case l9 => k_is)
    (case c9 => k_is)
    (case k9 => k_is)
    (case a10 => k_is)
    (case l10 => k_is)
    (case c10 => k_is)
    (case k10 => k_is)
    (case a11 => k_is)
    (case l11 => k_is)
    (case c11 => k_is)
    (case k11 => k_is)
    (case a12 => k_is)
    (case l12 => k_is)
    (case c12 => k_is)
    (case k12 => k_is)
    (case a13 => k_is)
    (case l13 => k_is)
    (case c13 => k_is)
    (case k13 => k_is)
    (case a14 => k_is)
    (case l14 => k_is)
    (case c14 => k_is)
    (case k14 => k_is)
    (case a15 => k_is)
    (case l15 => k_is)
    (case c15 => k_is)
    (case k15 => k_is)
    (case a16 => k_is)
    (case l16 => k_is)
    (case c16 => k_is)
    (case k16 => k_is)
    (case a17 => k_is)
    (case l17 => k_is)
    (case c17 => k_is)
    (case k17 => k_is)
    (case a18 => k_is)
    (case l18 => k_is)
    (case c18 => k_is)
    (case k18 => k_is)
    (case a19 => k_is)
    (case l19 => k_is)
    (case c19 => k_is)
    (case k19 => k_is)
    (case a20 => k_is)
    (case l20 => k_is)
    (case c20 => k_is)
    (case k20 => k_is)
    (case a21 => k_is)
    (case l21 => k_is)
    (case c21 => k_is)
    (case k21 => k_is)
    (case a22 => k_is)
    (case l22 => k_is)
    (case c22 => k_is)
    (case k22 => k_is)
    (case a23 => k_is)
    (case l23 => k_is)
    (case c23 => k_is)
    (case k23 => k_is)
    (case a24 => k_is)
    (case l24 => k_is)
    (case c24 => k_is)
    (case k24 => k_is)
    (case a25 => k_is)
    (case l25 => k_is)
    (case c25 => k_is)
    (case k25 => k_is)
    (case a26 => k_is)
    (case l26 => k_is)
    (case c26 => k_is)
    (case k26 => k_is)
    (case a27 => k_is)
    (case l27 => k_is)
    (case c27 => k_is)
    (case k27 => k_is)
    (case a28 => k_is)
    (case l28 => k_is)
    (case c28 => k_is)
    (case k28 => k_is)
    (case a29 => k_is)
    (case l29 => k_is)
    (case c29 => k_is)
    (case k29 => k_is)
    (case a30 => k_is)
    (case l30 => k_is)
    (case c30 => k_is)
    (case k30 => k_is)
    (case a31 => k_is)
    (case l31 => k_is)
    (case c31 => k_is)
    (case k31 => k_is)
    (case a32 => k_is)
    (case l32 => k_is)
    (case c32 => k_is)
    (case k32 => k_is)
    (case a33 => k_is)
    (case l33 => k_is)
    (case c33 => k_is)
    (case k33 => k_is)
    (case a34 => k_is)
    (case l34 => k_is)
    (case c34 => k_is)
    (case k34 => k_is)
    (case a35 => k_is)
    (case l35 => k_is)
    (case c35 => k_is)
    (case k35 => k_is)
    (case z_sum => k_is)
    (case z_len => k_is)
    (case z_abs => k_is)
    (case z_int => k_is)
    (case z_isinstance => k_is)
    (case z_bool => k_is)
    (case z_str => k_is)
    (case z_tuple => k_is)
    (case z_list => k_is)
    (case z_dict => k_is)
    (case z_range => k_is)
    (case z_all => k_is)
    (case z_max => k_is)
    (case z_min => k_is)
    (case z_zip => k_is)
    (case z_super => k_is)
    (case v_LETTERS => k_is)
    (case v_LETTERS_AND_DIGITS => k_is)
    (case v_INTEGER_BOUND => k_is)
    (case v_LONGEST_TEXT => k_is)
    (case v_LONGEST_NAME => k_is)
    (case v_DEEPEST_LIST => k_is)
    (case v_MOST_VALUES => k_is)
    (case v_DEEPEST_EXPRESSION => k_is)
    (case v_MOST_LIST_PARTS => k_is)
    (case tC1 => k_is)
    (case tC2 => kernel_rfl)
    (case tC3 => kernel_rfl)
    (case tK1 => k_is)
    (case tK2 => kernel_rfl)
    (case tK3 => kernel_rfl)
    (case IS =>
        refine' My.et_mk My.bVE My.xtS KX G ?uISnoany ?uIStopS ?uIShn ?uISq ?uISov ?uISi1 ?uISi2 ?uISl ?uISc ?uISd ?uISfl ?uISce ?uISsp ?uISsB ?uISsC ?uISsa ?uIShd ?uIShf ?uISga ?uISgg ?uISeC ?uISty ?uISte ?uISkp
        (case uIShn => k_is)
        (case uISi1 => k_is)
        (case uISi2 => k_is)
        (case uISl => k_is)
        (case uISc => k_is)
        (case uISd => k_is)
        (case uISfl => exact ⟨_, _, rfl, by first | rfl | decide +kernel⟩)
        (case uISce => k_is)
        (case uISnoany => k_is)
        (case uIStopS => decide +kernel)
        (case uISq => kx_is)
        (case uISov => kx_is)
        (case uISsp => ks_is)
        (case uISsB => k_is)
        (case uISsC => k_is)
        (case uISsa => k_is)
        (case uIShd => k_is)
        (case uIShf => k_is)
        (case uISga => k_is)
        (case uISgg => k_is)
        (case uISeC => k_is)
        (case uISty => k_is)
        (case uISte => kernel_rfl)
        (case uISkp => k_is))
    (case IE =>
        refine' My.et_mk My.bVE My.xtE KX G ?uIEnoany ?uIEtopS ?uIEhn ?uIEq ?uIEov ?uIEi1 ?uIEi2 ?uIEl ?uIEc ?uIEd ?uIEfl ?uIEce ?uIEsp ?uIEsB ?uIEsC ?uIEsa ?uIEhd ?uIEhf ?uIEga ?uIEgg ?uIEeC ?uIEty ?uIEte ?uIEkp
        (case uIEhn => k_is)
        (case uIEi1 => k_is)
        (case uIEi2 => k_is)
        (case uIEl => k_is)
        (case uIEc => k_is)
        (case uIEd => k_is)
        (case uIEfl => exact ⟨_, _, rfl, by first | rfl | decide +kernel⟩)
        (case uIEce => k_is)
        (case uIEnoany => k_is)
        (case uIEtopS => decide +kernel)
        (case uIEq => kx_is)
        (case uIEov => kx_is)
        (case uIEsp => ks_is)
        (case uIEsB => k_is)
        (case uIEsC => k_is)
        (case uIEsa => k_is)
        (case uIEhd => k_is)
        (case uIEhf => k_is)
        (case uIEga => k_is)
        (case uIEgg => k_is)
        (case uIEeC => k_is)
        (case uIEty => k_is)
        (case uIEte => kernel_rfl)
        (case uIEkp => k_is))

import PyProof.Rows.All
import Wide.All
import OpenK.AllK
import Wide.FinOn
import HandS.ForMost
import HandS.IsInst
import HandS.Codes
import HandS.TupAny
import HandS.TupLe
import HandS.Zip
import HandS.RaiseMore
import HandS.OwnIter
import KE.KDictZip
import KE.KDictCopyH
import PySem.Challenge.RW_mendedruns_k02_equal_values
set_option Elab.async false
set_option linter.all false
set_option maxRecDepth 100000
set_option maxHeartbeats 4000000
namespace My
open PySem PySem.Spec PyProof.Rows L2
/-! ### the text -/
def top (i : Nat) : Stmt := PySem.Challenge.pw_mendedruns_k02_equal_values.main.body.getD i (.Pass ⟨0, 0, 0, 0⟩)
abbrev sKind : Stmt := top 1
abbrev sEqual : Stmt := top 2
abbrev sPool : Stmt := top 4
abbrev sDraw : Stmt := top 5
abbrev sThing : Stmt := top 6
abbrev sShown : Stmt := top 7
abbrev sBent : Stmt := top 8
abbrev sLaw : Stmt := top 9
theorem scPool : FnScope ["_law_script", "_law_k", "_law_cell", "_law_great", "_law_mixed"] ["_law_script", "_law_k"] (defScope sPool) := ⟨rfl, rfl, rfl, by decide +kernel, rfl, by decide +kernel, by decide +kernel⟩
theorem scDraw : FnScope ["_law_pool_here", "_law_many", "_law_found"] ["_law_pool_here", "_law_many"] (defScope sDraw) := ⟨rfl, rfl, rfl, by decide +kernel, rfl, by decide +kernel, by decide +kernel⟩

/-! ### heaps -/
theorem same_upd {H : Hp} {p : Addr} {o : HO} (h : H p = none) : Same H (upd H p o) := fun b x e => by
  rw [upd_ne (ne_of_none e h)]
  exact e
/-- all that stands elsewhere than at p stays -/
def Off (p : Addr) (H H' : Hp) : Prop := ∀ b o, b ≠ p → H b = some o → H' b = some o
theorem Off.refl (p : Addr) (H : Hp) : Off p H H := fun _ _ _ e => e
theorem Off.trans {p : Addr} {H H1 H2 : Hp} (a : Off p H H1) (b : Off p H1 H2) : Off p H H2 := fun c o n e => b c o n (a c o n e)
theorem Off.of_same {p : Addr} {H H' : Hp} (s : Same H H') : Off p H H' := fun b o _ e => s b o e
theorem Off.upd {p : Addr} {H : Hp} {o : HO} : Off p H (upd H p o) := fun b u n e => by
  rw [upd_ne n]
  exact e
/-- a pool: two numbers -/
def PoolAt (H : Hp) (p : Addr) : Prop := ∃ g m : Int, H p = some (.lst [.int g, .int m]) ∧ 0 ≤ g ∧ 0 ≤ m ∧ m < 2147483647
theorem PoolAt.same {H H' : Hp} {p : Addr} (P : PoolAt H p) (s : Same H H') : PoolAt H' p := by
  obtain ⟨g, m, e, h⟩ := P
  exact ⟨g, m, s _ _ e, h⟩
theorem cut63 {ns : List Int} (h : ns.length ≤ 63) : cutV (ns.map V.int) none (some 63) = ns.map V.int := by
  unfold cutV
  rw [HT.sIx_none, show HT.sIx (ns.map V.int).length (ns.map V.int).length (some 63) = min 63 (ns.map V.int).length from HT.sIx_nat _ _ 63]
  rw [List.drop_zero, List.length_map, Nat.min_eq_right h, Nat.sub_zero]
  exact List.take_of_length_le (by rw [List.length_map]; exact Nat.le_refl _)

structure TxtP (mg : Str → Option Value) : Prop where
  sum : mg "sum" = none
  len : mg "len" = none
  abs : mg "abs" = none
  int : mg "int" = none

def spPool (K : PySem.W.Frag) : Sp := fun vs H Q _ => ∃ (a : Addr) (ns : List Int) (k : Nat), vs = [.ref a, .int (k : Int)] ∧ SqL K H a (ns.map V.int) ∧ ns.length ≤ 63 ∧ k < 64 ∧
  ∀ H' p, Same H H' → H p = none → PoolAt H' p → Q (.ref p) H'
def spDraw : Sp := fun vs H Q _ => ∃ (p : Addr) (n : Int), vs = [.ref p, .int n] ∧ 0 < n ∧ n < 1000 ∧ PoolAt H p ∧
  ∀ (r : Int) (g m : Int), 0 ≤ r → r < n → 0 ≤ g → 0 ≤ m → m < 2147483647 → Q (.int r) (upd H p (.lst [.int g, .int m]))
section
variable {P : Program} {w : World} {K : PySem.W.Frag} {mg : Str → Option Value} {base : Heap}
theorem ok_pool {f : Addr} {fd : FuncData} (F : Fun K "_law_pool" "_law_pool" sPool f fd) (T : TxtP mg) : FnOk P w K mg base CX0 1 f fd ["_law_script", "_law_k"] (spPool K) := by
  refine F.ok scPool (fun vs H Q E h => ?_) (fun cdv A outer s H vs Q E hr h => ?_)
  · obtain ⟨a, ns, k, rfl, _⟩ := h
    rfl
  · obtain ⟨a, ns, k, rfl, hS, hlen, hk, q⟩ := h
    refine ⟨_, pss_cons (ps_set (i := 2) scPool.nd rfl (.inl rfl) (pe_op op_add (pe_op op_mul pe_int (pe_callB (cr_sum rfl) (by rfl) T.sum (by decide +kernel) (pa_cons (pe_slice sl_list (pv 0) po_none (po_some pe_int)) pa_nil))) (pv 1)))
      (C8.pss_cut (ps_if (pt_cmpR op_lt (pv 1) (pe_callB call_len_seq (by rfl) T.len PySem.boot_len (pa_cons (pv 0) pa_nil)) (nomark _)) (pss_one (ps_set (i := 2) scPool.nd rfl (.inl rfl) (pe_ix ix_list (pv 0) (pv 1) (fun _ _ => rfl)))) pss_nil)
      (pss_cons (ps_set (i := 3) scPool.nd rfl (.inl rfl) (pe_callB call_abs (by rfl) T.abs (by decide +kernel) (pa_cons (pv 2) pa_nil)))
      (pss_cons (ps_set (i := 4) scPool.nd rfl (.inl rfl) (pe_op op_mod (pe_op op_mul (pe_op op_add (pe_op op_add (pe_op op_add (pe_op op_mod (pv 3) pe_int) (pe_op op_mul (pe_op op_mul pe_int (pv 1)) (pv 1))) (pe_op op_mul pe_int (pv 1))) pe_int) pe_int) pe_int))
      (pss_one (ps_ret (pe_lst (pa_cons (pe_op op_mul (pv 3) (pe_callTy call_int1 (by rfl) T.int (by decide +kernel) (pa_cons (pe_cmpR op_ge (pv 3) (pe_op op_pow pe_int pe_int) (nomark _)) pa_nil))) (pa_cons (pe_op op_mod (pe_op op_mul (pv 4) (pv 4)) pe_int) pa_nil)))))))), ?_⟩
    refine ⟨.ref a, rfl, 63, rfl, a, _, rfl, hS, fun p np => ?_⟩
    rw [cut63 hlen]
    have s1 : Same H (upd H p (.lst (ns.map V.int))) := same_upd np
    refine ⟨p, ns, rfl, .inl (.inl upd_same), _, _, rfl, rfl, .inl ⟨by decide, by decide⟩, _, rfl, _, _, rfl, rfl, ?_⟩
    refine ⟨fun σ H' => H' = upd H p (.lst (ns.map V.int)) ∧ ∃ c : Int, σ = [some (.ref a), some (.int k), some (.int c), none, none], ?_, ?_⟩
    · refine ⟨_, rfl, _, rfl, a, _, rfl, .inl (s1.seq hS), _, _, rfl, rfl, _, rfl, ?_⟩
      refine ite2 (fun hc => ?_) (fun _ => ?_)
      · have hc' := of_decide_eq_true hc
        rw [List.length_map] at hc'
        have hkn : k < ns.length := by omega
        refine ⟨_, rfl, _, rfl, a, _, _, .int ns[k], rfl, rfl, s1.seq hS, atI_nat ?_, ?_⟩
        · rw [List.getElem?_map, List.getElem?_eq_getElem hkn]
          rfl
        · exact ⟨rfl, ns[k], rfl⟩
      · exact ⟨rfl, _, rfl⟩
    · rintro σ' H' ⟨rfl, c, rfl⟩
      refine ⟨_, rfl, c, rfl, ?_⟩
      have hg : ∃ g : Int, (if c < 0 then -c else c) = g ∧ 0 ≤ g := ⟨_, rfl, by split <;> omega⟩
      obtain ⟨g, eg, hg⟩ := hg
      rw [eg]
      refine ⟨_, rfl, _, _, rfl, rfl, by show (0 : Int) < 2147483629; decide, ?_⟩
      refine ⟨_, rfl, _, _, rfl, rfl, .inl ⟨by decide, by decide⟩, _, rfl, _, _, rfl, rfl, .inr ⟨by omega, by omega⟩, _, _, rfl, rfl, ?_⟩
      refine ⟨_, rfl, _, _, rfl, rfl, .inl ⟨by decide, by decide⟩, _, _, rfl, rfl, _, _, rfl, rfl, _, _, rfl, rfl, .inr ⟨by decide, by decide⟩, _, _, rfl, rfl, by show (0 : Int) < 2147483647; decide, ?_⟩
      have hm := Int.emod_nonneg ((g % 2147483629 + 7919 * (k : Int) * (k : Int) + 31 * (k : Int) + 17) * 48271) (show (2147483647 : Int) ≠ 0 by decide)
      have hm2 := Int.emod_lt_of_pos ((g % 2147483629 + 7919 * (k : Int) * (k : Int) + 31 * (k : Int) + 17) * 48271) (show (0 : Int) < 2147483647 by decide)
      generalize em : (g % 2147483629 + 7919 * (k : Int) * (k : Int) + 31 * (k : Int) + 17) * 48271 % 2147483647 = m at hm hm2
      refine ⟨_, rfl, _, rfl, _, _, rfl, rfl, ⟨by decide, by decide, by decide⟩, _, _, rfl, rfl, .inr ⟨_, rfl, _, _, rfl, rfl, .inr ?_, ?_⟩⟩
      · split <;> exact ⟨by decide, by decide⟩
      refine ⟨_, rfl, _, rfl, _, _, rfl, rfl, .inl ⟨by omega, by omega⟩, _, _, rfl, rfl, by show (0 : Int) < 2147483629; decide, ?_⟩
      refine ⟨by show 2 ≤ sizeLine; decide, fun p2 np2 => ?_⟩
      have np2' : H p2 = none := s1.free np2
      refine q _ p2 (s1.trans (same_upd np2)) np2' ⟨_, _, upd_same, ?_, Int.emod_nonneg _ (by decide), ?_⟩
      · exact Int.mul_nonneg hg (by split <;> decide)
      · have h3 := Int.emod_lt_of_pos (m * m) (show (0 : Int) < 2147483629 by decide)
        omega
theorem ok_draw {f : Addr} {fd : FuncData} (F : Fun K "_law_draw" "_law_draw" sDraw f fd) : FnOk P w K mg base CX0 1 f fd ["_law_pool_here", "_law_many"] spDraw := by
  refine F.ok scDraw (fun vs H Q E h => ?_) (fun cdv A outer s H vs Q E hr h => ?_)
  · obtain ⟨p, n, rfl, _⟩ := h
    rfl
  · obtain ⟨p, n, rfl, hn, hn2, ⟨g, m, hp, hg, hm, hm2⟩, q⟩ := h
    refine ⟨_, pss_cons (ps_if (pt_cmpR op_gt (pe_ix ix_list (pv 0) pe_int (fun _ _ => rfl)) pe_int (nomark _))
        (pss_cons (ps_set (i := 2) scDraw.nd rfl (.inl rfl) (pe_op op_mod (pe_ix ix_list (pv 0) pe_int (fun _ _ => rfl)) (pv 1)))
        (pss_cons (ps_asg (pe_op op_fdiv (pe_ix ix_list (pv 0) pe_int (fun _ _ => rfl)) (pv 1)) (pg_sub (pv 0) pe_int set_list))
        (pss_one (ps_ret (pv 2))))) pss_nil)
      (pss_cons (ps_asg (pe_op op_mod (pe_op op_add (pe_op op_mul (pe_ix ix_list (pv 0) pe_int (fun _ _ => rfl)) pe_int) pe_int) pe_int) (pg_sub (pv 0) pe_int set_list))
      (pss_one (ps_ret (pe_op op_mod (pe_op op_fdiv (pe_op op_mod (pe_op op_mul (pe_ix ix_list (pv 0) pe_int (fun _ _ => rfl)) (pe_ix ix_list (pv 0) pe_int (fun _ _ => rfl))) pe_int) pe_int) (pv 1))))), ?_⟩
    have at0 : atI [V.int g, V.int m] 0 = some (.int g) := rfl
    have at1 : atI [V.int g, V.int m] 1 = some (.int m) := rfl
    have hS : SqL K H p [V.int g, V.int m] := SqL.of hp
    refine ⟨_, rfl, p, _, _, _, rfl, rfl, hS, at0, _, _, rfl, rfl, _, rfl, ?_⟩
    refine ite2 (fun hc => ?_) (fun _ => ?_)
    · refine ⟨_, rfl, p, _, _, _, rfl, rfl, hS, at0, _, rfl, _, _, rfl, rfl, hn, ?_⟩
      refine ⟨_, rfl, p, _, _, _, rfl, rfl, hS, at0, _, rfl, _, _, rfl, rfl, ⟨hn, by omega⟩, ?_⟩
      refine ⟨_, rfl, p, _, _, 0, rfl, rfl, hp, rfl, ?_⟩
      refine ⟨_, rfl, ?_⟩
      exact q _ _ _ (Int.emod_nonneg _ (by omega)) (Int.emod_lt_of_pos _ hn) (Int.ediv_nonneg hg (by omega)) hm hm2
    · refine ⟨_, rfl, p, _, _, _, rfl, rfl, hS, at1, _, _, rfl, rfl, .inr ⟨by decide, by decide⟩, _, _, rfl, rfl, _, _, rfl, rfl, by show (0 : Int) < 2147483647; decide, ?_⟩
      refine ⟨_, rfl, p, _, _, 1, rfl, rfl, hp, rfl, ?_⟩
      have hy := Int.emod_nonneg (m * 48271 + 11) (show (2147483647 : Int) ≠ 0 by decide)
      have hy2 := Int.emod_lt_of_pos (m * 48271 + 11) (show (0 : Int) < 2147483647 by decide)
      have hS2 : SqL K (upd H p (.lst [V.int g, V.int ((m * 48271 + 11) % 2147483647)])) p [V.int g, V.int ((m * 48271 + 11) % 2147483647)] := SqL.of upd_same
      have at2 : atI [V.int g, V.int ((m * 48271 + 11) % 2147483647)] 1 = some (.int ((m * 48271 + 11) % 2147483647)) := rfl
      refine ⟨_, rfl, p, _, _, _, rfl, rfl, hS2, at2, _, rfl, p, _, _, _, rfl, rfl, hS2, at2, _, _, rfl, rfl, .inl ⟨by omega, by omega⟩, _, _, rfl, rfl, by show (0 : Int) < 2147483629; decide, _, _, rfl, rfl, ⟨by decide, by decide⟩, _, rfl, _, _, rfl, rfl, hn, ?_⟩
      exact q _ _ _ (Int.emod_nonneg _ (by omega)) (Int.emod_lt_of_pos _ hn) hg hy hy2
end
end My
/-! list(zip(t, u)) of two tuples -/
namespace LZ
open PySem PySem.Spec PyProof.Rows L2 RZ PySem.W
theorem zip_no_len : typeLookup (.type "zip") "__len__" = pure none := by rw [typeLookup_type, builtinLookup_eq_fast]; kernel_rfl
theorem zip_no_hint : typeLookup (.type "zip") "__length_hint__" = pure none := by rw [typeLookup_type, builtinLookup_eq_fast]; kernel_rfl
section
variable {prog : Program} {w : World} {A : Around} {E : Value → Shared → Prop} {s : Shared}
theorem item_held {z TI TO T i1 i2 l1 l2 : Addr} {f : Bool} {oT : Obj} {k1 k2 : Nat} {xs ys : Array Value} {x y : Value} {Q : Value → Shared → Prop} (D : ZipApart z TI TO i1 i2 l1 l2)
    (hz : IsZipHeld s.heap z TI TO T f) (hT : s.heap.get? T = some oT) (hTI : IsPair s.heap TI (.ref i1) (.ref i2))
    (h1 : s.heap.IsTupleIter i1 l1 k1) (h2 : s.heap.IsTupleIter i2 l2 k2) (hl1 : s.heap.IsTuple l1 xs) (hl2 : s.heap.IsTuple l2 ys) (hx : xs[k1]? = some x) (hy : ys[k2]? = some y)
    (hQ : ∀ h', IsZipHeld h' z TI TO T true → h'.IsTupleIter i1 l1 (k1 + 1) → h'.IsTupleIter i2 l2 (k2 + 1) → IsPair h' s.heap.objs.size x y → h'.objs.size = s.heap.objs.size + 1 →
      (∀ c o, c ≠ z → c ≠ i1 → c ≠ i2 → s.heap.get? c = some o → h'.get? c = some o) → Q (.ref s.heap.objs.size) { s with heap := h' }) :
    wpAny (model prog w) A (Builtin.«zip.__next__» ⟨[.ref z], []⟩) (fun fin s' => ∃ v, fin = .done (.ret v) ∧ Q v s') E s := by
  show wpAny _ _ (field (.ref z) 2 >>= _) _ _ _
  refine wpAny_bind (wpAny_field hz rfl (x := .bool false) rfl ?_)
  show wpAny _ _ (field (.ref z) 3 >>= _) _ _ _
  refine wpAny_bind (wpAny_field hz rfl (x := .ref TI) rfl ?_)
  refine wpAny_bind (wpAny_seqItems hTI rfl ?_)
  show wpAny _ _ (Builtin.SmallTypes.ownedTupleIsFree (.ref z) >>= _) _ _ _
  refine wpAny_bind (wpAny_tupleHeld_zip hz hT fun h₁ hz₁ hs₁ => ?_)
  simp only [Bool.false_eq_true, if_false]
  refine wpAny_bind ?_
  rw [← Array.forIn_toList]
  simp only [List.forIn_cons, List.forIn_nil]
  refine wpAny_bind (wpAny_bind (wpAny_holding ?_))
  show wpAny _ _ (Builtin.SmallTypes.nextOf (.ref i1) >>= _) _ _ _
  refine wpAny_bind (nextOf_tuple_item (s := { s with heap := h₁ }) (h1.extBut hs₁.extBut D.i1z) (hl1.extBut hs₁.extBut D.l1z) hx fun h₂ h1₂ hs₂ => wpAny_pure ?_)
  refine wpAny_pure ?_
  refine wpAny_bind (wpAny_bind (wpAny_holding ?_))
  show wpAny _ _ (Builtin.SmallTypes.nextOf (.ref i2) >>= _) _ _ _
  refine wpAny_bind (nextOf_tuple_item (s := { s with heap := h₂ }) ((h2.extBut hs₁.extBut D.i2z).extBut hs₂.extBut D.i12.symm) ((hl2.extBut hs₁.extBut D.l2z).extBut hs₂.extBut D.l2i1) hy fun h₃ h2₃ hs₃ => wpAny_pure ?_)
  refine wpAny_pure (wpAny_pure ?_)
  show wpAny _ _ (newTuple [x, y] >>= _) _ _ _
  refine wpAny_bind (wpAny_newTuple ?_)
  have hsz : h₃.objs.size = s.heap.objs.size := by rw [hs₃.1, hs₂.1, hs₁.1]
  have hz₃ : IsZipHeld h₃ z TI TO T true := hs₃.extBut _ _ D.i2z.symm (hs₂.extBut _ _ D.i1z.symm hz₁)
  have hk : ∀ c o, c ≠ z → c ≠ i1 → c ≠ i2 → s.heap.get? c = some o → h₃.get? c = some o := fun c o c1 c2 c3 e => hs₃.extBut _ _ c3 (hs₂.extBut _ _ c2 (hs₁.extBut _ _ c1 e))
  have h1₃ : h₃.IsTupleIter i1 l1 (k1 + 1) := h1₂.extBut hs₃.extBut D.i12
  refine wpAny_pure ⟨_, rfl, ?_⟩
  show Q (.ref h₃.objs.size) _
  have hp : IsPair (h₃.push { cls := .type "tuple", data := .seq #[x, y] }) h₃.objs.size x y := Heap.get?_push_size _ rfl
  have hz4 : (h₃.push { cls := .type "tuple", data := .seq #[x, y] }).objs.size = h₃.objs.size + 1 := Heap.size_push ..
  rw [hsz] at hp hz4 ⊢
  exact hQ _ (Heap.get?_push_of_some _ hz₃) (h1₃.at fun o e => Heap.get?_push_of_some _ e) (h2₃.at fun o e => Heap.get?_push_of_some _ e) hp hz4 fun c o c1 c2 c3 e => Heap.get?_push_of_some _ (hk c o c1 c2 c3 e)
theorem end_held {z TI TO T i1 i2 l1 l2 : Addr} {f : Bool} {oT : Obj} {k1 k2 : Nat} {xs ys : Array Value} {Q : Fin → Shared → Prop} (hh : A.handled = none) (D : ZipApart z TI TO i1 i2 l1 l2)
    (hz : IsZipHeld s.heap z TI TO T f) (hT : s.heap.get? T = some oT) (hTI : IsPair s.heap TI (.ref i1) (.ref i2))
    (h1 : s.heap.IsTupleIter i1 l1 k1) (h2 : s.heap.IsTupleIter i2 l2 k2) (hl1 : s.heap.IsTuple l1 xs) (hl2 : s.heap.IsTuple l2 ys) (hend : xs[k1]? = none ∨ ys[k2]? = none)
    (hE : ∀ h' e, (∀ c o, c ≠ z → c ≠ i1 → c ≠ i2 → s.heap.get? c = some o → h'.get? c = some o) → (∃ o, h'.get? e = some o ∧ o.cls = .type "StopIteration") → E (.ref e) { s with heap := h' }) :
    wpAny (model prog w) A (Builtin.«zip.__next__» ⟨[.ref z], []⟩) Q E s := by
  show wpAny _ _ (field (.ref z) 2 >>= _) _ _ _
  refine wpAny_bind (wpAny_field hz rfl (x := .bool false) rfl ?_)
  show wpAny _ _ (field (.ref z) 3 >>= _) _ _ _
  refine wpAny_bind (wpAny_field hz rfl (x := .ref TI) rfl ?_)
  refine wpAny_bind (wpAny_seqItems hTI rfl ?_)
  show wpAny _ _ (Builtin.SmallTypes.ownedTupleIsFree (.ref z) >>= _) _ _ _
  refine wpAny_bind (wpAny_tupleHeld_zip hz hT fun h₁ hz₁ hs₁ => ?_)
  simp only [Bool.false_eq_true, if_false]
  refine wpAny_bind ?_
  rw [← Array.forIn_toList]
  simp only [List.forIn_cons, List.forIn_nil]
  refine wpAny_bind (wpAny_bind (wpAny_holding ?_))
  show wpAny _ _ (Builtin.SmallTypes.nextOf (.ref i1) >>= _) _ _ _
  cases hx : xs[k1]? with
  | none =>
    refine wpAny_bind (nextOf_tuple_end (s := { s with heap := h₁ }) hh (h1.extBut hs₁.extBut D.i1z) (hl1.extBut hs₁.extBut D.l1z) hx fun h₂ e hs₂ he => ?_)
    exact hE h₂ e (fun c o c1 c2 _ x => hs₂ _ _ c2 (hs₁.extBut _ _ c1 x)) he
  | some x =>
    have hy : ys[k2]? = none := by rcases hend with h | h; rw [hx] at h; cases h; exact h
    refine wpAny_bind (nextOf_tuple_item (s := { s with heap := h₁ }) (h1.extBut hs₁.extBut D.i1z) (hl1.extBut hs₁.extBut D.l1z) hx fun h₂ h1₂ hs₂ => wpAny_pure ?_)
    refine wpAny_pure ?_
    refine wpAny_bind (wpAny_bind (wpAny_holding ?_))
    show wpAny _ _ (Builtin.SmallTypes.nextOf (.ref i2) >>= _) _ _ _
    refine wpAny_bind (nextOf_tuple_end (s := { s with heap := h₂ }) hh ((h2.extBut hs₁.extBut D.i2z).extBut hs₂.extBut D.i12.symm) ((hl2.extBut hs₁.extBut D.l2z).extBut hs₂.extBut D.l2i1) hy fun h₃ e hs₃ he => ?_)
    exact hE h₃ e (fun c o c1 c2 c3 x => hs₃ _ _ c3 (hs₂.extBut _ _ c2 (hs₁.extBut _ _ c1 x))) he
theorem next_item_held {z TI TO T i1 i2 l1 l2 : Addr} {f : Bool} {oT : Obj} {k1 k2 : Nat} {xs ys : Array Value} {x y : Value} {Q : Option Value → Shared → Prop} (D : ZipApart z TI TO i1 i2 l1 l2)
    (hz : IsZipHeld s.heap z TI TO T f) (hT : s.heap.get? T = some oT) (hTI : IsPair s.heap TI (.ref i1) (.ref i2))
    (h1 : s.heap.IsTupleIter i1 l1 k1) (h2 : s.heap.IsTupleIter i2 l2 k2) (hl1 : s.heap.IsTuple l1 xs) (hl2 : s.heap.IsTuple l2 ys) (hx : xs[k1]? = some x) (hy : ys[k2]? = some y)
    (hQ : ∀ h', IsZipHeld h' z TI TO T true → h'.IsTupleIter i1 l1 (k1 + 1) → h'.IsTupleIter i2 l2 (k2 + 1) → IsPair h' s.heap.objs.size x y → h'.objs.size = s.heap.objs.size + 1 →
      (∀ c o, c ≠ z → c ≠ i1 → c ≠ i2 → s.heap.get? c = some o → h'.get? c = some o) → Q (some (.ref s.heap.objs.size)) { s with heap := h' }) :
    wpAny (model prog w) A (pyNext (.ref z)) Q E s := by
  have hTy : s.TypeIs (.ref z) "zip" := ⟨_, hz, rfl⟩
  unfold pyNext
  exact wpAny_bind (wpAny_attempt (wpAny_callSpecial?_slot (name := Str.ofString "__next__") hTy F.slot_zip_next
    (wpAny_call_entry F.slot_zip_next hTy F.entry_zip_next
      (item_held D hz hT hTI h1 h2 hl1 hl2 hx hy fun h' a1 a3 a4 a5 a6 a7 => wpAny_pure (hQ h' a1 a3 a4 a5 a6 a7)) (F.args_zip_next_1 _))))
theorem next_end_held {z TI TO T i1 i2 l1 l2 : Addr} {f : Bool} {oT : Obj} {k1 k2 : Nat} {xs ys : Array Value} {Q : Option Value → Shared → Prop} (hh : A.handled = none) (D : ZipApart z TI TO i1 i2 l1 l2)
    (hz : IsZipHeld s.heap z TI TO T f) (hT : s.heap.get? T = some oT) (hTI : IsPair s.heap TI (.ref i1) (.ref i2))
    (h1 : s.heap.IsTupleIter i1 l1 k1) (h2 : s.heap.IsTupleIter i2 l2 k2) (hl1 : s.heap.IsTuple l1 xs) (hl2 : s.heap.IsTuple l2 ys) (hend : xs[k1]? = none ∨ ys[k2]? = none)
    (hQ : ∀ h', (∀ c o, c ≠ z → c ≠ i1 → c ≠ i2 → s.heap.get? c = some o → h'.get? c = some o) → Q none { s with heap := h' }) : wpAny (model prog w) A (pyNext (.ref z)) Q E s := by
  have hTy : s.TypeIs (.ref z) "zip" := ⟨_, hz, rfl⟩
  unfold pyNext
  refine wpAny_bind (wpAny_attempt (wpAny_callSpecial?_slot (name := Str.ofString "__next__") hTy F.slot_zip_next
    (wpAny_call_entry F.slot_zip_next hTy F.entry_zip_next (end_held hh D hz hT hTI h1 h2 hl1 hl2 hend fun h' e hk he => ?_) (F.args_zip_next_1 _))))
  obtain ⟨o, ho, hc⟩ := he
  refine wpAny_bind (wpAny_isInstance (T := "StopIteration") (b := true) ⟨o, ho, hc⟩ isSubtype_stop ?_)
  exact wpAny_pure (hQ _ hk)

/-- the zip at z behind i turns -/
def ZS (h : Heap) (z TI TO i1 i2 a b : Addr) (i : Nat) : Prop :=
  ((IsZip h z TI TO .none ∧ ∃ x y, IsPair h TO x y) ∨ ∃ (T : Addr) (f : Bool) (oT : Obj), T ≠ z ∧ T ≠ i1 ∧ T ≠ i2 ∧ IsZipHeld h z TI TO T f ∧ h.get? T = some oT) ∧
    IsPair h TI (.ref i1) (.ref i2) ∧ h.IsTupleIter i1 a i ∧ h.IsTupleIter i2 b i
theorem ZS.ty {h : Heap} {z TI TO i1 i2 a b : Addr} {i : Nat} (Z : ZS h z TI TO i1 i2 a b i) : ∃ fs, h.get? z = some { cls := .type "zip", dict := none, data := .fields fs, slots := #[] } := by
  rcases Z.1 with ⟨e, _⟩ | ⟨T, f, oT, _, _, _, e, _⟩
  · exact ⟨_, e⟩
  · exact ⟨_, e⟩
theorem ZS.keep {h h' : Heap} {z TI TO i1 i2 a b q : Addr} {i : Nat} (Z : ZS h z TI TO i1 i2 a b i) (k : ∀ c o, c ≠ q → h.get? c = some o → h'.get? c = some o) (nz : z ≠ q) (nTI : TI ≠ q) (nTO : TO ≠ q) (n1 : i1 ≠ q) (n2 : i2 ≠ q)
    (hq : ∃ oq, h'.get? q = some oq) : ZS h' z TI TO i1 i2 a b i := by
  obtain ⟨Z1, Z2, Z3, Z4⟩ := Z
  refine ⟨?_, k _ _ nTI Z2, Z3.at fun o e => k _ o n1 e, Z4.at fun o e => k _ o n2 e⟩
  rcases Z1 with ⟨e, x, y, e2⟩ | ⟨T, f, oT, t1, t2, t3, e, e2⟩
  · exact .inl ⟨k _ _ nz e, x, y, k _ _ nTO e2⟩
  · by_cases hT : T = q
    · obtain ⟨oq, hq⟩ := hq
      exact .inr ⟨T, f, oq, t1, t2, t3, k _ _ nz e, by rw [hT]; exact hq⟩
    · exact .inr ⟨T, f, oT, t1, t2, t3, k _ _ nz e, k _ _ hT e2⟩
theorem ZS.item {z TI TO i1 i2 l1 l2 : Addr} {k : Nat} {xs ys : Array Value} {x y : Value} {Q : Option Value → Shared → Prop} (D : ZipApart z TI TO i1 i2 l1 l2)
    (Z : ZS s.heap z TI TO i1 i2 l1 l2 k) (hl1 : s.heap.IsTuple l1 xs) (hl2 : s.heap.IsTuple l2 ys) (hx : xs[k]? = some x) (hy : ys[k]? = some y)
    (hQ : ∀ h', ZS h' z TI TO i1 i2 l1 l2 (k + 1) → IsPair h' s.heap.objs.size x y →
      (∀ c o, c ≠ z → c ≠ TO → c ≠ i1 → c ≠ i2 → s.heap.get? c = some o → h'.get? c = some o) → Q (some (.ref s.heap.objs.size)) { s with heap := h' }) :
    wpAny (model prog w) A (pyNext (.ref z)) Q E s := by
  obtain ⟨Z1, Z2, Z3, Z4⟩ := Z
  have lz : z < s.heap.objs.size := by
    rcases Z1 with ⟨e, _⟩ | ⟨T, f, oT, _, _, _, e, _⟩
    · exact Heap.lt_size e
    · exact Heap.lt_size e
  have l1' : i1 < s.heap.objs.size := by
    obtain ⟨_, e, _⟩ := Z3
    exact Heap.lt_size e
  have l2' : i2 < s.heap.objs.size := by
    obtain ⟨_, e, _⟩ := Z4
    exact Heap.lt_size e
  rcases Z1 with ⟨e, a, b, eTO⟩ | ⟨T, f, oT, t1, t2, t3, e, eT⟩
  · refine pyNext_zipT_item D e Z2 eTO Z3 Z4 hl1 hl2 hx hy fun h' z' TO' h1' h2' hT hsz hk => ?_
    exact hQ h' ⟨.inr ⟨s.heap.objs.size, false, _, Nat.ne_of_gt lz, Nat.ne_of_gt l1', Nat.ne_of_gt l2', z', hT⟩, hk _ _ D.TIz D.TITO D.TIi1 D.TIi2 Z2, h1', h2'⟩ hT hk
  · refine next_item_held D e eT Z2 Z3 Z4 hl1 hl2 hx hy fun h' z' h1' h2' hT hsz hk => ?_
    exact hQ h' ⟨.inr ⟨T, true, oT, t1, t2, t3, z', hk _ _ t1 t2 t3 eT⟩, hk _ _ D.TIz D.TIi1 D.TIi2 Z2, h1', h2'⟩ hT fun c o c1 _ c3 c4 e => hk c o c1 c3 c4 e
theorem ZS.done {z TI TO i1 i2 l1 l2 : Addr} {k : Nat} {xs ys : Array Value} {Q : Option Value → Shared → Prop} (hh : A.handled = none) (D : ZipApart z TI TO i1 i2 l1 l2)
    (Z : ZS s.heap z TI TO i1 i2 l1 l2 k) (hl1 : s.heap.IsTuple l1 xs) (hl2 : s.heap.IsTuple l2 ys) (hend : xs[k]? = none ∨ ys[k]? = none)
    (hQ : ∀ h', (∀ c o, c ≠ z → c ≠ TO → c ≠ i1 → c ≠ i2 → s.heap.get? c = some o → h'.get? c = some o) → Q none { s with heap := h' }) :
    wpAny (model prog w) A (pyNext (.ref z)) Q E s := by
  obtain ⟨Z1, Z2, Z3, Z4⟩ := Z
  rcases Z1 with ⟨e, a, b, eTO⟩ | ⟨T, f, oT, t1, t2, t3, e, eT⟩
  · exact pyNext_zipT_end hh D e Z2 eTO Z3 Z4 hl1 hl2 hend hQ
  · exact next_end_held hh D e eT Z2 Z3 Z4 hl1 hl2 hend fun h' hk => hQ h' fun c o c1 _ c3 c4 e => hk c o c1 c3 c4 e
end
theorem Same.seqT {K : PySem.W.Frag} {H H' : Hp} {a : Addr} {xs : List V} (e : Same H H') (h : SqT K H a xs) : SqT K H' a xs := by
  rcases h with (h | ⟨o, h⟩) | h
  · exact .inl (.inl (e _ _ h))
  · exact .inl (.inr ⟨o, e _ _ h⟩)
  · exact .inr h
/-- pairs, each a tuple of its own -/
abbrev PairsAt (H : Hp) : List V → List (V × V) → Prop := Paired fun r p => ∃ T, r = V.ref T ∧ H T = some (.tup [p.1, p.2])
theorem PairsAt.keep {H H' : Hp} {q : Addr} (k : ∀ b o, b ≠ q → H b = some o → H' b = some o) (hq : ∀ t, H q ≠ some (.tup t)) : ∀ {rs : List V} {ps : List (V × V)}, PairsAt H rs ps → PairsAt H' rs ps
  | _, _, .nil => .nil
  | _, _, .cons ⟨T, e1, e2⟩ t => .cons ⟨T, e1, k _ _ (fun z => hq _ (by rw [← z]; exact e2)) e2⟩ (PairsAt.keep k hq t)
theorem PairsAt.snoc {H : Hp} {r : V} {p : V × V} (h : ∃ T, r = V.ref T ∧ H T = some (.tup [p.1, p.2])) : ∀ {rs : List V} {ps : List (V × V)}, PairsAt H rs ps → PairsAt H (rs ++ [r]) (ps ++ [p])
  | _, _, .nil => .cons h .nil
  | _, _, .cons h' t => .cons h' (PairsAt.snoc h t)
section
variable {X : Cx} {pins : List (Addr × Obj)} {σ : L2.St} {H0 : Hp} {q z TI TO i1 i2 a b : Addr} {xs ys : List V} {A1 : Around}
theorem zip_loop {Rs : Result → Shared → Prop} (hh : A1.in1.handled = none) (D : ZipApart z TI TO i1 i2 a b) (hl : xs.length = ys.length) (hsz : xs.length < sizeLine) (nq : q ∉ [z, TI, TO, i1, i2]) (hTO : TO < z) (hq0 : H0 q = none)
    (ha : SqT X.K H0 a xs) (hb : SqT X.K H0 b ys)
    (hdone : ∀ acc H s, Inv X pins σ H s → Same H0 H → H q = some (.lst acc) → PairsAt H acc (xs.zip ys) → Rs (.ok (.ret .none)) s) :
    ∀ (m i : Nat) (acc : List V) (H : Hp) (s : Shared), m = xs.length - i → i ≤ xs.length → Inv X pins σ H s → ZS s.heap z TI TO i1 i2 a b i → (∀ c ∈ [z, TI, TO, i1, i2], FpOk X pins H c) → Same H0 H →
      H q = some (.lst acc) → PairsAt H acc ((xs.zip ys).take i) → codeAny (model X.prog X.w) A1 (.builtin "list.extend.loop" ⟨[.ref q, .ref z, .none], []⟩) Rs s := by
  intro m
  induction m with
  | zero =>
    intro i acc H s hm hi I Z hf sm hq hP
    have ei : i = xs.length := by omega
    subst ei
    refine codeAny_builtin PySem.F.entry_extend_loop ?_
    rw [Around.under_plainId PySem.F.plain_extend_loop _]
    show wpAny _ A1.in1 (pyNext (.ref z) >>= _) _ _ s
    obtain ⟨its, rv, p, _⟩ := I.tuple (Same.seqT sm ha)
    obtain ⟨its2, rv2, p2, _⟩ := I.tuple (Same.seqT sm hb)
    have e1 := rv.length
    have e2 := rv2.length
    refine wpAny_bind (ZS.done hh D Z p p2 (.inl (by simp; omega)) fun h' hk => ?_)
    refine wpAny_pure (hdone acc H _ (I.turnedL (t' := s.toks) (ch := [z, TI, TO, i1, i2]) (fun c o hb q =>
      hk c o (fun q' => hb (by simp [q'])) (fun q' => hb (by simp [q'])) (fun q' => hb (by simp [q'])) (fun q' => hb (by simp [q'])) q) hf) sm hq ?_)
    rw [List.take_of_length_le (by rw [List.length_zip]; omega)] at hP
    exact hP
  | succ m ih =>
    intro i acc H s hm hi I Z hf sm hq hP
    have hlt : i < xs.length := by omega
    have hlt2 : i < ys.length := by omega
    refine codeAny_builtin PySem.F.entry_extend_loop ?_
    rw [Around.under_plainId PySem.F.plain_extend_loop _]
    show wpAny _ A1.in1 (pyNext (.ref z) >>= _) _ _ s
    obtain ⟨its, rv, p, _⟩ := I.tuple (Same.seqT sm ha)
    obtain ⟨its2, rv2, p2, _⟩ := I.tuple (Same.seqT sm hb)
    obtain ⟨u, hu, ru⟩ := rv.get (List.getElem?_eq_getElem hlt)
    obtain ⟨u2, hu2, ru2⟩ := rv2.get (List.getElem?_eq_getElem hlt2)
    have accl : acc.length = i := by
      have e := Paired.length hP
      rw [List.length_take, List.length_zip] at e
      omega
    refine wpAny_bind (ZS.item D Z p p2 (x := u) (y := u2) (by simpa using hu) (by simpa using hu2) fun h' Z' hT hk => ?_)
    have new : ObjOk X.prog X.w (upd H s.heap.objs.size (.tup [xs[i], ys[i]])) h' s.heap.objs.size (.tup [xs[i], ys[i]]) :=
      ⟨by show 2 ≤ sizeLine; decide, [u, u2], .cons ru (.cons ru2 .nil), ⟨_, hT, rfl, _, rfl⟩⟩
    have I1 : Inv X pins σ (upd H s.heap.objs.size (.tup [xs[i], ys[i]])) { s with heap := h' } :=
      I.turnedNew (t' := s.toks) (ch := [z, TI, TO, i1, i2]) (fun c o hb q => hk c o (fun q' => hb (by simp [q'])) (fun q' => hb (by simp [q'])) (fun q' => hb (by simp [q'])) (fun q' => hb (by simp [q'])) q) hf (Nat.le_refl _) new
    have nT : H s.heap.objs.size = none := I.hok.fresh (Nat.le_refl _)
    have qT : q ≠ s.heap.objs.size := ne_of_none hq nT
    have hq1 : upd H s.heap.objs.size (.tup [xs[i], ys[i]]) q = some (.lst acc) := by
      rw [upd_ne qT]
      exact hq
    show wpAny _ A1.in1 (updateSeq q (·.push (.ref s.heap.objs.size)) >>= _) _ _ _
    obtain ⟨z1, its3, k, r2, hl3, e⟩ := I1.lstM hq1
    have hr : its3.length = acc.length := hl3.symm
    refine wpAny_bind (wpAny_updateSeq e rfl (wpAny_pure ⟨plainId_quiet PySem.F.plain_extend_loop _, ?_⟩) (by rw [List.size_toArray]; omega) (by show (its3.toArray.push _).size ≤ sizeLine + 1; rw [Array.size_push, List.size_toArray]; omega))
    have I2 := I1.lset (its' := its3 ++ [.ref s.heap.objs.size]) (f := (·.push (.ref s.heap.objs.size))) (ys := acc ++ [.ref s.heap.objs.size]) (t' := s.toks) hq1 e (by simp) (r2.append (.cons (show RelV (.ref s.heap.objs.size) (.ref s.heap.objs.size) from rfl) .nil)) (by rw [List.length_append, List.length_singleton]; omega)
    have lts : ∀ c ∈ [z, TI, TO, i1, i2], c ≠ s.heap.objs.size := by
      intro c hc ec
      have Z0 := Z
      obtain ⟨Z1, Z2, ⟨o3, Z3, _⟩, ⟨o4, Z4, _⟩⟩ := Z0
      have hz : z < s.heap.objs.size := by
        obtain ⟨fs, e⟩ := Z.ty
        exact Heap.lt_size e
      have e' : c = z ∨ c = TI ∨ c = TO ∨ c = i1 ∨ c = i2 := by simpa using hc
      rcases e' with q | q | q | q | q
      · exact absurd (q.symm.trans ec) (Nat.ne_of_lt hz)
      · exact absurd (q.symm.trans ec) (Nat.ne_of_lt (Heap.lt_size Z2))
      · exact absurd (q.symm.trans ec) (Nat.ne_of_lt (Nat.lt_trans hTO hz))
      · exact absurd (q.symm.trans ec) (Nat.ne_of_lt (Heap.lt_size Z3))
      · exact absurd (q.symm.trans ec) (Nat.ne_of_lt (Heap.lt_size Z4))
    have nqs : ∀ c ∈ [z, TI, TO, i1, i2], c ≠ q := fun c hc e => nq (by rw [← e]; exact hc)
    refine ih (i + 1) (acc ++ [.ref s.heap.objs.size]) _ _ (by omega) hlt I2 (Z'.keep (q := q) (fun c o hc ho => ?_) (nqs _ (by simp)) (nqs _ (by simp)) (nqs _ (by simp)) (nqs _ (by simp)) (nqs _ (by simp)) ⟨_, PySem.IsL.update e _⟩) (fun c hc => ⟨?_, (hf c hc).2⟩) (fun c o ho => ?_) upd_same ?_
    · exact (Heap.get?_update_other h' _ (Ne.symm hc)).trans ho
    · rw [upd_ne (nqs c hc), upd_ne (lts c hc)]
      exact (hf c hc).1
    · have hc1 : c ≠ q := ne_of_none ho hq0
      rw [upd_ne hc1, upd_ne (ne_of_none (sm _ _ ho) nT)]
      exact sm _ _ ho
    · have hz : (xs.zip ys)[i]? = some (xs[i], ys[i]) := by
        rw [List.getElem?_eq_getElem (by rw [List.length_zip]; omega)]
        simp
      rw [List.take_add_one, hz]
      refine PairsAt.snoc ⟨_, rfl, ?_⟩ (hP.keep (q := q) (fun c o hc ho => ?_) fun t ht => ?_)
      · rw [upd_ne qT.symm, upd_same]
      · rw [upd_ne hc, upd_ne (ne_of_none ho nT)]
        exact ho
      · rw [hq] at ht
        cases ht

/-- list(zip(t, u)), two tuples of one length -/
def tListZip (K : PySem.W.Frag) (ta : TA) : TE := fun σ H Q => ta σ H fun vs H1 => ∃ (a b : Addr) (xs ys : List V), vs = [.ref a, .ref b] ∧ SqT K H1 a xs ∧ SqT K H1 b ys ∧ xs.length = ys.length ∧ xs.length < sizeLine ∧
  ∀ (q : Addr) (H' : Hp) (rs : List V), H1 q = none → Same H1 H' → H' q = some (.lst rs) → PairsAt H' rs (xs.zip ys) → Q (.ref q) H'
theorem pe_listZip {e e2 : Expr} {ta : TA} {p p2 pos pos2 : Pos} (hc : X.calm = true) (hg : Gl X "list") (hm : X.mg "list" = none) (hg2 : Gl X "zip") (hm2 : X.mg "zip" = none) (he : PA X [e, e2] ta)
    (hs : starEach [e, e2] X.env = (false, eval e X.env) :: starEach [e2] X.env := by rfl) (hpl : (backTo pos2 (starEach [e2] X.env)).any (·.1) = false := by rfl)
    (na : starEach [.Call (.Name "zip" p2) [e, e2] [] pos2] X.env = (false, eval (.Call (.Name "zip" p2) [e, e2] [] pos2) X.env) :: starEach [] X.env := by rfl) :
    PE X (.Call (.Name "list" p) [.Call (.Name "zip" p2) [e, e2] [] pos2] [] pos) (tListZip X.K ta) := by
  refine ⟨fun pins s σ H Q I h => ?_⟩
  refine Call_ (ld_blt I hg hm boot_list (PyProof.Rows.callWith_type1 (args_cons (Call_ (ld_blt I hg2 hm2 PyProof.Rows.boot_zip (PyProof.Rows.callWith_type1 (thn (he.run pos2 pins s σ H _ I h) fun us s1 ⟨vs, H1, I1, r1, q1⟩ => ?_) hs hpl))) na) na))
  obtain ⟨a, b, xs, ys, ex, hqx, hqy, hl, hsz, q1⟩ := q1
  subst ex
  cases r1 with
  | cons r rr =>
    cases rr with
    | cons r' rr =>
      cases rr
      cases r
      cases r'
      have fresh5 : ∀ c, c ∈ [s1.heap.objs.size + 4, s1.heap.objs.size + 2, s1.heap.objs.size + 3, s1.heap.objs.size, s1.heap.objs.size + 1] → FpOk X pins H1 c := fun c hcm => by
        have e' : c = s1.heap.objs.size + 4 ∨ c = s1.heap.objs.size + 2 ∨ c = s1.heap.objs.size + 3 ∨ c = s1.heap.objs.size ∨ c = s1.heap.objs.size + 1 := by simpa using hcm
        have hle : s1.heap.objs.size ≤ c := by omega
        exact I1.fpOk hle (I1.hok.fresh hle)
      obtain ⟨its, rv, p1, _⟩ := I1.tuple hqx
      obtain ⟨its2, rv2, p2, _⟩ := I1.tuple hqy
      obtain ⟨o1, ho1, _⟩ := id p1
      obtain ⟨o2, ho2, _⟩ := id p2
      refine call_zipT (show s1.heap.IsTuple a its.toArray from p1) (show s1.heap.IsTuple b its2.toArray from p2) fun h' hz hTI hTO h1 h2 hsz' hk => args_nil ?_
      have I2 : Inv X pins σ H1 { s1 with heap := h' } := I1.kept (t' := s1.toks) hk
      have D := PySem.W.ktu_apart s1.heap.objs.size a b (Heap.lt_size ho1) (Heap.lt_size ho2)
      let h1' : Heap := h'
      have lz : s1.heap.objs.size + 4 < h'.objs.size := by rw [hsz']; omega
      refine callType_codes (Q₁ := fun obj s₁ => obj = .ref h'.objs.size ∧ s₁ = { s1 with heap := h'.push { cls := .type "list", data := .seq #[] } }) PySem.F.called_list (PySem.F.typeCall_list_1 _) PySem.F.entry_list_init
        (code_list_new _ ⟨rfl, rfl⟩) fun obj s₁ h₁ => ?_
      obtain ⟨rfl, rfl⟩ := h₁
      have hS : (h'.push { cls := .type "list", data := .seq #[] }).get? h'.objs.size = some { cls := .type "list", data := .seq #[] } := Heap.get?_push_size _ rfl
      refine ⟨⟨_, hS, rfl⟩, PySem.F.args_list_init_2 _ _, ?_⟩
      have fr : H1 h'.objs.size = none := I2.hok.fresh (Nat.le_refl _)
      have I3 : Inv X pins σ (upd H1 h'.objs.size (.lst [])) { s1 with heap := h'.push { cls := .type "list", data := .seq #[] } } := I2.lnew (its := []) (t' := s1.toks) .nil (Nat.zero_le _)
      show wpAny _ _ (do let old ← Builtin.List.listItems (.ref h'.objs.size); Builtin.List.listUpdate (.ref h'.objs.size) (fun _ => #[]); letGo old.toList.reverse; Builtin.List.listExtendWith (.ref h'.objs.size) (.ref (s1.heap.objs.size + 4)) .none) _ _ _
      refine wpAny_bind ?_
      unfold Builtin.List.listItems
      refine wpAny_bind (wpAny_seqItems hS rfl (wpAny_pure ?_))
      show wpAny _ _ (updateSeq h'.objs.size (fun _ => #[]) >>= fun _ => letGo (#[] : Array Value).toList.reverse >>= fun _ => Builtin.List.listExtendWith (.ref h'.objs.size) (.ref (s1.heap.objs.size + 4)) .none) _ _ _
      refine wpAny_bind (wpAny_updateSeq hS rfl ?_)
      have I4 := I3.lset (f := fun _ => #[]) (its := []) (its' := []) (ys := []) (t' := s1.toks) upd_same hS rfl .nil (Nat.zero_le _)
      rw [upd_upd] at I4
      refine wpAny_bind (wpAny_letGo ?_)
      have Z0 : ZS h' (s1.heap.objs.size + 4) (s1.heap.objs.size + 2) (s1.heap.objs.size + 3) s1.heap.objs.size (s1.heap.objs.size + 1) a b 0 := ⟨.inl ⟨hz, _, _, hTO⟩, hTI, h1, h2⟩
      have up : ∀ c o, c ≠ h'.objs.size → h'.get? c = some o → ((h'.push { cls := .type "list", data := .seq #[] }).update h'.objs.size (Obj.mapSeq fun _ => #[])).get? c = some o := fun c o hc e =>
        (Heap.get?_update_other _ _ (Ne.symm hc)).trans (Heap.get?_push_of_some _ e)
      have hS4 := PySem.IsL.update hS (fun _ => #[])
      have n4 : ∀ c, c < h'.objs.size → c ≠ h'.objs.size := fun c hc => Nat.ne_of_lt hc
      have lt5 : ∀ c, c ∈ [s1.heap.objs.size + 4, s1.heap.objs.size + 2, s1.heap.objs.size + 3, s1.heap.objs.size, s1.heap.objs.size + 1] → c < h'.objs.size := fun c hcm => by
        have e' : c = s1.heap.objs.size + 4 ∨ c = s1.heap.objs.size + 2 ∨ c = s1.heap.objs.size + 3 ∨ c = s1.heap.objs.size ∨ c = s1.heap.objs.size + 1 := by simpa using hcm
        rw [hsz']
        omega
      have Z4 := Z0.keep (q := h'.objs.size) up (n4 _ (lt5 _ (by simp))) (n4 _ (lt5 _ (by simp))) (n4 _ (lt5 _ (by simp))) (n4 _ (lt5 _ (by simp))) (n4 _ (lt5 _ (by simp))) ⟨_, hS4⟩
      obtain ⟨fs4, hz4⟩ := Z4.ty
      have hT4 : Shared.TypeIs { s1 with heap := (h'.push { cls := .type "list", data := .seq #[] }).update h'.objs.size (Obj.mapSeq fun _ => #[]) } (.ref (s1.heap.objs.size + 4)) "zip" := ⟨_, hz4, rfl⟩
      unfold Builtin.List.listExtendWith
      refine wpAny_bind (wpAny_typeOf hT4 ?_)
      have b1 : Builtin.List.listSameRef (.ref h'.objs.size) (.ref (s1.heap.objs.size + 4)) = false := by simp [Builtin.List.listSameRef, Ne.symm (n4 _ (lt5 _ (List.mem_cons_self)))]
      have b2 : (Value.type "zip" == Value.type "list") = false := by decide
      have b3 : (Value.type "zip" == Value.type "tuple") = false := by decide
      simp only [b1, b2, b3, Bool.or_false, Bool.false_eq_true, if_false]
      refine wpAny_bind (wpAny_pyIter_zip (TI := s1.heap.objs.size + 2) (TO := s1.heap.objs.size + 3) (f0 := .none) (up _ _ (n4 _ (lt5 _ (by simp))) hz) ?_)
      refine wpAny_bind (wpAny_holding ?_)
      unfold Builtin.List.listLengthHint
      refine wpAny_bind (wpAny_specialOf hT4 zip_no_len ?_)
      show wpAny _ _ (specialOf (Value.ref (s1.heap.objs.size + 4)) (Str.ofString "__length_hint__") >>= _) _ _ _
      refine wpAny_bind (wpAny_specialOf hT4 zip_no_hint ?_)
      refine wpAny_pure ?_
      show wpAny _ _ (rule "list.extend.makes-room" >>= fun _ => Builtin.List.listTouch (.ref h'.objs.size) >>= fun _ =>
        again (.builtin "list.extend.loop" ⟨[.ref h'.objs.size, .ref (s1.heap.objs.size + 4), .none], []⟩)) _ _ _
      refine wpAny_bind (wpAny_rule ?_)
      refine wpAny_bind ?_
      show wpAny _ _ (updateSeq h'.objs.size (·.push .none) >>= fun _ => updateSeq h'.objs.size (·.pop)) _ _ _
      refine wpAny_bind (wpAny_updateSeq hS4 rfl ?_)
      have I5 := I4.lset (f := (·.push Value.none)) (its := []) (its' := [Value.none]) (ys := [.non]) (t' := s1.toks) upd_same hS4 (by simp) (.cons (show RelV .non Value.none from rfl) .nil) (by rw [List.length_singleton, sizeLine_eq]; decide)
      have hS5 := PySem.IsL.update hS4 (·.push Value.none)
      refine wpAny_updateSeq hS5 rfl ?_ (by show 1 ≤ sizeLine; rw [sizeLine_eq]; decide) (by show 0 ≤ sizeLine + 1; exact Nat.zero_le _)
      have I6 := I5.lset (f := (·.pop)) (its := [Value.none]) (its' := []) (ys := []) (t' := s1.toks) upd_same hS5 (by rfl) .nil (Nat.zero_le _)
      have hS6 := PySem.IsL.update hS5 (·.pop)
      rw [upd_upd, upd_upd] at I6
      have Z6 := Z4.keep (q := h'.objs.size) (fun c o hc e => (Heap.get?_update_other _ _ (Ne.symm hc)).trans ((Heap.get?_update_other _ _ (Ne.symm hc)).trans e)) (n4 _ (lt5 _ (by simp))) (n4 _ (lt5 _ (by simp))) (n4 _ (lt5 _ (by simp))) (n4 _ (lt5 _ (by simp))) (n4 _ (lt5 _ (by simp))) ⟨_, hS6⟩
      have sm : Same H1 (upd H1 h'.objs.size (.lst [])) := fun c o e => by
        rw [upd_ne (ne_of_none e fr)]
        exact e
      refine wpAny_pure ⟨plainId_quiet PySem.F.plain_extend_loop _, zip_loop (A1 := X.A.in1) (Rs := wants (fun r s₂ => r = .none ∧ EP X pins σ Q (.ref h'.objs.size) s₂) X.xe) (H0 := H1) (xs := xs) (ys := ys) (I1.ok.hd hc) D hl hsz (fun hm => n4 _ (lt5 _ hm) rfl) (Nat.lt_succ_self _) fr hqx hqy (fun acc H' s' I' sm' hq' hP' => ?_) (xs.length - 0) 0 [] _ _ rfl (Nat.zero_le _) I6 Z6 (fun c hcm => ⟨?_, (fresh5 c hcm).2⟩) sm upd_same .nil⟩
      · exact ⟨rfl, .ref h'.objs.size, H', I', rfl, q1 _ _ _ fr sm' hq' hP'⟩
      · rw [upd_ne (n4 _ (lt5 _ hcm))]
        exact (fresh5 c hcm).1
end
end LZ
namespace My
open PySem PySem.Spec PyProof.Rows L2 LZ
/-! ### things -/
inductive T where
  | non | bl (b : Bool) | int (i : Int) | str (x : Str) | oth | tup (ts : List T)
mutual
/-- the thing t is the value v at the heap -/
def Th (H : Hp) : T → V → Prop
  | .non, v => v = .non
  | .bl b, v => v = .bl b
  | .int i, v => v = .int i
  | .str x, v => v = .str x
  | .oth, v => ∃ a, v = .ref a ∧ ((∃ xs, H a = some (.lst xs)) ∨ ∃ kvs, H a = some (.dK kvs))
  | .tup ts, v => ∃ a xs, v = .ref a ∧ H a = some (.tup xs) ∧ xs.length < 1000 ∧ ThAll H ts xs
def ThAll (H : Hp) : List T → List V → Prop
  | [], vs => vs = []
  | t :: ts, vs => ∃ v r, vs = v :: r ∧ Th H t v ∧ ThAll H ts r
end
mutual
def eqT : T → T → Bool
  | .non, .non => true
  | .bl a, .bl b => a == b
  | .int a, .int b => a == b
  | .str a, .str b => decide (a = b)
  | .tup ts, .tup us => eqAll ts us
  | _, _ => false
def eqAll : List T → List T → Bool
  | [], [] => true
  | t :: ts, u :: us => eqT t u && eqAll ts us
  | _, _ => false
end
mutual
def szT : T → Nat
  | .tup ts => 1 + szAll ts
  | _ => 1
def szAll : List T → Nat
  | [] => 0
  | t :: ts => szT t + szAll ts
end
theorem thAll_len {H : Hp} : ∀ {ts : List T} {vs : List V}, ThAll H ts vs → ts.length = vs.length
  | [], _, h => by
    unfold ThAll at h
    rw [h]
    rfl
  | t :: ts, _, h => by
    unfold ThAll at h
    obtain ⟨v, r, rfl, _, h2⟩ := h
    rw [List.length_cons, List.length_cons, thAll_len h2]
theorem eqAll_zip : ∀ (ts us : List T), ts.length = us.length → eqAll ts us = (ts.zip us).all (fun p => eqT p.1 p.2)
  | [], [], _ => by simp [eqAll]
  | t :: ts, u :: us, h => by
    rw [List.length_cons, List.length_cons] at h
    simp only [eqAll, List.zip_cons_cons, List.all_cons]
    rw [eqAll_zip ts us (by omega)]
  | [], u :: us, h => by simp at h
  | t :: ts, [], h => by simp at h
theorem eqAll_len : ∀ (ts us : List T), ts.length ≠ us.length → eqAll ts us = false
  | [], [], h => absurd rfl h
  | t :: ts, u :: us, h => by
    rw [List.length_cons, List.length_cons] at h
    simp only [eqAll]
    rw [eqAll_len ts us (by omega), Bool.and_false]
  | [], u :: us, h => by simp [eqAll]
  | t :: ts, [], h => by simp [eqAll]
mutual
theorem Th.keep {H H' : Hp} (k : ∀ b o, (∀ l, o ≠ .lst l) → H b = some o → H' b = some o) (kl : ∀ b l, H b = some (.lst l) → ∃ l', H' b = some (.lst l')) : ∀ (t : T) (v : V), Th H t v → Th H' t v
  | .non, _, h => h
  | .bl _, _, h => h
  | .int _, _, h => h
  | .str _, _, h => h
  | .oth, _, h => by
    unfold Th at h ⊢
    obtain ⟨a, e, h⟩ := h
    refine ⟨a, e, ?_⟩
    rcases h with ⟨xs, h⟩ | ⟨kvs, h⟩
    · exact .inl (kl _ _ h)
    · exact .inr ⟨kvs, k _ _ (fun l q => nomatch q) h⟩
  | .tup ts, _, h => by
    unfold Th at h ⊢
    obtain ⟨a, xs, e, h1, h2, h3⟩ := h
    exact ⟨a, xs, e, k _ _ (fun l q => nomatch q) h1, h2, ThAll.keep k kl ts xs h3⟩
theorem ThAll.keep {H H' : Hp} (k : ∀ b o, (∀ l, o ≠ .lst l) → H b = some o → H' b = some o) (kl : ∀ b l, H b = some (.lst l) → ∃ l', H' b = some (.lst l')) : ∀ (ts : List T) (vs : List V), ThAll H ts vs → ThAll H' ts vs
  | [], _, h => h
  | t :: ts, _, h => by
    unfold ThAll at h ⊢
    obtain ⟨v, r, e, h1, h2⟩ := h
    exact ⟨v, r, e, Th.keep k kl t v h1, ThAll.keep k kl ts r h2⟩
end
theorem Th.same {H H' : Hp} (s : Same H H') (t : T) (v : V) (h : Th H t v) : Th H' t v := Th.keep (fun b o _ e => s b o e) (fun b l e => ⟨l, s b _ e⟩) t v h
theorem ThAll.same {H H' : Hp} (s : Same H H') (ts : List T) (vs : List V) (h : ThAll H ts vs) : ThAll H' ts vs := ThAll.keep (fun b o _ e => s b o e) (fun b l e => ⟨l, s b _ e⟩) ts vs h

/-! ### kind_of -/
def kindS : T → Str
  | .non => "none"
  | .bl _ => "truth"
  | .int _ => "integer"
  | .str _ => "text"
  | .tup _ => "list"
  | .oth => "other"
structure TxtK (mg : Str → Option Value) : Prop where
  isi : mg "isinstance" = none
  bool : mg "bool" = none
  int : mg "int" = none
  str : mg "str" = none
  tuple : mg "tuple" = none
theorem scKind : FnScope ["value"] ["value"] (defScope sKind) := ⟨rfl, rfl, rfl, by decide +kernel, rfl, by decide +kernel, by decide +kernel⟩
def spKind : Sp := fun vs H Q _ => ∃ (t : T) (v : V), vs = [v] ∧ Th H t v ∧ Q (.str (kindS t)) H
section
variable {P : Program} {w : World} {K : PySem.W.Frag} {mg : Str → Option Value} {base : Heap}
theorem ok_kind {f : Addr} {fd : FuncData} (F : Fun K "kind_of" "kind_of" sKind f fd) (T : TxtK mg) : FnOk P w K mg base CX0 1 f fd ["value"] spKind := by
  refine F.ok scKind (fun vs H Q E h => ?_) (fun cdv A outer s H vs Q E hr h => ?_)
  · obtain ⟨t, v, rfl, _⟩ := h
    rfl
  · obtain ⟨t, v, rfl, ht, q⟩ := h
    refine ⟨_, pss_cons (ps_if (pt_cmpR op_isN (pv 0) pe_non (nomark _)) (pss_one (ps_ret pe_str)) pss_nil)
      (pss_cons (ps_if (pt_val (pe_callB call_isi (by rfl) T.isi PyProof.Rows.boot_isinstance (pa_cons (pv 0) (pa_cons (pe_bltn (v := .ty "bool") (by rfl) T.bool (by decide +kernel) rfl) pa_nil)))) (pss_one (ps_ret pe_str)) pss_nil)
      (pss_cons (ps_if (pt_val (pe_callB call_isi (by rfl) T.isi PyProof.Rows.boot_isinstance (pa_cons (pv 0) (pa_cons (pe_bltn (v := .ty "int") (by rfl) T.int (by decide +kernel) rfl) pa_nil)))) (pss_one (ps_ret pe_str)) pss_nil)
      (pss_cons (ps_if (pt_val (pe_callB call_isi (by rfl) T.isi PyProof.Rows.boot_isinstance (pa_cons (pv 0) (pa_cons (pe_bltn (v := .ty "str") (by rfl) T.str (by decide +kernel) rfl) pa_nil)))) (pss_one (ps_ret pe_str)) pss_nil)
      (pss_cons (ps_if (pt_val (pe_callB call_isi (by rfl) T.isi PyProof.Rows.boot_isinstance (pa_cons (pv 0) (pa_cons (pe_bltn (v := .ty "tuple") (by rfl) T.tuple (by decide +kernel) rfl) pa_nil)))) (pss_one (ps_ret pe_str)) pss_nil)
      (pss_one (ps_ret pe_str)))))), ?_⟩
    cases t with
    | non =>
      unfold Th at ht
      subst ht
      refine ⟨_, rfl, rfl, _, rfl, ?_⟩
      exact iteT q
    | bl b =>
      unfold Th at ht
      subst ht
      refine ⟨_, rfl, rfl, _, rfl, ?_⟩
      refine iteF ⟨_, rfl, _, _, _, _, true, rfl, .ty "bool", .base (.bl b), kit_ty (by decide +kernel), _, rfl, ?_⟩
      exact iteT q
    | int i =>
      unfold Th at ht
      subst ht
      refine ⟨_, rfl, rfl, _, rfl, ?_⟩
      refine iteF ⟨_, rfl, _, _, _, _, false, rfl, .ty "bool", .base (.int i), kit_ty (by decide +kernel), _, rfl, ?_⟩
      refine iteF ⟨_, rfl, _, _, _, _, true, rfl, .ty "int", .base (.int i), kit_ty (by decide +kernel), _, rfl, ?_⟩
      exact iteT q
    | str x =>
      unfold Th at ht
      subst ht
      refine ⟨_, rfl, rfl, _, rfl, ?_⟩
      refine iteF ⟨_, rfl, _, _, _, _, false, rfl, .ty "bool", .base (.str x), kit_ty (by decide +kernel), _, rfl, ?_⟩
      refine iteF ⟨_, rfl, _, _, _, _, false, rfl, .ty "int", .base (.str x), kit_ty (by decide +kernel), _, rfl, ?_⟩
      refine iteF ⟨_, rfl, _, _, _, _, true, rfl, .ty "str", .base (.str x), kit_ty (by decide +kernel), _, rfl, ?_⟩
      exact iteT q
    | tup ts =>
      unfold Th at ht
      obtain ⟨a, xs, rfl, e, _, _⟩ := ht
      refine ⟨_, rfl, rfl, _, rfl, ?_⟩
      refine iteF ⟨_, rfl, _, _, _, _, false, rfl, .ty "bool", .base (.tup e), kit_ty (by decide +kernel), _, rfl, ?_⟩
      refine iteF ⟨_, rfl, _, _, _, _, false, rfl, .ty "int", .base (.tup e), kit_ty (by decide +kernel), _, rfl, ?_⟩
      refine iteF ⟨_, rfl, _, _, _, _, false, rfl, .ty "str", .base (.tup e), kit_ty (by decide +kernel), _, rfl, ?_⟩
      refine iteF ⟨_, rfl, _, _, _, _, true, rfl, .ty "tuple", .base (.tup e), kit_ty (by decide +kernel), _, rfl, ?_⟩
      exact iteT q
    | oth =>
      unfold Th at ht
      obtain ⟨a, rfl, e⟩ := ht
      have ty : ∃ n, TyOf K H (.ref a) (.type n) ∧ (n = "list" ∨ n = "dict") := by
        rcases e with ⟨xs, e⟩ | ⟨kvs, e⟩
        · exact ⟨_, .lst e, .inl rfl⟩
        · exact ⟨_, .dK e, .inr rfl⟩
      obtain ⟨n, ty, hn⟩ := ty
      refine ⟨_, rfl, rfl, _, rfl, ?_⟩
      refine iteF ⟨_, rfl, _, _, _, _, false, rfl, .ty "bool", .base ty, kit_ty (by rcases hn with rfl | rfl <;> decide +kernel), _, rfl, ?_⟩
      refine iteF ⟨_, rfl, _, _, _, _, false, rfl, .ty "int", .base ty, kit_ty (by rcases hn with rfl | rfl <;> decide +kernel), _, rfl, ?_⟩
      refine iteF ⟨_, rfl, _, _, _, _, false, rfl, .ty "str", .base ty, kit_ty (by rcases hn with rfl | rfl <;> decide +kernel), _, rfl, ?_⟩
      refine iteF ⟨_, rfl, _, _, _, _, false, rfl, .ty "tuple", .base ty, kit_ty (by rcases hn with rfl | rfl <;> decide +kernel), _, rfl, ?_⟩
      exact iteF q
end
end My
namespace My
open PySem PySem.Spec PyProof.Rows L2 LZ
theorem scEqual : FnScope ["one", "other", "pairs", "first", "second", "kind"] ["one", "other"] (defScope sEqual) := ⟨rfl, rfl, rfl, by decide +kernel, rfl, by decide +kernel, by decide +kernel⟩
/-! ### kinds -/
theorem kind_list {t : T} (h : kindS t = "list") : ∃ ts, t = .tup ts := by
  cases t with
  | tup ts => exact ⟨ts, rfl⟩
  | _ => exact absurd h (by simp only [kindS]; decide +kernel)
theorem kind_oth {t : T} (h : kindS t = "other") : t = .oth := by
  cases t with
  | oth => rfl
  | _ => exact absurd h (by simp only [kindS]; decide +kernel)
theorem kind_ne {s t : T} (h : kindS s ≠ kindS t) : eqT s t = false := by
  cases s <;> cases t <;> first | (simp [eqT]; done) | exact absurd rfl h
theorem eqT_oth (t : T) : eqT .oth t = false := by
  cases t <;> simp [eqT]
theorem kind_eq {H : Hp} {s t : T} {u v : V} (h : kindS s = kindS t) (h1 : kindS s ≠ "other") (h2 : kindS s ≠ "list") (hu : Th H s u) (hv : Th H t v) : scal u v = true ∧ eqT s t = decide (u = v) := by
  cases s <;> cases t <;> first
    | exact absurd h (by simp only [kindS]; decide +kernel)
    | exact absurd rfl h1
    | exact absurd rfl h2
    | skip
  · simp only [Th] at hu hv
    subst hu hv
    exact ⟨rfl, by simp [eqT]⟩
  · simp only [Th] at hu hv
    subst hu hv
    rename_i a b
    exact ⟨rfl, by cases a <;> cases b <;> simp [eqT]⟩
  · simp only [Th] at hu hv
    subst hu hv
    rename_i a b
    refine ⟨rfl, ?_⟩
    simp only [eqT]
    by_cases e : a = b
    · subst e
      simp
    · have e2 : ¬ V.int a = V.int b := fun q => e (V.int.inj q)
      rw [decide_eq_false e2, beq_eq_false_iff_ne.mpr e]
  · simp only [Th] at hu hv
    subst hu hv
    rename_i a b
    refine ⟨rfl, ?_⟩
    simp only [eqT]
    by_cases e : a = b
    · subst e
      simp
    · have e2 : ¬ V.str a = V.str b := fun q => e (V.str.inj q)
      rw [decide_eq_false e2, decide_eq_false e]
/-! ### what is still to be compared -/
abbrev Pend (H H' : Hp) : List V → List (T × T) → Prop := Paired fun r p => ∃ (a : Addr) (u v : V), r = .ref a ∧ H' a = some (.tup [u, v]) ∧ Th H p.1 u ∧ Th H p.2 v
theorem Pend.last {H H' : Hp} : ∀ {rs : List V} {ps : List (T × T)}, Pend H H' rs ps → rs ≠ [] →
    ∃ (rs' : List V) (ps' : List (T × T)) (a : Addr) (u v : V) (p : T × T), rs = rs' ++ [.ref a] ∧ ps = ps' ++ [p] ∧ Pend H H' rs' ps' ∧ H' a = some (.tup [u, v]) ∧ Th H p.1 u ∧ Th H p.2 v
  | _, _, .nil, h => absurd rfl h
  | _, _, .cons (a := r) (b := p) ⟨a, u, v, e, h1, h2, h3⟩ .nil, _ => ⟨[], [], a, u, v, p, by rw [e]; rfl, rfl, .nil, h1, h2, h3⟩
  | _, _, .cons (a := r) (b := p) h (.cons h' t), _ => by
    obtain ⟨rs', ps', a, u, v, q, e1, e2, h1, h2, h3, h4⟩ := Pend.last (.cons h' t) (by simp)
    exact ⟨r :: rs', p :: ps', a, u, v, q, by rw [e1]; rfl, by rw [e2]; rfl, .cons h h1, h2, h3, h4⟩
theorem Pend.keep {H H1 H2 : Hp} (k : ∀ b t, H1 b = some (.tup t) → H2 b = some (.tup t)) : ∀ {rs : List V} {ps : List (T × T)}, Pend H H1 rs ps → Pend H H2 rs ps
  | _, _, .nil => .nil
  | _, _, .cons ⟨a, u, v, e, h1, h2⟩ t => .cons ⟨a, u, v, e, k _ _ h1, h2⟩ (Pend.keep k t)
theorem Pend.app {H H' : Hp} : ∀ {rs rs2 : List V} {ps ps2 : List (T × T)}, Pend H H' rs ps → Pend H H' rs2 ps2 → Pend H H' (rs ++ rs2) (ps ++ ps2)
  | _, _, _, _, .nil, h => h
  | _, _, _, _, .cons h t, h2 => .cons h (Pend.app t h2)
theorem pend_zip {H H' : Hp} : ∀ {ts us : List T} {xs ys rs : List V}, ThAll H ts xs → ThAll H us ys → PairsAt H' rs (xs.zip ys) → ts.length = us.length → Pend H H' rs (ts.zip us)
  | [], [], xs, ys, rs, h1, h2, h3, _ => by
    simp only [ThAll] at h1 h2
    subst h1 h2
    cases h3
    exact .nil
  | t :: ts, u :: us, xs, ys, rs, h1, h2, h3, hl => by
    simp only [ThAll] at h1 h2
    obtain ⟨v, r, rfl, a1, a2⟩ := h1
    obtain ⟨v2, r2, rfl, b1, b2⟩ := h2
    rw [List.zip_cons_cons] at h3
    cases h3 with
    | cons h3 t3 =>
      obtain ⟨A, e, eA⟩ := h3
      rw [List.length_cons, List.length_cons] at hl
      exact .cons ⟨A, v, v2, e, eA, a1, b1⟩ (pend_zip a2 b2 t3 (by omega))
  | [], u :: us, _, _, _, _, _, _, hl => by simp at hl
  | t :: ts, [], _, _, _, _, _, _, hl => by simp at hl
theorem pairsKeepT {H H' : Hp} (k : ∀ b t, H b = some (.tup t) → H' b = some (.tup t)) : ∀ {rs : List V} {ps : List (V × V)}, PairsAt H rs ps → PairsAt H' rs ps
  | _, _, .nil => .nil
  | _, _, .cons ⟨A, e1, e2⟩ t => .cons ⟨A, e1, k _ _ e2⟩ (pairsKeepT k t)
def mu (ps : List (T × T)) : Nat := (ps.map fun p => szT p.1).sum
theorem szT_pos (t : T) : 1 ≤ szT t := by
  cases t <;> simp [szT]
theorem mu_app (ps qs : List (T × T)) : mu (ps ++ qs) = mu ps + mu qs := by
  unfold mu
  rw [List.map_append, List.sum_append]
theorem mu_len : ∀ ps : List (T × T), ps.length ≤ mu ps
  | [] => Nat.zero_le _
  | p :: ps => by
    have h := mu_len ps
    have h2 := szT_pos p.1
    show ps.length + 1 ≤ (szT p.1 :: ps.map fun p => szT p.1).sum
    rw [List.sum_cons]
    unfold mu at h
    omega
theorem mu_zip : ∀ ts us : List T, ts.length = us.length → mu (ts.zip us) = szAll ts
  | [], [], _ => by simp [mu, szAll]
  | t :: ts, u :: us, h => by
    rw [List.length_cons, List.length_cons] at h
    have ih := mu_zip ts us (by omega)
    rw [List.zip_cons_cons]
    show (szT t :: (ts.zip us).map fun p => szT p.1).sum = szAll (t :: ts)
    rw [List.sum_cons]
    unfold mu at ih
    rw [ih]
    simp [szAll]
  | [], u :: us, hl => by simp at hl
  | t :: ts, [], hl => by simp at hl
theorem szAll_len : ∀ ts : List T, ts.length ≤ szAll ts
  | [] => Nat.zero_le _
  | t :: ts => by
    have h := szAll_len ts
    have h2 := szT_pos t
    simp only [szAll, List.length_cons]
    omega
structure TxtE (mg : Str → Option Value) : Prop where
  len : mg "len" = none
  list : mg "list" = none
  zip : mg "zip" = none
def spEq : Sp := fun vs H Q _ => ∃ (d e : T) (x y : V), vs = [x, y] ∧ Th H d x ∧ Th H e y ∧ szT d < 100000 ∧ ∀ H', Same H H' → Q (.bl (eqT d e)) H'
section
variable {P : Program} {w : World} {K : PySem.W.Frag} {mg : Str → Option Value} {base : Heap}
theorem ok_equal {f fK : Addr} {fd fdK : FuncData} (F : Fun K "are_equal" "are_equal" sEqual f fd) (FK : Fun K "kind_of" "kind_of" sKind fK fdK) (bK : Binds K fdK ["value"] []) (gK : mg "kind_of" = some (.ref fK)) (TK : TxtK mg) (TE : TxtE mg) :
    FnOk P w K mg base CX0 2 f fd ["one", "other"] spEq := by
  have GK : FnOk P w K mg base CX0 1 fK fdK ["value"] spKind := ok_kind FK TK
  refine F.ok scEqual (fun vs H Q E h => ?_) (fun cdv A outer s H vs Q E hr h => ?_)
  · obtain ⟨d, e, x, y, rfl, _⟩ := h
    rfl
  · obtain ⟨d, e, x, y, rfl, hd, he, hsz, q⟩ := h
    refine ⟨_, pss_cons (ps_set (i := 2) scEqual.nd rfl (.inl rfl) (pe_lst (pa_cons (pe_tup (pa_cons (pv 0) (pa_cons (pv 1) pa_nil))) pa_nil)))
      (pss_cons (ps_while PassesOwn.never (pt_truth (pv 2) (by intro _; rfl))
        (pss_cons (ps_asg (pe_bm0 PySem.F.plainAttrs_list PySem.F.slot_list_pop PySem.F.type_list_pop mt_pop (pv 2)) (pg_tup (by rfl) (pgs_cons (pg_name (i := 3) scEqual.nd rfl (.inl rfl)) (pgs_cons (pg_name (i := 4) scEqual.nd rfl (.inl rfl)) pgs_nil))))
        (pss_cons (ps_set (i := 5) scEqual.nd rfl (.inl rfl) (pe_call GK hr rfl gK FK.kp bK .nil pass0 (pa_cons (pv 3) pa_nil)))
        (pss_cons (ps_if (PW.pt (pw_or (pt_cmpR op_eq (pv 5) pe_str (nomark _)) (pw_or1 (pt_cmpR op_ne (pv 5) (pe_call GK hr rfl gK FK.kp bK .nil pass0 (pa_cons (pv 4) pa_nil)) (nomark _))))) (pss_one (ps_ret pe_bl)) pss_nil)
        (pss_one (ps_if (pt_cmpR op_eq (pv 5) pe_str (nomark _))
          (pss_cons (ps_if (pt_cmpR op_ne (pe_callB call_len_seq (by rfl) TE.len PySem.boot_len (pa_cons (pv 3) pa_nil)) (pe_callB call_len_seq (by rfl) TE.len PySem.boot_len (pa_cons (pv 4) pa_nil)) (nomark _)) (pss_one (ps_ret pe_bl)) pss_nil)
            (pss_one (ps_expr (pe_bm PySem.F.plainAttrs_list PySem.F.slot_list_extend PySem.F.type_list_extend mt_extend (pv 2) (pa_cons (pe_listZip rfl (by rfl) TE.list (by rfl) TE.zip (pa_cons (pv 3) (pa_cons (pv 4) pa_nil))) pa_nil)))))
          (pss_one (ps_if (pt_cmpR op_ne (pv 3) (pv 4) (nomark _)) (pss_one (ps_ret pe_bl)) pss_nil))))))))
      (pss_one (ps_ret pe_bl))), ?_⟩
    refine ⟨_, rfl, _, rfl, by show 2 ≤ sizeLine; decide, fun p0 np0 => ?_⟩
    refine ⟨by show 1 ≤ sizeLine; decide, fun P0 nP0 => ?_⟩
    have s1 : Same H (upd H p0 (.tup [x, y])) := same_upd np0
    have nP : H P0 = none := s1.free nP0
    refine ⟨fun m σ H' => ∃ (rs : List V) (ps : List (T × T)) (s3 s4 s5 : Option V), σ = [some x, some y, some (.ref P0), s3, s4, s5] ∧ Same H H' ∧ H' P0 = some (.lst rs) ∧ Pend H H' rs ps ∧ (ps.all fun p => eqT p.1 p.2) = eqT d e ∧ mu ps ≤ szT d ∧ m = mu ps, ⟨_, [.ref p0], [(d, e)], none, none, none, rfl, s1.trans (same_upd nP0), upd_same, ?_, by simp, by simp [mu], rfl⟩, ?_⟩
    · have n0 : p0 ≠ P0 := ne_of_none (H := upd H p0 (.tup [x, y])) upd_same nP0
      exact .cons ⟨p0, x, y, rfl, by rw [upd_ne n0, upd_same], hd, he⟩ .nil
    · rintro m σ H' ⟨rs, ps, s3, s4, s5, rfl, sm, hP, hpend, hall, hmu, rfl⟩
      have hS : SqL K H' P0 rs := .inl (.inl hP)
      refine ⟨_, rfl, !rs.isEmpty, .inl ⟨rs, hS, rfl⟩, ?_⟩
      by_cases hrs : rs = []
      · subst hrs
        cases hpend
        refine iteF ?_
        have e1 : eqT d e = true := hall.symm
        have q1 := q H' sm
        rw [e1] at q1
        exact q1
      · have hne : (!rs.isEmpty) = true := by
          cases rs with
          | nil => exact absurd rfl hrs
          | cons r rs => rfl
        rw [hne]
        refine iteT ?_
        obtain ⟨rs', ps', a, u, v, p, rfl, rfl, hp1, ha, hu, hv⟩ := hpend.last hrs
        have hmu2 := hmu
        rw [mu_app] at hmu2
        have hmp : mu [p] = szT p.1 := by simp [mu]
        have hlen : rs'.length = ps'.length := Paired.length hp1
        have hml := mu_len ps'
        have na : a ≠ P0 := ne_of ha hP (by intro z; cases z)
        -- first, second = pairs.pop()
        refine ⟨fun σ2 H2 => ∃ (rs2 : List V) (ps2 : List (T × T)) (t3 t4 t5 : Option V), σ2 = [some x, some y, some (.ref P0), t3, t4, t5] ∧ Same H H2 ∧ H2 P0 = some (.lst rs2) ∧ Pend H H2 rs2 ps2 ∧ (ps2.all fun p => eqT p.1 p.2) = eqT d e ∧ mu ps2 ≤ szT d ∧ mu ps2 < mu (ps' ++ [p]), ?_, ?_⟩
        · rintro σ2 H2 ⟨rs2, ps2, t3, t4, t5, e1, e2, e3, e4, e5, e6, e7⟩
          exact ⟨mu ps2, e7, rs2, ps2, t3, t4, t5, e1, e2, e3, e4, e5, e6, rfl⟩
        refine ⟨_, rfl, .inl ⟨rfl, _, hS⟩, P0, _, .ref a, rfl, rfl, hP, ?_, ?_⟩
        · simp
        rw [List.dropLast_concat]
        have ha2 : upd H' P0 (.lst rs') a = some (.tup [u, v]) := by
          rw [upd_ne na]
          exact ha
        refine ⟨a, [u, v], rfl, .inl (.inl ha2), rfl, u, [v], rfl, v, [], rfl, rfl, ?_⟩
        have sm2 : Same H (upd H' P0 (.lst rs')) := fun b o eb => by
          rw [upd_ne (ne_of_none eb nP)]
          exact sm _ _ eb
        have hu2 : Th (upd H' P0 (.lst rs')) p.1 u := Th.same sm2 _ _ hu
        have hv2 : Th (upd H' P0 (.lst rs')) p.2 v := Th.same sm2 _ _ hv
        have hpend2 : Pend H (upd H' P0 (.lst rs')) rs' ps' := hp1.keep fun b t eb => by
          rw [upd_ne (ne_of eb hP (by intro z; cases z))]
          exact eb
        have hall2 : ((ps'.all fun p => eqT p.1 p.2) && eqT p.1 p.2) = eqT d e := by
          rw [List.all_append] at hall
          simpa using hall
        generalize eH : upd H' P0 (.lst rs') = H2 at ha2 sm2 hu2 hv2 hpend2
        have hP2 : H2 P0 = some (.lst rs') := by rw [← eH, upd_same]
        refine ⟨_, rfl, p.1, u, rfl, hu2, ?_⟩
        have fin_false : eqT p.1 p.2 = false → Q (.bl false) H2 := fun z => by
          have e1 : eqT d e = false := by rw [← hall2, z, Bool.and_false]
          have q1 := q H2 sm2
          rw [e1] at q1
          exact q1
        -- if kind == "other" or kind != kind_of(second): return False
        refine ⟨_, rfl, rfl, _, rfl, ?_⟩
        refine ite2 (fun ho => ?_) (fun ho => ?_)
        · refine iteT ?_
          have ho2 : kindS p.1 = "other" := V.str.inj (of_decide_eq_true ho)
          exact fin_false (by rw [kind_oth ho2]; exact eqT_oth _)
        have ho2 : kindS p.1 ≠ "other" := fun z => ho (decide_eq_true (by rw [z]))
        refine ⟨_, rfl, _, rfl, p.2, v, rfl, hv2, rfl, _, rfl, ?_⟩
        refine ite2 (fun hk => ?_) (fun hk => ?_)
        · have hk2 : kindS p.1 ≠ kindS p.2 := fun z => by
            rw [z] at hk
            simp at hk
          exact fin_false (kind_ne hk2)
        have hk2 : kindS p.1 = kindS p.2 := by
          by_cases z : kindS p.1 = kindS p.2
          · exact z
          · have z2 : ¬ V.str (kindS p.1) = V.str (kindS p.2) := fun q => z (V.str.inj q)
            exact absurd (by rw [decide_eq_false z2]; rfl) hk
        -- if kind == "list":
        refine ⟨_, rfl, rfl, _, rfl, ?_⟩
        refine ite2 (fun hli => ?_) (fun hli => ?_)
        · have hli2 : kindS p.1 = "list" := V.str.inj (of_decide_eq_true hli)
          obtain ⟨d1, e1⟩ := p
          obtain ⟨ts, ets⟩ := kind_list hli2
          obtain ⟨us, eus⟩ := kind_list (hk2.symm.trans hli2)
          have ets' : d1 = .tup ts := ets
          have eus' : e1 = .tup us := eus
          subst ets' eus'
          simp only [Th] at hu2 hv2 hu hv
          obtain ⟨a1, xs, rfl, hx, hxl, hxs⟩ := hu2
          obtain ⟨b1, ys, rfl, hy, hyl, hys⟩ := hv2
          have l1 := thAll_len hxs
          have l2 := thAll_len hys
          refine ⟨_, rfl, a1, xs, rfl, .inr (.inl (.inl hx)), _, rfl, b1, ys, rfl, .inr (.inl (.inl hy)), rfl, _, rfl, ?_⟩
          refine ite2 (fun hn => ?_) (fun hn => ?_)
          · refine fin_false ?_
            simp only [eqT]
            refine eqAll_len _ _ fun z => ?_
            rw [show xs.length = ys.length by omega] at hn
            simp at hn
          have hn2 : xs.length = ys.length := by
            by_cases z : xs.length = ys.length
            · exact z
            · have z2 : ¬ V.int ((xs.length : Nat) : Int) = V.int ((ys.length : Nat) : Int) := fun q => z (by have := V.int.inj q; omega)
              exact absurd (by rw [decide_eq_false z2]; rfl) hn
          have hlts : ts.length = us.length := by omega
          -- pairs.extend(list(zip(first, second)))
          refine ⟨_, rfl, .inl ⟨rfl, _, .inl (.inl hP2)⟩, _, rfl, _, rfl, a1, b1, xs, ys, rfl, .inl (.inl hx), .inl (.inl hy), hn2, small1000 (by omega), fun q2 H3 rs3 nq2 sm3 hq3 hps3 => ?_⟩
          have hP3 : H3 P0 = some (.lst rs') := sm3 _ _ hP2
          have hsz1 : mu (ts.zip us) = szAll ts := mu_zip ts us hlts
          have hszt : szT (.tup ts) = 1 + szAll ts := by simp [szT]
          have hmp2 : mu [((.tup ts : T), (.tup us : T))] = 1 + szAll ts := by rw [hmp]; exact hszt
          have hlz : rs3.length = (ts.zip us).length := by
            have e1 := Paired.length hps3
            rw [e1, List.length_zip, List.length_zip]
            omega
          have hz3 := mu_len (ts.zip us)
          refine ⟨P0, q2, rs', rs3, rfl, rfl, hP3, hq3, Nat.le_trans (show rs'.length + rs3.length ≤ 100000 by omega) (by decide), ?_⟩
          have nqP : q2 ≠ P0 := fun z => by
            rw [z, hP2] at nq2
            cases nq2
          have k4 : ∀ b t, H3 b = some (.tup t) → upd H3 P0 (.lst (rs' ++ rs3)) b = some (.tup t) := fun b t eb => by
            rw [upd_ne (ne_of eb hP3 (by intro z; cases z))]
            exact eb
          have hxs0 : ThAll H ts xs ∧ ThAll H us ys := by
            obtain ⟨a2, xs2, e2, h2, _, h3⟩ := hu
            obtain ⟨b2, ys2, e4, h4, _, h5⟩ := hv
            cases e2
            cases e4
            have e5 : xs2 = xs := by
              have := (sm2 _ _ h2).symm.trans hx
              cases this
              rfl
            have e6 : ys2 = ys := by
              have := (sm2 _ _ h4).symm.trans hy
              cases this
              rfl
            subst e5 e6
            exact ⟨h3, h5⟩
          refine ⟨rs' ++ rs3, ps' ++ ts.zip us, _, _, _, rfl, fun b o eb => ?_, upd_same, (hpend2.keep fun b t eb => k4 b t (sm3 _ _ eb)).app (pend_zip hxs0.1 hxs0.2 (pairsKeepT k4 hps3) hlts), ?_, ?_, ?_⟩
          · rw [upd_ne (ne_of_none eb nP)]
            exact sm3 _ _ (sm2 _ _ eb)
          · rw [List.all_append, ← eqAll_zip ts us hlts]
            simp only [eqT] at hall2
            exact hall2
          · rw [mu_app, hsz1]
            omega
          · rw [mu_app, mu_app, hsz1, hmp2]
            omega
        · have hli2 : kindS p.1 ≠ "list" := fun z => hli (decide_eq_true (by rw [z]))
          obtain ⟨hsc, heq⟩ := kind_eq hk2 ho2 hli2 hu2 hv2
          refine ⟨_, rfl, _, rfl, ?_, _, rfl, ?_⟩
          · exact hsc
          refine ite2 (fun hn => ?_) (fun hn => ?_)
          · refine fin_false ?_
            rw [heq]
            simpa using hn
          · have heq2 : eqT p.1 p.2 = true := by
              rw [heq]
              simpa using hn
            have hpos := szT_pos p.1
            refine ⟨rs', ps', _, _, _, rfl, sm2, hP2, hpend2, ?_, by omega, ?_⟩
            · rw [← hall2, heq2, Bool.and_true]
            · rw [mu_app, hmp]
              omega
end
end My
namespace My
open PySem PySem.Spec PyProof.Rows L2 LZ
/-! ### heaps that change mildly: lists stay lists, all else stays -/
structure Mild (H H' : Hp) : Prop where
  oth : ∀ b o, (∀ l, o ≠ .lst l) → H b = some o → H' b = some o
  lst : ∀ b l, H b = some (.lst l) → ∃ l', H' b = some (.lst l')
theorem Mild.refl (H : Hp) : Mild H H := ⟨fun _ _ _ e => e, fun _ l e => ⟨l, e⟩⟩
theorem Mild.of_same {H H' : Hp} (s : Same H H') : Mild H H' := ⟨fun b o _ e => s b o e, fun b l e => ⟨l, s b _ e⟩⟩
theorem Mild.trans {H H1 H2 : Hp} (a : Mild H H1) (b : Mild H1 H2) : Mild H H2 := ⟨fun c o n e => b.oth c o n (a.oth c o n e), fun c l e => by
  obtain ⟨l1, e1⟩ := a.lst c l e
  exact b.lst c l1 e1⟩
theorem Mild.updL {H : Hp} {D : Addr} {l l' : List V} (h : H D = some (.lst l)) : Mild H (upd H D (.lst l')) := ⟨fun b o n e => by
    rw [upd_ne (fun z => by rw [z, h] at e; cases e; exact n _ rfl)]
    exact e, fun b m e => by
    by_cases z : b = D
    · exact ⟨l', by rw [z, upd_same]⟩
    · exact ⟨m, by rw [upd_ne z]; exact e⟩⟩
theorem Mild.off {p : Addr} {H H' : Hp} (o : Off p H H') (h : PoolAt H p) (h' : PoolAt H' p) : Mild H H' := by
  obtain ⟨g, m, e, _⟩ := h
  obtain ⟨g', m', e', _⟩ := h'
  refine ⟨fun b u n eb => o b u (fun z => by rw [z, e] at eb; cases eb; exact n _ rfl) eb, fun b l eb => ?_⟩
  by_cases z : b = p
  · exact ⟨_, by rw [z]; exact e'⟩
  · exact ⟨l, o b _ z eb⟩
theorem Mild.th {H H' : Hp} (m : Mild H H') {t : T} {v : V} (h : Th H t v) : Th H' t v := Th.keep m.oth m.lst t v h
theorem Mild.thAll {H H' : Hp} (m : Mild H H') {ts : List T} {vs : List V} (h : ThAll H ts vs) : ThAll H' ts vs := ThAll.keep m.oth m.lst ts vs h
theorem thAll_snoc {H : Hp} {t : T} {v : V} (h : Th H t v) : ∀ {ts : List T} {vs : List V}, ThAll H ts vs → ThAll H (ts ++ [t]) (vs ++ [v])
  | [], vs, hs => by
    simp only [ThAll] at hs
    subst hs
    simp only [List.nil_append, ThAll]
    exact ⟨v, [], rfl, h, rfl⟩
  | t' :: ts, vs, hs => by
    simp only [ThAll] at hs
    obtain ⟨v', r, rfl, h1, h2⟩ := hs
    simp only [List.cons_append, ThAll]
    exact ⟨v', r ++ [v], rfl, h1, thAll_snoc h h2⟩
theorem thAll_get {H : Hp} : ∀ {ts : List T} {vs : List V} {i : Nat} (_ : ThAll H ts vs) (_ : i < ts.length), ∃ t v, ts[i]? = some t ∧ vs[i]? = some v ∧ Th H t v
  | [], _, _, _, h => by simp at h
  | t :: ts, vs, 0, hs, _ => by
    simp only [ThAll] at hs
    obtain ⟨v, r, rfl, h1, _⟩ := hs
    exact ⟨t, v, rfl, rfl, h1⟩
  | t :: ts, vs, i + 1, hs, h => by
    simp only [ThAll] at hs
    obtain ⟨v, r, rfl, _, h2⟩ := hs
    obtain ⟨t', v', e1, e2, h3⟩ := thAll_get (i := i) h2 (by simpa using h)
    exact ⟨t', v', by simpa using e1, by simpa using e2, h3⟩

/-! ### the things that are drawn -/
def leaves : List T := [.int 0, .int 1, .int 2, .int (-1), .str "", .str "a", .str "1", .non, .bl true, .bl false, .int (10 ^ 40), .tup []]
inductive Gd : Nat → T → Prop
  | leaf {n : Nat} {t : T} : t ∈ leaves → Gd n t
  | tup {n : Nat} {ts : List T} : ts.length ≤ 3 → (∀ t ∈ ts, Gd n t) → Gd (n + 1) (.tup ts)
theorem leaf_sz {t : T} (h : t ∈ leaves) : szT t = 1 := by
  simp only [leaves, List.mem_cons, List.not_mem_nil, or_false] at h
  rcases h with rfl | rfl | rfl | rfl | rfl | rfl | rfl | rfl | rfl | rfl | rfl | rfl <;> simp [szT, szAll]
theorem szAll_le {c : Nat} : ∀ {ts : List T}, (∀ t ∈ ts, szT t ≤ c) → szAll ts ≤ ts.length * c
  | [], _ => by simp [szAll]
  | t :: ts, h => by
    have h1 := h t List.mem_cons_self
    have h2 := szAll_le (c := c) (ts := ts) fun u hu => h u (List.mem_cons_of_mem _ hu)
    simp only [szAll, List.length_cons, Nat.add_mul, Nat.one_mul]
    omega
theorem Gd.sz {n : Nat} {t : T} (h : Gd n t) : szT t ≤ 4 ^ n := by
  induction h with
  | leaf h =>
    rw [leaf_sz h]
    exact Nat.pow_pos (by decide)
  | @tup n ts hl _ ih =>
    have h1 := szAll_le (c := 4 ^ n) ih
    have h2 : ts.length * 4 ^ n ≤ 3 * 4 ^ n := Nat.mul_le_mul_right _ hl
    have h3 : 1 ≤ 4 ^ n := Nat.pow_pos (by decide)
    simp only [szT]
    rw [Nat.pow_succ]
    omega
theorem Gd.up {n : Nat} {t : T} (h : Gd n t) : Gd (n + 1) t := by
  induction h with
  | leaf h => exact .leaf h
  | tup hl _ ih => exact .tup hl ih

theorem tYes_if {σ : L2.St} {H : Hp} {A B : Hp → Prop} (h : A H) : tYes σ H (fun b H3 => if b = true then A H3 else B H3) := by
  show (if true = true then A H else B H)
  rw [if_pos rfl]
  exact h
/-! ### _law_thing -/
structure TxtT (mg : Str → Option Value) : Prop where
  tuple : mg "tuple" = none
  range : mg "range" = none
theorem scThing : FnScope ["_law_pool_here", "_law_depth", "_law_turn"] ["_law_pool_here", "_law_depth"] (defScope sThing) := ⟨rfl, rfl, rfl, by decide +kernel, rfl, by decide +kernel, by decide +kernel⟩
def spThing (n : Nat) : Sp := fun vs H Q _ => ∃ (p : Addr), vs = [.ref p, .int (n : Int)] ∧ PoolAt H p ∧ ∀ (t : T) (v : V) (H' : Hp), Gd n t → Th H' t v → Off p H H' → PoolAt H' p → Q v H'
theorem pool_upd {H : Hp} {p : Addr} {g m : Int} (h1 : 0 ≤ g) (h2 : 0 ≤ m) (h3 : m < 2147483647) : PoolAt (upd H p (.lst [.int g, .int m])) p := ⟨g, m, upd_same, h1, h2, h3⟩
section
variable {P : Program} {w : World} {K : PySem.W.Frag} {mg : Str → Option Value} {base : Heap}
theorem ok_thing {f fD : Addr} {fd fdD : FuncData} (F : Fun K "_law_thing" "_law_thing" sThing f fd) (bF : Binds K fd ["_law_pool_here", "_law_depth"] []) (gF : mg "_law_thing" = some (.ref f))
    (FD : Fun K "_law_draw" "_law_draw" sDraw fD fdD) (bD : Binds K fdD ["_law_pool_here", "_law_many"] []) (gD : mg "_law_draw" = some (.ref fD)) (TT : TxtT mg) :
    ∀ n : Nat, n ≤ 100 → FnOk P w K mg base CX0 (n + 2) f fd ["_law_pool_here", "_law_depth"] (spThing n) := by
  have GD : FnOk P w K mg base CX0 1 fD fdD ["_law_pool_here", "_law_many"] spDraw := ok_draw FD
  have main : ∀ n : Nat, n ≤ 100 → (∀ m, m + 1 = n → FnOk P w K mg base CX0 (m + 2) f fd ["_law_pool_here", "_law_depth"] (spThing m)) → FnOk P w K mg base CX0 (n + 2) f fd ["_law_pool_here", "_law_depth"] (spThing n) := by
    intro n hn ih
    refine F.ok scThing (fun vs H Q E h => ?_) (fun cdv A outer s H vs Q E hr h => ?_)
    · obtain ⟨p, rfl, _⟩ := h
      rfl
    · obtain ⟨p, rfl, hp, q⟩ := h
      -- the leaf's choice
      have leafQ : ∀ (H1 : Hp), Off p H H1 → PoolAt H1 p → ∀ e : Addr, H1 e = none → ∀ l : Addr, upd H1 e (.tup []) l = none → ∀ (r g m : Int), 0 ≤ r → r < 12 → 0 ≤ g → 0 ≤ m → m < 2147483647 →
          ∃ v, atI [V.int 0, .int 1, .int 2, .int (-1), .str "", .str "a", .str "1", .non, .bl true, .bl false, .int (10 ^ 40), .ref e] r = some v ∧
            Q v (upd (upd (upd H1 e (.tup [])) l (.lst [V.int 0, .int 1, .int 2, .int (-1), .str "", .str "a", .str "1", .non, .bl true, .bl false, .int (10 ^ 40), .ref e])) p (.lst [.int g, .int m])) := by
        intro H1 o1 hp1 e he l hl r g m h0 h12 hg hm hm2
        have hel : e ≠ l := ne_of_none (H := upd H1 e (.tup [])) upd_same hl
        have hep : e ≠ p := by
          obtain ⟨_, _, ep, _⟩ := hp1
          exact (ne_of_none ep he).symm
        have hall : ThAll (upd (upd (upd H1 e (.tup [])) l (.lst [V.int 0, .int 1, .int 2, .int (-1), .str "", .str "a", .str "1", .non, .bl true, .bl false, .int (10 ^ 40), .ref e])) p (.lst [.int g, .int m])) leaves [V.int 0, .int 1, .int 2, .int (-1), .str "", .str "a", .str "1", .non, .bl true, .bl false, .int (10 ^ 40), .ref e] := by
          simp only [leaves, ThAll, Th]
          refine ⟨_, _, rfl, rfl, _, _, rfl, rfl, _, _, rfl, rfl, _, _, rfl, rfl, _, _, rfl, rfl, _, _, rfl, rfl, _, _, rfl, rfl, _, _, rfl, rfl, _, _, rfl, rfl, _, _, rfl, rfl, _, _, rfl, rfl, _, _, rfl, ⟨e, [], rfl, ?_, by decide, rfl⟩, rfl⟩
          rw [upd_ne hep, upd_ne hel, upd_same]
        obtain ⟨t, v, e1, e2, h3⟩ := thAll_get (i := r.toNat) hall (by simp only [leaves, List.length_cons, List.length_nil]; omega)
        refine ⟨v, at_of (show r = ((r.toNat : Nat) : Int) by omega) e2, q t v _ (.leaf (List.mem_of_getElem? e1)) h3 (fun b o nb eb => ?_) (pool_upd hg hm hm2)⟩
        have e0 : H1 b = some o := o1 b o nb eb
        have nbe : b ≠ e := ne_of_none e0 he
        have e3 : upd H1 e (.tup []) b = some o := by
          rw [upd_ne nbe]
          exact e0
        rw [upd_ne nb, upd_ne (ne_of_none e3 hl)]
        exact e3
      cases n with
      | zero =>
        refine ⟨_, pss_cons (ps_if (PW.pt (pw_or (pt_cmpR op_eq (pv 1) pe_int (nomark _)) (pw_or1 (pt_cmpR op_eq (pe_call GD (hr.mono (by omega)) rfl gD FD.kp bD .nil pass0 (pa_cons (pv 0) (pa_cons pe_int pa_nil))) pe_int (nomark _)))))
          (pss_one (ps_ret (pe_ix ix_list (pe_lst (pa_cons pe_int (pa_cons pe_int (pa_cons pe_int (pa_cons (pe_un un_neg pe_int) (pa_cons pe_str (pa_cons pe_str (pa_cons pe_str (pa_cons pe_non (pa_cons pe_bl (pa_cons pe_bl (pa_cons (pe_op op_pow pe_int pe_int) (pa_cons (pe_tup pa_nil) pa_nil)))))))))))))
            (pe_call GD (hr.mono (by omega)) rfl gD FD.kp bD .nil pass0 (pa_cons (pv 0) (pa_cons pe_int pa_nil))) (fun _ _ => rfl)))) pss_nil) (pss_never), ?_⟩
        refine ⟨_, rfl, rfl, _, rfl, ?_⟩
        refine iteT (iteT ?_)
        refine ⟨_, rfl, _, _, rfl, rfl, ⟨by decide, by decide, by decide⟩, Nat.zero_le _, fun e he => ?_⟩
        refine ⟨by show 12 ≤ sizeLine; decide, fun l hl => ?_⟩
        have hel : e ≠ l := ne_of_none (H := upd H e (.tup [])) upd_same hl
        have nl0 : H l = none := (same_upd he).free hl
        have hp2 : PoolAt (upd (upd H e (.tup [])) l (.lst [V.int 0, .int 1, .int 2, .int (-1), .str "", .str "a", .str "1", .non, .bl true, .bl false, .int (10 ^ 40), .ref e])) p := (hp.same (same_upd he)).same (same_upd hl)
        have npl : l ≠ p := by
          obtain ⟨_, _, ep, _⟩ := hp
          exact (ne_of_none ep nl0).symm
        refine ⟨_, rfl, p, 12, rfl, by decide, by decide, hp2, fun r g m h0 h12 hg hm hm2 => ?_⟩
        obtain ⟨v, hv, hq⟩ := leafQ H (Off.refl _ _) hp e he l hl r g m h0 h12 hg hm hm2
        refine ⟨l, _, r, v, rfl, rfl, .inl (.inl ?_), hv, hq⟩
        rw [upd_ne npl, upd_same]
        rfl
      | succ n =>
        have GR : FnOk P w K mg base CX0 (n + 2) f fd ["_law_pool_here", "_law_depth"] (spThing n) := ih n rfl
        refine ⟨_, pss_cons (ps_if (PW.pt (pw_or (pt_cmpR op_eq (pv 1) pe_int (nomark _)) (pw_or1 (pt_cmpR op_eq (pe_call GD (hr.mono (by omega)) rfl gD FD.kp bD .nil pass0 (pa_cons (pv 0) (pa_cons pe_int pa_nil))) pe_int (nomark _)))))
          (pss_one (ps_ret (pe_ix ix_list (pe_lst (pa_cons pe_int (pa_cons pe_int (pa_cons pe_int (pa_cons (pe_un un_neg pe_int) (pa_cons pe_str (pa_cons pe_str (pa_cons pe_str (pa_cons pe_non (pa_cons pe_bl (pa_cons pe_bl (pa_cons (pe_op op_pow pe_int pe_int) (pa_cons (pe_tup pa_nil) pa_nil)))))))))))))
            (pe_call GD (hr.mono (by omega)) rfl gD FD.kp bD .nil pass0 (pa_cons (pv 0) (pa_cons pe_int pa_nil))) (fun _ _ => rfl)))) pss_nil)
          (pss_one (ps_ret (pe_callTy call_tuple_of (by rfl) TT.tuple PyProof.Rows.boot_tuple (pa_cons
            (pe_lc (own := [("_law_turn", 2)]) (g := gName 2) (tt := tYes) rfl scThing.nd (pi_range1 rfl TT.range (pa_cons (pe_call GD (hr.mono (by omega)) rfl gD FD.kp bD .nil pass0 (pa_cons (pv 0) (pa_cons pe_int pa_nil))) pa_nil))
              (blkOk_by (own := [("_law_turn", 2)]) (N := ["_law_pool_here", "_law_depth", "_law_turn"]) (sc := defScope sThing) (by decide +kernel)) (fun _ _ _ _ _ => pg_name (i := 2) scThing.nd rfl (Or.inl rfl)) (fun _ _ _ _ _ => pts_nil)
              (fun _ _ _ _ _ => pe_call GR (hr.mono (by omega)) rfl gF F.kp bF .nil pass0 (pa_cons (pv 0) (pa_cons (pe_op op_sub (pv 1) pe_int) pa_nil)))) pa_nil)))), ?_⟩
        refine ⟨_, rfl, rfl, _, rfl, ?_⟩
        have e0 : decide ((V.int ((n + 1 : Nat) : Int)) = V.int 0) = false := decide_eq_false fun z => by
          have := V.int.inj z
          omega
        rw [e0]
        refine iteF ?_
        refine ⟨_, rfl, p, 3, rfl, by decide, by decide, hp, fun r g m h0 h3 hg hm hm2 => ?_⟩
        have hp1 : PoolAt (upd H p (.lst [V.int g, V.int m])) p := pool_upd hg hm hm2
        have o1 : Off p H (upd H p (.lst [V.int g, V.int m])) := Off.upd
        generalize upd H p (.lst [V.int g, V.int m]) = H1 at hp1 o1
        refine ⟨rfl, _, rfl, ?_⟩
        refine ite2 (fun hc => ?_) (fun hc => ?_)
        · refine ⟨_, rfl, _, _, rfl, rfl, ⟨by decide, by decide, by decide⟩, Nat.zero_le _, fun e he => ?_⟩
          refine ⟨by show 12 ≤ sizeLine; decide, fun l hl => ?_⟩
          have hel : e ≠ l := ne_of_none (H := upd H1 e (.tup [])) upd_same hl
          have nl0 : H1 l = none := (same_upd he).free hl
          have hp2 : PoolAt (upd (upd H1 e (.tup [])) l (.lst [V.int 0, .int 1, .int 2, .int (-1), .str "", .str "a", .str "1", .non, .bl true, .bl false, .int (10 ^ 40), .ref e])) p := (hp1.same (same_upd he)).same (same_upd hl)
          have npl : l ≠ p := by
            obtain ⟨_, _, ep, _⟩ := hp1
            exact (ne_of_none ep nl0).symm
          refine ⟨_, rfl, p, 12, rfl, by decide, by decide, hp2, fun r g m h0 h12 hg hm hm2 => ?_⟩
          obtain ⟨v, hv, hq⟩ := leafQ H1 o1 hp1 e he l hl r g m h0 h12 hg hm hm2
          refine ⟨l, _, r, v, rfl, rfl, .inl (.inl ?_), hv, hq⟩
          rw [upd_ne npl, upd_same]
          rfl
        · refine ⟨_, rfl, p, 4, rfl, by decide, by decide, hp1, fun r g m h0 h4 hg hm hm2 => ?_⟩
          have hp2 : PoolAt (upd H1 p (.lst [V.int g, V.int m])) p := pool_upd hg hm hm2
          have o2 : Off p H (upd H1 p (.lst [V.int g, V.int m])) := o1.trans Off.upd
          generalize upd H1 p (.lst [V.int g, V.int m]) = H2 at hp2 o2
          refine ⟨r, rfl, by omega, by omega, fun D hD => ?_⟩
          have nDp : D ≠ p := by
            obtain ⟨_, _, ep, _⟩ := hp2
            exact (ne_of_none ep hD).symm
          refine lc_range (lo := 0) (n := r.toNat) (fun i H' => ∃ (acc : List V) (ts : List T), H' D = some (.lst acc) ∧ ThAll H' ts acc ∧ ts.length = i ∧ (∀ t ∈ ts, Gd n t) ∧ Off p H H' ∧ PoolAt H' p)
            ⟨[], [], upd_same, by simp [ThAll], rfl, fun t ht => (nomatch ht), o2.trans (Off.of_same (same_upd hD)), hp2.same (same_upd hD)⟩ (fun i H' hi hPv => ?_) (fun H' hPv => ?_)
          · obtain ⟨acc, ts, hDl, hth, hts, hgd, off, hpp⟩ := hPv
            refine ⟨rfl, tYes_if ?_⟩
            refine ⟨_, rfl, _, rfl, _, _, rfl, rfl, p, ?_, hpp, fun t v H3 ht hv o3 hp3 => ?_⟩
            · exact congrArg (fun z => [V.ref p, V.int z]) (show ((n + 1 : Nat) : Int) - 1 = ((n : Nat) : Int) by omega)
            have hD3 : H3 D = some (.lst acc) := o3 _ _ nDp hDl
            have ml : Mild H' H3 := Mild.off o3 hpp hp3
            have hacc := thAll_len hth
            refine ⟨acc, hD3, small1000 (by omega), acc ++ [v], ts ++ [t], upd_same, ?_, by rw [List.length_append, List.length_singleton, hts], ?_, ?_, ?_⟩
            · exact (Mild.updL hD3).thAll (thAll_snoc hv (ml.thAll hth))
            · intro u hu
              rcases List.mem_append.mp hu with hu | hu
              · exact hgd u hu
              · rw [List.mem_singleton.mp hu]
                exact ht
            · intro b o nb eb
              rw [upd_ne (ne_of_none (o2 b o nb eb) hD)]
              exact (off.trans o3) b o nb eb
            · obtain ⟨g3, m3, e3, r3⟩ := hp3
              exact ⟨g3, m3, by rw [upd_ne nDp.symm]; exact e3, r3⟩
          · obtain ⟨acc, ts, hDl, hth, hts, hgd, off, hpp⟩ := hPv
            have hacc := thAll_len hth
            refine ⟨D, acc, rfl, .inl ⟨.inl (.inl hDl), fun l nl => ?_⟩⟩
            refine q (.tup ts) _ _ (.tup (by omega) hgd) ?_ (off.trans (Off.of_same (same_upd nl))) (hpp.same (same_upd nl))
            simp only [Th]
            exact ⟨l, acc, rfl, upd_same, by omega, ThAll.same (same_upd nl) _ _ hth⟩
  intro n
  induction n with
  | zero => exact fun h => main 0 h fun m e => absurd e (by omega)
  | succ n ih =>
    intro h
    refine main (n + 1) h fun m e => ?_
    have e' : m = n := by omega
    subst e'
    exact ih (by omega)
end
end My
namespace My
open PySem PySem.Spec PyProof.Rows L2 LZ
/-! ### how a thing is shown -/
def rep : T → Str
  | .non => "None"
  | .bl b => if b then "True" else "False"
  | .int i => toString i
  | .str x => reprText x
  | .oth => ""
  | .tup _ => ""
mutual
def shw : T → PyData
  | .tup ts => .list (.str "tuple" :: shwAll ts)
  | .non => .str (rep .non)
  | .bl b => .str (rep (.bl b))
  | .int i => .str (rep (.int i))
  | .str x => .str (rep (.str x))
  | .oth => .str (rep .oth)
def shwAll : List T → List PyData
  | [] => []
  | t :: ts => shw t :: shwAll ts
end
def isTup : T → Bool
  | .tup _ => true
  | _ => false
theorem shw_leaf {t : T} (h : isTup t = false) : shw t = .str (rep t) := by
  cases t <;> first | (simp [isTup] at h; done) | simp [shw]
theorem shwAll_len : ∀ ts : List T, (shwAll ts).length = ts.length
  | [] => by simp [shwAll]
  | t :: ts => by simp [shwAll, shwAll_len ts]
theorem shwAll_snoc (t : T) : ∀ ts : List T, shwAll (ts ++ [t]) = shwAll ts ++ [shw t]
  | [] => by simp [shwAll]
  | u :: ts => by simp [shwAll, shwAll_snoc t ts]
/-- leaves that are no tuples -/
def plain : List T := [.int 0, .int 1, .int 2, .int (-1), .str "", .str "a", .str "1", .non, .bl true, .bl false, .int (10 ^ 40)]
theorem leaf_cases {t : T} (h : t ∈ leaves) : t ∈ plain ∨ t = .tup [] := by
  simp only [leaves, plain, List.mem_cons, List.not_mem_nil, or_false] at h ⊢
  rcases h with h | h | h | h | h | h | h | h | h | h | h | h <;> simp [h]
theorem plain_no {t : T} (h : t ∈ plain) : isTup t = false := by
  simp only [plain, List.mem_cons, List.not_mem_nil, or_false] at h
  rcases h with rfl | rfl | rfl | rfl | rfl | rfl | rfl | rfl | rfl | rfl | rfl <;> rfl
theorem plain_eq : ∀ s ∈ plain, ∀ t ∈ plain, decide (rep s = rep t) = eqT s t := by
  intro s hs t ht
  simp only [plain, List.mem_cons, List.not_mem_nil, or_false] at hs ht
  rcases hs with rfl | rfl | rfl | rfl | rfl | rfl | rfl | rfl | rfl | rfl | rfl <;> rcases ht with rfl | rfl | rfl | rfl | rfl | rfl | rfl | rfl | rfl | rfl | rfl <;> (simp only [rep, eqT]; try decide +kernel)
theorem plain_lay : ∀ s ∈ plain, PyData.canLay0 (shw s) = true := by
  intro s hs
  simp only [plain, List.mem_cons, List.not_mem_nil, or_false] at hs
  rcases hs with rfl | rfl | rfl | rfl | rfl | rfl | rfl | rfl | rfl | rfl | rfl <;> (simp only [shw, rep, PyData.canLay0]; decide +kernel)
inductive Good : T → Prop
  | leaf {t : T} : t ∈ plain → Good t
  | tup {ts : List T} : (∀ t ∈ ts, Good t) → Good (.tup ts)
theorem Gd.good {n : Nat} {t : T} (h : Gd n t) : Good t := by
  induction h with
  | leaf h =>
    rcases leaf_cases h with h | rfl
    · exact .leaf h
    · exact .tup fun t ht => nomatch ht
  | tup _ _ ih => exact .tup ih
theorem eqvAll_shw : ∀ (ts us : List T), (∀ t ∈ ts, ∀ u, Good u → PyData.eqv (shw t) (shw u) = eqT t u) → (∀ u ∈ us, Good u) → PyData.eqvAll (shwAll ts) (shwAll us) = eqAll ts us
  | [], [], _, _ => by simp [shwAll, PyData.eqvAll, eqAll]
  | t :: ts, u :: us, h, g => by
    simp only [shwAll, PyData.eqvAll, eqAll]
    rw [h t List.mem_cons_self u (g u List.mem_cons_self), eqvAll_shw ts us (fun a ha => h a (List.mem_cons_of_mem _ ha)) fun a ha => g a (List.mem_cons_of_mem _ ha)]
  | [], u :: us, _, _ => by simp [shwAll, PyData.eqvAll, eqAll]
  | t :: ts, [], _, _ => by simp [shwAll, PyData.eqvAll, eqAll]
theorem eqT_tup_no {ts : List T} {t : T} (h : isTup t = false) : eqT (.tup ts) t = false ∧ eqT t (.tup ts) = false := by
  cases t <;> first | (simp [isTup] at h; done) | (constructor <;> simp [eqT])
theorem eqv_shw {s : T} (hs : Good s) : ∀ t, Good t → PyData.eqv (shw s) (shw t) = eqT s t := by
  induction hs with
  | @leaf s hs =>
    intro t ht
    cases ht with
    | leaf ht =>
      rw [shw_leaf (plain_no hs), shw_leaf (plain_no ht), ← plain_eq s hs t ht]
      simp only [PyData.eqv]
      by_cases e : rep s = rep t
      · rw [e]
        simp
      · rw [decide_eq_false e]
        simpa using e
    | @tup ts _ =>
      rw [shw_leaf (plain_no hs), (eqT_tup_no (plain_no hs)).2]
      simp [shw, PyData.eqv]
  | @tup ts hts ih =>
    intro t ht
    cases ht with
    | leaf ht =>
      rw [shw_leaf (plain_no ht), (eqT_tup_no (plain_no ht)).1]
      simp [shw, PyData.eqv]
    | @tup us hus =>
      simp only [shw, PyData.eqv, PyData.eqvAll, eqT]
      rw [eqvAll_shw ts us ih hus]
      simp
theorem shwAll_lay : ∀ ts : List T, (∀ t ∈ ts, PyData.canLay0 (shw t) = true) → PyData.canLayAll0 (shwAll ts) = true
  | [], _ => by simp [shwAll, PyData.canLayAll0]
  | t :: ts, h => by
    simp only [shwAll, PyData.canLayAll0, Bool.and_eq_true]
    exact ⟨h t List.mem_cons_self, shwAll_lay ts fun u hu => h u (List.mem_cons_of_mem _ hu)⟩
theorem Good.lay {t : T} (h : Good t) : PyData.canLay0 (shw t) = true := by
  induction h with
  | leaf h => exact plain_lay _ h
  | @tup ts _ ih =>
    simp only [shw, PyData.canLay0, PyData.canLayAll0, Bool.and_eq_true]
    exact ⟨by decide +kernel, shwAll_lay ts ih⟩
theorem shwAll_depth {n : Nat} : ∀ ts : List T, (∀ t ∈ ts, PyData.depth (shw t) ≤ n) → PyData.depthAll (shwAll ts) ≤ n
  | [], _ => by simp [shwAll, PyData.depthAll]
  | t :: ts, h => by
    have h1 := h t List.mem_cons_self
    have h2 := shwAll_depth ts fun u hu => h u (List.mem_cons_of_mem _ hu)
    simp only [shwAll, PyData.depthAll]
    omega
theorem plain_depth {t : T} (h : isTup t = false) : PyData.depth (shw t) ≤ 1 := by
  rw [shw_leaf h]
  simp [PyData.depth]
theorem Gd.depth {n : Nat} {t : T} (h : Gd n t) : PyData.depth (shw t) ≤ n + 3 := by
  induction h with
  | @leaf n t h =>
    rcases leaf_cases h with h | rfl
    · have := plain_depth (plain_no h)
      omega
    · simp [shw, shwAll, PyData.depth, PyData.depthAll]
      try omega
  | @tup n ts _ _ ih =>
    have := shwAll_depth ts ih
    simp only [shw, PyData.depth, PyData.depthAll]
    omega
theorem Gd.shaped {n : Nat} {t : T} (hn : n ≤ 20) (h : Gd n t) : SeqAt.shaped (shw t) = true := by
  have h1 := h.depth
  show ((shw t).canLay0 && decide ((shw t).depth ≤ 64)) = true
  rw [Bool.and_eq_true]
  exact ⟨h.good.lay, decide_eq_true (by omega)⟩
/-! ### repr -/
theorem call_repr_plain {X : Cx} : CallR X (.builtin "repr") (fun xs H Q => ∃ (t : T) (v : V), xs = [v] ∧ t ∈ plain ∧ Th H t v ∧ Q (.str (rep t)) H) := by
  intro pins s σ H xs us Q I r h
  obtain ⟨t, v, rfl, ht, hv, q⟩ := h
  obtain ⟨u, rfl, ru⟩ := vals1 r
  simp only [plain, List.mem_cons, List.not_mem_nil, or_false] at ht
  rcases ht with rfl | rfl | rfl | rfl | rfl | rfl | rfl | rfl | rfl | rfl | rfl <;> (simp only [Th] at hv; subst hv)
  · obtain ⟨k, rfl⟩ := ru
    exact PySem.P.repr_of_int (by decide +kernel) ⟨.str _, H, I.tok _, ⟨_, rfl⟩, q⟩
  · obtain ⟨k, rfl⟩ := ru
    exact PySem.P.repr_of_int (by decide +kernel) ⟨.str _, H, I.tok _, ⟨_, rfl⟩, q⟩
  · obtain ⟨k, rfl⟩ := ru
    exact PySem.P.repr_of_int (by decide +kernel) ⟨.str _, H, I.tok _, ⟨_, rfl⟩, q⟩
  · obtain ⟨k, rfl⟩ := ru
    exact PySem.P.repr_of_int (by decide +kernel) ⟨.str _, H, I.tok _, ⟨_, rfl⟩, q⟩
  · obtain ⟨k, rfl⟩ := ru
    exact PySem.P.repr_of_str ⟨.str _, H, I.tok _, ⟨_, rfl⟩, q⟩ (by decide +kernel)
  · obtain ⟨k, rfl⟩ := ru
    exact PySem.P.repr_of_str ⟨.str _, H, I.tok _, ⟨_, rfl⟩, q⟩ (by decide +kernel)
  · obtain ⟨k, rfl⟩ := ru
    exact PySem.P.repr_of_str ⟨.str _, H, I.tok _, ⟨_, rfl⟩, q⟩ (by decide +kernel)
  · cases ru
    exact PySem.P.repr_of_none ⟨.str _, H, I.tok _, ⟨_, rfl⟩, q⟩
  · cases ru
    exact PySem.P.repr_of_bool ⟨.str _, H, I.tok _, ⟨_, rfl⟩, q⟩
  · cases ru
    exact PySem.P.repr_of_bool ⟨.str _, H, I.tok _, ⟨_, rfl⟩, q⟩
  · obtain ⟨k, rfl⟩ := ru
    exact PySem.P.repr_of_int (by decide +kernel) ⟨.str _, H, I.tok _, ⟨_, rfl⟩, q⟩
end My
namespace My
open PySem PySem.Spec PyProof.Rows L2 LZ
/-- what is new at H' -/
def fresh (H H' : Hp) : Hp := fun b => match H b with
  | none => H' b
  | some _ => none
def hid (D : Addr) (H : Hp) : Hp := fun b => if b = D then none else H b
theorem fresh_same (H H' : Hp) : Same (fresh H H') H' := fun b o e => by
  unfold fresh at e
  split at e
  · exact e
  · cases e
theorem fresh_of {H H' : Hp} {b : Addr} {o : HO} (h : fresh H H' b = some o) : H b = none ∧ H' b = some o := by
  unfold fresh at h
  cases e : H b with
  | none =>
    rw [e] at h
    exact ⟨rfl, h⟩
  | some u =>
    rw [e] at h
    cases h
theorem fresh_mk {H H' : Hp} {b : Addr} {o : HO} (h1 : H b = none) (h2 : H' b = some o) : fresh H H' b = some o := by
  unfold fresh
  rw [h1]
  exact h2
theorem hid_of {H : Hp} {D b : Addr} {o : HO} (h : hid D H b = some o) : b ≠ D ∧ H b = some o := by
  unfold hid at h
  by_cases e : b = D
  · rw [if_pos e] at h
    cases h
  · rw [if_neg e] at h
    exact ⟨e, h⟩
theorem hid_mk {H : Hp} {D b : Addr} {o : HO} (h1 : b ≠ D) (h2 : H b = some o) : hid D H b = some o := by
  unfold hid
  rw [if_neg h1]
  exact h2
mutual
theorem Dp.same {K : PySem.W.Frag} {G G' : Hp} (s : Same G G') : ∀ {d : PyData} {v : V}, Dp K G v d → Dp K G' v d
  | _, _, .non => .non
  | _, _, .bl b => .bl b
  | _, _, .int i => .int i
  | _, _, .str x => .str x
  | _, _, .lst h t => .lst (s.seq h) (DpAll.same s t)
  | _, _, .tup h t => .tup (Same.seqT s h) (DpAll.same s t)
theorem DpAll.same {K : PySem.W.Frag} {G G' : Hp} (s : Same G G') : ∀ {ds : List PyData} {vs : List V}, DpAll K G vs ds → DpAll K G' vs ds
  | _, _, .nil => .nil
  | _, _, .cons h t => .cons (Dp.same s h) (DpAll.same s t)
end
theorem dpAll_snoc {K : PySem.W.Frag} {G : Hp} {v : V} {d : PyData} (h : Dp K G v d) : ∀ {vs : List V} {ds : List PyData}, DpAll K G vs ds → DpAll K G (vs ++ [v]) (ds ++ [d])
  | _, _, .nil => .cons h .nil
  | _, _, .cons a t => .cons a (dpAll_snoc h t)
theorem dpAll_len {K : PySem.W.Frag} {G : Hp} : ∀ {vs : List V} {ds : List PyData}, DpAll K G vs ds → vs.length = ds.length
  | _, _, .nil => rfl
  | _, _, .cons _ t => by
    rw [List.length_cons, List.length_cons, dpAll_len t]
theorem scShown : FnScope ["_law_thing_here", "_law_one"] ["_law_thing_here"] (defScope sShown) := ⟨rfl, rfl, rfl, by decide +kernel, rfl, by decide +kernel, by decide +kernel⟩
structure TxtS (mg : Str → Option Value) : Prop where
  isi : mg "isinstance" = none
  tuple : mg "tuple" = none
  repr : mg "repr" = none
def spShown (K : PySem.W.Frag) : Nat → Sp
  | 0 => fun vs _ _ _ => vs.length = 1 ∧ False
  | n + 1 => fun vs H Q _ => ∃ (t : T) (v : V), vs = [v] ∧ Gd n t ∧ Th H t v ∧ ∀ (r : V) (H' : Hp), Same H H' → Dp K (fresh H H') r (shw t) → Q r H'
theorem th_plain_ty {K : PySem.W.Frag} {H : Hp} {t : T} {v : V} (ht : t ∈ plain) (h : Th H t v) : ∃ n, TyOf K H v (.type n) ∧ kitB n "tuple" = some false := by
  simp only [plain, List.mem_cons, List.not_mem_nil, or_false] at ht
  rcases ht with rfl | rfl | rfl | rfl | rfl | rfl | rfl | rfl | rfl | rfl | rfl <;> (simp only [Th] at h; subst h)
  · exact ⟨_, .int _, by decide +kernel⟩
  · exact ⟨_, .int _, by decide +kernel⟩
  · exact ⟨_, .int _, by decide +kernel⟩
  · exact ⟨_, .int _, by decide +kernel⟩
  · exact ⟨_, .str _, by decide +kernel⟩
  · exact ⟨_, .str _, by decide +kernel⟩
  · exact ⟨_, .str _, by decide +kernel⟩
  · exact ⟨_, .non, by decide +kernel⟩
  · exact ⟨_, .bl _, by decide +kernel⟩
  · exact ⟨_, .bl _, by decide +kernel⟩
  · exact ⟨_, .int _, by decide +kernel⟩
theorem Gd.cases {n : Nat} {t : T} (h : Gd n t) : t ∈ plain ∨ ∃ ts, t = .tup ts ∧ ts.length ≤ 3 ∧ ∀ u ∈ ts, ∃ m, n = m + 1 ∧ Gd m u := by
  cases h with
  | leaf h =>
    rcases leaf_cases h with h | rfl
    · exact .inl h
    · exact .inr ⟨[], rfl, by decide, fun u hu => nomatch hu⟩
  | tup hl h => exact .inr ⟨_, rfl, hl, fun u hu => ⟨_, rfl, h u hu⟩⟩
section
variable {P : Program} {w : World} {K : PySem.W.Frag} {mg : Str → Option Value} {base : Heap}
theorem ok_shown {f : Addr} {fd : FuncData} (F : Fun K "_law_shown" "_law_shown" sShown f fd) (bF : Binds K fd ["_law_thing_here"] []) (gF : mg "_law_shown" = some (.ref f)) (TS : TxtS mg) :
    ∀ n : Nat, FnOk P w K mg base CX0 (n + 1) f fd ["_law_thing_here"] (spShown K n) := by
  intro n
  induction n with
  | zero => exact F.ok scShown (fun vs H Q E h => h.1) (fun cdv A outer s H vs Q E hr h => h.2.elim)
  | succ n GR =>
    refine F.ok scShown (fun vs H Q E h => ?_) (fun cdv A outer s H vs Q E hr h => ?_)
    · obtain ⟨t, v, rfl, _⟩ := h
      rfl
    · obtain ⟨t, v, rfl, ht, hv, q⟩ := h
      refine ⟨_, pss_cons (ps_if (pt_val (pe_callB call_isi (by rfl) TS.isi PyProof.Rows.boot_isinstance (pa_cons (pv 0) (pa_cons (pe_bltn (v := .ty "tuple") (by rfl) TS.tuple (by decide +kernel) rfl) pa_nil))))
          (pss_one (ps_ret (pe_op op_cat (pe_lst (pa_cons pe_str pa_nil))
            (pe_lc (own := [("_law_one", 1)]) (g := gName 1) (tt := tYes) rfl scShown.nd (pi_tup (pv 0))
              (blkOk_by (own := [("_law_one", 1)]) (N := ["_law_thing_here", "_law_one"]) (sc := defScope sShown) (by decide +kernel)) (fun _ _ _ _ _ => pg_name (i := 1) scShown.nd rfl (Or.inl rfl)) (fun _ _ _ _ _ => pts_nil)
              (fun _ _ _ _ _ => pe_call GR hr rfl gF F.kp bF .nil pass0 (pa_cons (pv 1) pa_nil)))))) pss_nil)
        (pss_one (ps_ret (pe_callB call_repr_plain (by rfl) TS.repr PyProof.Rows.boot_repr (pa_cons (pv 0) pa_nil)))), ?_⟩
      rcases ht.cases with hp | ⟨ts, rfl, hl, hts⟩
      · obtain ⟨tn, ty, hk⟩ := th_plain_ty (K := K) hp hv
        refine ⟨_, rfl, _, _, _, _, false, rfl, .ty "tuple", .base ty, kit_ty hk, _, rfl, ?_⟩
        refine iteF ⟨_, rfl, t, v, rfl, hp, hv, ?_⟩
        refine q _ _ (Same.refl _) ?_
        rw [shw_leaf (plain_no hp)]
        exact .str _
      · simp only [Th] at hv
        obtain ⟨a, xs, rfl, ha, hxl, hall⟩ := hv
        refine ⟨_, rfl, _, _, _, _, true, rfl, .ty "tuple", .base (.tup ha), kit_ty (by decide +kernel), _, rfl, ?_⟩
        refine iteT ⟨by show 1 ≤ sizeLine; decide, fun L nL => ?_⟩
        have s1 : Same H (upd H L (.lst [V.str "tuple"])) := same_upd nL
        refine ⟨.ref a, rfl, a, rfl, ⟨xs, .inl (.inl (s1 _ _ ha))⟩, fun D nD => ?_⟩
        have lts : ts.length = xs.length := thAll_len hall
        refine lc_tup (K := K) (a := a) (xs := xs) (fun i H' => ∃ acc : List V, H' D = some (.lst acc) ∧ acc.length = i ∧ DpAll K (hid D (fresh (upd H L (.lst [V.str "tuple"])) H')) acc (shwAll (ts.take i)) ∧ Same (upd H L (.lst [V.str "tuple"])) H')
          ⟨[], upd_same, rfl, by simp only [List.take_zero, shwAll]; exact .nil, same_upd nD⟩ (fun i H' _ hPv => ?_) (fun i x H' hx hPv => ?_) (fun H' hPv => ?_)
        · obtain ⟨acc, _, _, _, sm⟩ := hPv
          exact .inl (.inl (sm _ _ (s1 _ _ ha)))
        · obtain ⟨acc, hD, hacc, hdp, sm⟩ := hPv
          have hi : i < ts.length := by
            have := (List.getElem?_eq_some_iff.mp hx).1
            omega
          obtain ⟨u, x', e1, e2, hu⟩ := thAll_get hall hi
          have ex : x' = x := Option.some.inj (e2.symm.trans hx)
          subst ex
          obtain ⟨m, rfl, hgu⟩ := hts u (List.mem_of_getElem? e1)
          refine ⟨rfl, tYes_if ?_⟩
          refine ⟨_, rfl, u, x', rfl, hgu, Th.same (s1.trans sm) _ _ hu, fun r H2 sm2 hr2 => ?_⟩
          have hD2 : H2 D = some (.lst acc) := sm2 _ _ hD
          refine ⟨acc, hD2, small1000 (by omega), acc ++ [r], upd_same, by rw [List.length_append, List.length_singleton, hacc], ?_, fun b o eb => ?_⟩
          · rw [List.take_add_one, e1]
            show DpAll K _ _ (shwAll (ts.take i ++ [u]))
            rw [shwAll_snoc]
            refine dpAll_snoc (Dp.same (fun b o eb => ?_) hr2) (DpAll.same (fun b o eb => ?_) hdp)
            · obtain ⟨n1, n2⟩ := fresh_of eb
              have nb : b ≠ D := fun z => by
                rw [z, hD] at n1
                cases n1
              exact hid_mk nb (fresh_mk (sm.free n1) (by rw [upd_ne nb]; exact n2))
            · obtain ⟨nb, eb⟩ := hid_of eb
              obtain ⟨n1, n2⟩ := fresh_of eb
              exact hid_mk nb (fresh_mk n1 (by rw [upd_ne nb]; exact sm2 _ _ n2))
          · rw [upd_ne (ne_of_none eb nD)]
            exact sm2 _ _ (sm _ _ eb)
        · obtain ⟨acc, hD, hacc, hdp, sm⟩ := hPv
          rw [show ts.take xs.length = ts from List.take_of_length_le (by omega)] at hdp
          refine ⟨L, D, _, acc, rfl, rfl, sm _ _ upd_same, hD, Nat.le_of_lt (small1000 (show [V.str "tuple"].length + acc.length ≤ 1000 by rw [List.length_singleton]; omega)), fun p np => ?_⟩
          have npH : H p = none := (s1.trans sm).free np
          refine q (.ref p) _ ((s1.trans sm).trans (same_upd np)) ?_
          simp only [shw]
          refine .lst (.inl (.inl (fresh_mk npH upd_same))) (.cons (.str _) (DpAll.same (fun b o eb => ?_) hdp))
          obtain ⟨nb, eb⟩ := hid_of eb
          obtain ⟨n1, n2⟩ := fresh_of eb
          exact fresh_mk (s1.free n1) (by rw [upd_ne (ne_of_none n2 np)]; exact n2)
end
end My
/-! dicts whose keys are carried by value: ints, bools, texts, None -/
namespace LD
open PySem PySem.Spec PyProof.Rows L2
/-- a key as a value -/
def leafV : Leaf → V → Prop
  | .none, .non => True
  | .num i, .int j => j = i
  | .num i, .bl b => (if b = true then 1 else 0) = i
  | .text x, .str y => y = x
  | _, _ => False
theorem leaf_is {k : Leaf} {x : V} {u : Value} (h : leafV k x) (r : RelV x u) : Leaf.isOf k u = true := by
  cases k with
  | none =>
    cases x with
    | non =>
      cases r
      rfl
    | _ => exact h.elim
  | num i =>
    cases x with
    | int j =>
      obtain ⟨t, rfl⟩ := r
      exact decide_eq_true h
    | bl b =>
      cases r
      exact decide_eq_true h
    | _ => exact h.elim
  | text z =>
    cases x with
    | str y =>
      obtain ⟨t, rfl⟩ := r
      have h' : y = z := h
      subst h'
      simp [Leaf.isOf, Value.isStrOf]
    | _ => exact h.elim
/-- a dict with such keys at a -/
def dlO (P : Program) (w : World) (a : Addr) (kvs : List (Leaf × V)) : HO := .ext fun h => (a == sysModules) = false ∧ ∃ vs, KV kvs vs ∧ h.DictOf (leafKind P w) a vs
theorem dl_ok {P : Program} {w : World} {H : Hp} {h : Heap} {a : Addr} {kvs : List (Leaf × V)} {vs : List (Leaf × Value)} (hd : (a == sysModules) = false) (rel : KV kvs vs) (dd : h.DictOf (leafKind P w) a vs) : ObjOk P w H h a (dlO P w a kvs) := by
  refine ⟨⟨hd, vs, rel, dd⟩, ?_, fun h1 h2 x k => ?_⟩
  · obtain ⟨o, _, _, e, _⟩ := dd
    exact ⟨o, e⟩
  · obtain ⟨hd, vs, rel, dd⟩ := x
    exact ⟨hd, vs, rel, dd.at k⟩
theorem dl_of {P : Program} {w : World} {H : Hp} {h : Heap} {a : Addr} {kvs : List (Leaf × V)} (ok : HOk P w H h) (e : H a = some (dlO P w a kvs)) : (a == sysModules) = false ∧ ∃ vs, KV kvs vs ∧ h.DictOf (leafKind P w) a vs := by
  obtain ⟨x, _, _⟩ := (show ObjOk P w H h a (dlO P w a kvs) from ok a _ e)
  exact x
def mergeL (kvs more : List (Leaf × V)) : List (Leaf × V) := more.foldl (fun acc kv => putK acc kv.1 kv.2) kvs
theorem KV_mergeL : ∀ {more : List (Leaf × V)} {rs : List (Leaf × Value)} {kvs : List (Leaf × V)} {vs : List (Leaf × Value)}, KV more rs → KV kvs vs → KV (mergeL kvs more) (merged vs rs) := by
  intro more rs kvs vs r
  unfold KV at r
  induction r generalizing kvs vs with
  | nil => intro q; exact q
  | @cons p q ps qs h t ih =>
    intro r0
    have e : KV (putK kvs p.1 p.2) (stored vs q.1 q.2) := by
      have := r0.put p.1 h.2
      rw [← h.1]; exact this
    exact ih e
abbrev LKeys : List (V × V) → List (Leaf × V) → Prop := Paired fun p q => leafV q.1 p.1 ∧ p.2 = q.2
theorem carriesL {P : Program} {w : World} : ∀ {ps : List (V × V)} {kvs : List (Leaf × V)} {ws : List (Value × Value)}, LKeys ps kvs → VV ps ws → ∃ rs, Carries (leafKind P w) ws rs ∧ KV kvs rs
  | _, _, _, .nil, .nil => ⟨[], True.intro, .nil⟩
  | _, _, _, .cons (b := q) k tk, .cons (b := b) h t => by
    obtain ⟨rs, c, r⟩ := carriesL (P := P) (w := w) tk t
    obtain ⟨b1, b2⟩ := b
    obtain ⟨k1, k2⟩ := k
    exact ⟨(q.1, b2) :: rs, ⟨leaf_is k1 h.1, rfl, c⟩, .cons ⟨rfl, by rw [← k2]; exact h.2⟩ r⟩
section
variable {X : Cx}
/-- {k: v, ..}: the new dict stands empty while the pairs are made -/
def tDispL (P : Program) (w : World) (trs : List (TE × TE)) : TE := fun σ H Q => ∀ p, H p = none → tPairs trs σ (upd H p (dlO P w p [])) fun ps H2 => H2 p = some (dlO P w p []) ∧ ∃ kvs : List (Leaf × V), LKeys ps kvs ∧ Q (.ref p) (upd H2 p (dlO P w p (mergeL [] kvs)))
theorem pe_dispL {pos : Pos} {keys : List (Option Expr)} {values : List Expr} {trs : List (TE × TE)} (h : PPs X pos keys values trs) (hall : keys.all (·.isSome) = true) (hl : keys.length = values.length) (h0 : keys ≠ [])
    (h15 : keys.length ≤ 15) : PE X (.Dict keys values pos) (tDispL X.prog X.w trs) := by
  refine ⟨fun pins s σ H Q I q => ?_⟩
  have hn := I.hok.fresh (Nat.le_refl s.heap.objs.size)
  have hs0 : (s.heap.objs.size == sysModules) = false := beq_eq_false_iff_ne.mpr (Ne.symm (Nat.ne_of_lt I.big))
  have I1 := I.laid (a := s.heap.objs.size) (o := dlO X.prog X.w s.heap.objs.size []) (h' := s.heap.push { cls := .type "dict", data := .dict #[] }) (t' := s.toks) (fun _ _ q => Heap.get?_push_of_some _ q) (Nat.le_refl _) (dl_ok hs0 .nil (Heap.DictOf.new s.heap))
  refine wpAny_Dict_walk (knd := leafKind X.prog X.w) hall hl h0 h15 (thn (h.run pins _ σ _ _ I1 (q _ hn)) fun ws s2 ⟨ps, H2, I2, rel, e, kvs, lk, q2⟩ => ?_)
  obtain ⟨rs, c, rk⟩ := carriesL (P := X.prog) (w := X.w) lk rel
  obtain ⟨hd, vs0, r0, dd⟩ := dl_of I2.hok e
  cases r0
  refine ⟨rs, c, dd, fun h' dd' hs => ⟨.ref s.heap.objs.size, _, ?_, rfl, q2⟩⟩
  have he : ∃ q, h'.get? s.heap.objs.size = some q := let ⟨q, _, _, hq, _⟩ := dd'; ⟨q, hq⟩
  exact d_write I2 (by rw [e]; exact True.intro) hs he (dl_ok hd (KV_mergeL rk .nil) dd')
/-- d.get(k, x) -/
def tGetL (P : Program) (w : World) (td ty tx : TE) : TE := fun σ H Q => td σ H fun x H1 => ∃ a kvs, x = .ref a ∧ H1 a = some (dlO P w a kvs) ∧ ty σ H1 fun y H2 => tx σ H2 fun z H3 => H3 a = some (dlO P w a kvs) ∧ ∃ k, leafV k y ∧ Q ((valV kvs k).getD z) H3
theorem pe_getL {o e f : Expr} {apos cpos : Pos} {td ty tx : TE} (ho : PE X o td) (he : PE X e ty) (hf : PE X f tx) (m : M2 X o "get" apos e f cpos) : PE X (.Call (.Attribute o "get" apos) [e, f] [] cpos) (tGetL X.prog X.w td ty tx) := by
  refine ⟨fun pins s σ H Q I h => ?_⟩
  refine wpAny_Call_method m.base m.few m.line PySem.F.plainAttrs_dict PySem.F.slot_dict_get PySem.F.type_dict_get (thn (ho.run pins s σ H _ I h) fun u s1 ⟨x, H1, I1, rx, a, kvs, ex, d, q1⟩ => ?_)
  subst ex
  obtain rfl : u = Value.ref a := rx
  obtain ⟨hd, vs, rel, dd⟩ := dl_of I1.hok d
  refine ⟨dd.typeIs, fun b q => ?_, ?_⟩
  · cases q
    obtain ⟨ob, _, _, h1, h2, _⟩ := dd
    exact ⟨ob, h1, h2.2.1⟩
  rw [m.trees]
  refine Calls.callWith_builtin rfl (Calls.evalArgs_plain (Calls.spliced_cons (thn (he.run pins s1 σ H1 _ I1 q1) fun iv s2 ⟨y, H2, I2, ry, q2⟩ =>
    Calls.spliced_cons (thn (hf.run pins s2 σ H2 _ I2 q2) fun fv s3 ⟨z, H3, I3, rz, e3, k, hk, q3⟩ => Calls.spliced_nil ?_))))
  obtain ⟨hd3, vs3, rel3, dd3⟩ := dl_of I3.hok e3
  refine call_meetsIn PySem.F.slot_dict_get dd3.typeIs PySem.F.entry_dict_get (PySem.F.args_dict_get_3 _ _ _) (meets_dict_get_default (leafKind X.prog X.w) a (leaf_is hk ry) hd3 fv) ⟨_, dd3.mapOf, ⟨(valV kvs k).getD z, H3, I3.tok _, ?_, q3⟩⟩
  exact (rel3.val k).getD rz
end
end LD
namespace My
open PySem PySem.Spec PyProof.Rows L2 LZ LD
/-! ### a thing as data -/
mutual
def dat : T → PyData
  | .tup ts => .tuple (datAll ts)
  | .non => .none
  | .bl b => .bool b
  | .int i => .int i
  | .str x => .str x
  | .oth => .none
def datAll : List T → List PyData
  | [] => []
  | t :: ts => dat t :: datAll ts
end
theorem dpAll_of {K : PySem.W.Frag} {H : Hp} : ∀ {ts : List T} {vs : List V}, (∀ t ∈ ts, ∀ v, Th H t v → Dp K H v (dat t)) → ThAll H ts vs → DpAll K H vs (datAll ts)
  | [], vs, _, h => by
    simp only [ThAll] at h
    subst h
    simp only [datAll]
    exact .nil
  | t :: ts, vs, g, h => by
    simp only [ThAll] at h
    obtain ⟨v, r, rfl, h1, h2⟩ := h
    simp only [datAll]
    exact .cons (g t List.mem_cons_self v h1) (dpAll_of (fun u hu => g u (List.mem_cons_of_mem _ hu)) h2)
theorem Good.dp {K : PySem.W.Frag} {H : Hp} {t : T} (h : Good t) : ∀ v, Th H t v → Dp K H v (dat t) := by
  induction h with
  | @leaf t ht =>
    intro v hv
    simp only [plain, List.mem_cons, List.not_mem_nil, or_false] at ht
    rcases ht with rfl | rfl | rfl | rfl | rfl | rfl | rfl | rfl | rfl | rfl | rfl <;> (simp only [Th] at hv; subst hv; simp only [dat])
    · exact .int _
    · exact .int _
    · exact .int _
    · exact .int _
    · exact .str _
    · exact .str _
    · exact .str _
    · exact .non
    · exact .bl _
    · exact .bl _
    · exact .int _
  | @tup ts _ ih =>
    intro v hv
    simp only [Th] at hv
    obtain ⟨a, xs, rfl, e, _, h⟩ := hv
    simp only [dat]
    exact .tup (.inl (.inl e)) (dpAll_of ih h)
theorem datAll_lay : ∀ ts : List T, (∀ t ∈ ts, PyData.canLay0 (dat t) = true) → PyData.canLayAll0 (datAll ts) = true
  | [], _ => by simp [datAll, PyData.canLayAll0]
  | t :: ts, h => by
    simp only [datAll, PyData.canLayAll0, Bool.and_eq_true]
    exact ⟨h t List.mem_cons_self, datAll_lay ts fun u hu => h u (List.mem_cons_of_mem _ hu)⟩
theorem Good.layD {t : T} (h : Good t) : PyData.canLay0 (dat t) = true := by
  induction h with
  | @leaf t ht =>
    simp only [plain, List.mem_cons, List.not_mem_nil, or_false] at ht
    rcases ht with rfl | rfl | rfl | rfl | rfl | rfl | rfl | rfl | rfl | rfl | rfl <;> (simp only [dat, PyData.canLay0]; try decide +kernel)
  | @tup ts _ ih =>
    simp only [dat, PyData.canLay0]
    exact datAll_lay ts ih
theorem datAll_depth {n : Nat} : ∀ ts : List T, (∀ t ∈ ts, PyData.depth (dat t) ≤ n) → PyData.depthAll (datAll ts) ≤ n
  | [], _ => by simp [datAll, PyData.depthAll]
  | t :: ts, h => by
    have h1 := h t List.mem_cons_self
    have h2 := datAll_depth ts fun u hu => h u (List.mem_cons_of_mem _ hu)
    simp only [datAll, PyData.depthAll]
    omega
theorem Gd.depthD {n : Nat} {t : T} (h : Gd n t) : PyData.depth (dat t) ≤ n + 3 := by
  induction h with
  | @leaf n t ht =>
    simp only [leaves, List.mem_cons, List.not_mem_nil, or_false] at ht
    rcases ht with rfl | rfl | rfl | rfl | rfl | rfl | rfl | rfl | rfl | rfl | rfl | rfl <;> (simp only [dat, datAll, PyData.depth, PyData.depthAll]; try omega)
  | @tup n ts _ _ ih =>
    have := datAll_depth ts ih
    simp only [dat, PyData.depth]
    omega
theorem Gd.shapedD {n : Nat} {t : T} (hn : n ≤ 20) (h : Gd n t) : SeqAt.shaped (dat t) = true := by
  have h1 := h.depthD
  show ((dat t).canLay0 && decide ((dat t).depth ≤ 64)) = true
  rw [Bool.and_eq_true]
  exact ⟨h.good.layD, decide_eq_true (by omega)⟩
/-! ### tuples put together -/
theorem catA_of {K : PySem.W.Frag} {H : Hp} {Q : VK} {a b : Addr} {xs ys : List V} (ha : H a = some (.tup xs)) (hb : H b = some (.tup ys)) (hl : xs.length + ys.length ≤ 1000)
    (q : ∀ (r : Addr) (H' : Hp), Same H H' → H' r = some (.tup (xs ++ ys)) → Q (.ref r) H') : rCatA K (.ref a) (.ref b) H Q := by
  refine ⟨a, b, xs, ys, rfl, rfl, .inl (.inl ha), .inl (.inl hb), Nat.le_of_lt (small1000 hl), fun hx => ?_, fun _ hy => ?_, fun _ _ p np => q p _ (same_upd np) upd_same⟩
  · subst hx
    exact q b H (Same.refl _) hb
  · subst hy
    exact q a H (Same.refl _) (by rw [List.append_nil]; exact ha)
theorem slA_of {K : PySem.W.Frag} {H : Hp} {Q : VK} {a : Addr} {xs : List V} {lo hi : Option Int} (ha : H a = some (.tup xs))
    (q : ∀ (r : Addr) (H' : Hp), Same H H' → H' r = some (.tup (cutV xs lo hi)) → Q (.ref r) H') : rSlA K (.ref a) lo hi H Q := by
  refine ⟨a, xs, rfl, .inl (.inl ha), fun hw => ?_, fun _ p np => q p _ (same_upd np) upd_same⟩
  refine q a H (Same.refl _) ?_
  unfold cutV
  rw [hw.1, hw.2, List.drop_zero, Nat.sub_zero, List.take_length]
  exact ha
theorem cut_to (xs : List V) (k : Nat) : cutV xs none (some (k : Int)) = xs.take k := by
  unfold cutV
  rw [HT.sIx_none, HT.sIx_nat, List.drop_zero, Nat.sub_zero]
  by_cases h : k ≤ xs.length
  · rw [Nat.min_eq_left h]
  · rw [Nat.min_eq_right (by omega), List.take_length, List.take_of_length_le (by omega)]
theorem cut_from (xs : List V) (k : Nat) : cutV xs (some (k : Int)) none = xs.drop k := by
  unfold cutV
  rw [HT.sIx_none, HT.sIx_nat]
  by_cases h : k ≤ xs.length
  · rw [Nat.min_eq_left h]
    exact List.take_of_length_le (by rw [List.length_drop]; exact Nat.le_refl _)
  · rw [Nat.min_eq_right (by omega), List.drop_length, List.drop_eq_nil_of_le (by omega)]
    simp
theorem thAll_append {H : Hp} : ∀ {ts us : List T} {vs ws : List V}, ThAll H ts vs → ThAll H us ws → ThAll H (ts ++ us) (vs ++ ws)
  | [], us, vs, ws, h1, h2 => by
    simp only [ThAll] at h1
    subst h1
    exact h2
  | t :: ts, us, vs, ws, h1, h2 => by
    simp only [ThAll] at h1
    obtain ⟨v, r, rfl, a, b⟩ := h1
    simp only [List.cons_append, ThAll]
    exact ⟨v, r ++ ws, rfl, a, thAll_append b h2⟩
theorem thAll_take {H : Hp} : ∀ {ts : List T} {vs : List V} (k : Nat), ThAll H ts vs → ThAll H (ts.take k) (vs.take k)
  | ts, vs, 0, h => by
    simp only [List.take_zero, ThAll]
  | [], vs, k + 1, h => by
    simp only [ThAll] at h
    subst h
    simp [ThAll]
  | t :: ts, vs, k + 1, h => by
    simp only [ThAll] at h
    obtain ⟨v, r, rfl, a, b⟩ := h
    simp only [List.take_succ_cons, ThAll]
    exact ⟨v, _, rfl, a, thAll_take k b⟩
theorem thAll_drop {H : Hp} : ∀ {ts : List T} {vs : List V} (k : Nat), ThAll H ts vs → ThAll H (ts.drop k) (vs.drop k)
  | ts, vs, 0, h => by
    simp only [List.drop_zero]
    exact h
  | [], vs, k + 1, h => by
    simp only [ThAll] at h
    subst h
    simp [ThAll]
  | t :: ts, vs, k + 1, h => by
    simp only [ThAll] at h
    obtain ⟨v, r, rfl, a, b⟩ := h
    simp only [List.drop_succ_cons]
    exact thAll_drop k b
/-! ### _law_bent -/
theorem scBent : FnScope ["_law_pool_here", "_law_thing_here", "_law_at"] ["_law_pool_here", "_law_thing_here"] (defScope sBent) := ⟨rfl, rfl, rfl, by decide +kernel, rfl, by decide +kernel, by decide +kernel⟩
structure TxtB (mg : Str → Option Value) : Prop where
  isi : mg "isinstance" = none
  tuple : mg "tuple" = none
  bool : mg "bool" = none
  len : mg "len" = none
def spBent : Nat → Sp
  | 0 => fun vs _ _ _ => vs.length = 2 ∧ False
  | n + 1 => fun vs H Q _ => ∃ (p : Addr) (t : T) (v : V), vs = [.ref p, v] ∧ Gd n t ∧ Th H t v ∧ PoolAt H p ∧ ∀ (t' : T) (v' : V) (H' : Hp), Gd n t' → Th H' t' v' → Off p H H' → PoolAt H' p → Q v' H'
theorem th_plain_bool {K : PySem.W.Frag} {H : Hp} {t : T} {v : V} (ht : t ∈ plain) (h : Th H t v) : ∃ n b, TyOf K H v (.type n) ∧ kitB n "tuple" = some false ∧ kitB n "bool" = some b ∧ (b = true → ∃ c, v = .bl c) := by
  simp only [plain, List.mem_cons, List.not_mem_nil, or_false] at ht
  rcases ht with rfl | rfl | rfl | rfl | rfl | rfl | rfl | rfl | rfl | rfl | rfl <;> (simp only [Th] at h; subst h)
  · exact ⟨_, false, .int _, by decide +kernel, by decide +kernel, fun z => nomatch z⟩
  · exact ⟨_, false, .int _, by decide +kernel, by decide +kernel, fun z => nomatch z⟩
  · exact ⟨_, false, .int _, by decide +kernel, by decide +kernel, fun z => nomatch z⟩
  · exact ⟨_, false, .int _, by decide +kernel, by decide +kernel, fun z => nomatch z⟩
  · exact ⟨_, false, .str _, by decide +kernel, by decide +kernel, fun z => nomatch z⟩
  · exact ⟨_, false, .str _, by decide +kernel, by decide +kernel, fun z => nomatch z⟩
  · exact ⟨_, false, .str _, by decide +kernel, by decide +kernel, fun z => nomatch z⟩
  · exact ⟨_, false, .non, by decide +kernel, by decide +kernel, fun z => nomatch z⟩
  · exact ⟨_, true, .bl _, by decide +kernel, by decide +kernel, fun _ => ⟨_, rfl⟩⟩
  · exact ⟨_, true, .bl _, by decide +kernel, by decide +kernel, fun _ => ⟨_, rfl⟩⟩
  · exact ⟨_, false, .int _, by decide +kernel, by decide +kernel, fun z => nomatch z⟩
section
variable {P : Program} {w : World} {K : PySem.W.Frag} {mg : Str → Option Value} {base : Heap}
theorem ok_bent {f fT fD : Addr} {fd fdT fdD : FuncData} (F : Fun K "_law_bent" "_law_bent" sBent f fd) (bF : Binds K fd ["_law_pool_here", "_law_thing_here"] []) (gF : mg "_law_bent" = some (.ref f))
    (FT : Fun K "_law_thing" "_law_thing" sThing fT fdT) (bT : Binds K fdT ["_law_pool_here", "_law_depth"] []) (gT : mg "_law_thing" = some (.ref fT))
    (FD : Fun K "_law_draw" "_law_draw" sDraw fD fdD) (bD : Binds K fdD ["_law_pool_here", "_law_many"] []) (gD : mg "_law_draw" = some (.ref fD)) (TT : TxtT mg) (TB : TxtB mg) :
    ∀ n : Nat, n ≤ 20 → FnOk P w K mg base CX0 (n + 3) f fd ["_law_pool_here", "_law_thing_here"] (spBent n) := by
  have GD : FnOk P w K mg base CX0 1 fD fdD ["_law_pool_here", "_law_many"] spDraw := ok_draw FD
  have GT : FnOk P w K mg base CX0 2 fT fdT ["_law_pool_here", "_law_depth"] (spThing 0) := ok_thing FT bT gT FD bD gD TT 0 (by decide)
  intro n
  induction n with
  | zero => exact fun _ => F.ok scBent (fun vs H Q E h => h.1) (fun cdv A outer s H vs Q E hr h => h.2.elim)
  | succ n ih =>
    intro hn
    have GR := ih (by omega)
    refine F.ok scBent (fun vs H Q E h => ?_) (fun cdv A outer s H vs Q E hr h => ?_)
    · obtain ⟨p, t, v, rfl, _⟩ := h
      rfl
    · obtain ⟨p, t, v, rfl, ht, hv, hp, q⟩ := h
      refine ⟨_, pss_cons (ps_if (PW.pt (pw_or (pt_not (pt_val (pe_callB call_isi (by rfl) TB.isi PyProof.Rows.boot_isinstance (pa_cons (pv 1) (pa_cons (pe_bltn (v := .ty "tuple") (by rfl) TB.tuple (by decide +kernel) rfl) pa_nil))))) (pw_or1 (pt_cmpR (op_eqD hr.units) (pv 1) (pe_tup pa_nil) (nomark _)))))
          (pss_one (ps_ret (pe_ifExp (pt_val (pe_callB call_isi (by rfl) TB.isi PyProof.Rows.boot_isinstance (pa_cons (pv 1) (pa_cons (pe_bltn (v := .ty "bool") (by rfl) TB.bool (by decide +kernel) rfl) pa_nil))))
            (pe_getL (pe_dispL (pps_cons pe_bl pe_int (pps_cons pe_bl pe_int pps_nil)) (by rfl) (by rfl) (fun z => by cases z) (by decide)) (pv 1) (pv 1) ⟨by rfl, by rfl, by rfl, by rfl⟩)
            (pe_call GT (hr.mono (by omega)) rfl gT FT.kp bT .nil pass0 (pa_cons (pv 0) (pa_cons pe_int pa_nil)))))) pss_nil)
        (pss_cons (ps_set (i := 2) scBent.nd rfl (.inl rfl) (pe_call GD (hr.mono (by omega)) rfl gD FD.kp bD .nil pass0 (pa_cons (pv 0) (pa_cons (pe_callB call_len_seq (by rfl) TB.len PySem.boot_len (pa_cons (pv 1) pa_nil)) pa_nil))))
        (pss_one (ps_ret (pe_op op_catA (pe_op op_catA (pe_slice sl_tupA (pv 1) po_none (po_some (pv 2))) (pe_tup (pa_cons (pe_call GR hr rfl gF F.kp bF .nil pass0 (pa_cons (pv 0) (pa_cons (pe_ix ix_tup (pv 1) (pv 2) (fun _ _ => rfl)) pa_nil))) pa_nil)))
          (pe_slice sl_tupA (pv 1) (po_some (pe_op op_add (pv 2) pe_int)) po_none))))), ?_⟩
      have lift : ∀ {t' : T}, Gd 0 t' → Gd n t' := fun h => by
        cases h with
        | leaf h => exact .leaf h
      rcases ht.cases with hpl | ⟨ts, rfl, hl, hts⟩
      · obtain ⟨tn, b, ty, hk1, hk2, hb⟩ := th_plain_bool (K := K) hpl hv
        refine ⟨_, rfl, _, _, _, _, false, rfl, .ty "tuple", .base ty, kit_ty hk1, _, rfl, ?_⟩
        refine iteT (iteT ?_)
        refine ⟨_, rfl, _, _, _, _, b, rfl, .ty "bool", .base ty, kit_ty hk2, _, rfl, ?_⟩
        cases b with
        | true =>
          obtain ⟨c, rfl⟩ := hb rfl
          refine iteT fun d nd => ?_
          have ndp : d ≠ p := by
            obtain ⟨_, _, ep, _⟩ := hp
            exact (ne_of_none ep nd).symm
          refine ⟨upd_same, [(.num 1, .int 1), (.num 0, .int 0)], .cons ⟨rfl, rfl⟩ (.cons ⟨rfl, rfl⟩ .nil), d, _, rfl, upd_same, .bl c, rfl, .bl c, rfl, upd_same, .num (if c = true then 1 else 0), rfl, ?_⟩
          have off : Off p H (upd (upd H d (dlO P w d [])) d (dlO P w d (mergeL [] [(.num 1, .int 1), (.num 0, .int 0)]))) := fun b o nb eb => by
            rw [upd_upd, upd_ne (ne_of_none eb nd)]
            exact eb
          have hp' : PoolAt (upd (upd H d (dlO P w d [])) d (dlO P w d (mergeL [] [(.num 1, .int 1), (.num 0, .int 0)]))) p := by
            obtain ⟨g, m, ep, r⟩ := hp
            exact ⟨g, m, by rw [upd_upd, upd_ne ndp.symm]; exact ep, r⟩
          cases c with
          | true => exact q (.int 1) (.int 1) _ (.leaf (by simp [leaves])) rfl off hp'
          | false => exact q (.int 0) (.int 0) _ (.leaf (by simp [leaves])) rfl off hp'
        | false =>
          refine iteF ⟨_, rfl, p, rfl, hp, fun t' v' H' ht' hv' off hp' => q t' v' H' (lift ht') hv' off hp'⟩
      · simp only [Th] at hv
        obtain ⟨a, xs, rfl, ha, hxl, hall⟩ := hv
        have htsl := thAll_len hall
        have hdp : Dp K H (.ref a) (dat (.tup ts)) := ht.good.dp _ (by simp only [Th]; exact ⟨a, xs, rfl, ha, hxl, hall⟩)
        refine ⟨_, rfl, _, _, _, _, true, rfl, .ty "tuple", .base (.tup ha), kit_ty (by decide +kernel), _, rfl, ?_⟩
        refine iteF ⟨_, rfl, Nat.zero_le _, fun e ne => ?_⟩
        have sE : Same H (upd H e (.tup [])) := same_upd ne
        refine ⟨dat (.tup ts), .tuple [], Dp.same sE hdp, .tup (.inl (.inl upd_same)) .nil, ht.shapedD (by omega), by decide +kernel, _, rfl, ?_⟩
        have hp1 : PoolAt (upd H e (.tup [])) p := hp.same sE
        have ha1 : upd H e (.tup []) a = some (.tup xs) := sE _ _ ha
        have hall1 : ThAll (upd H e (.tup [])) ts xs := ThAll.same sE _ _ hall
        have off1 : Off p H (upd H e (.tup [])) := Off.of_same sE
        generalize upd H e (.tup []) = H1 at hp1 ha1 hall1 off1
        cases ts with
        | nil =>
          have e0 : PyData.eqv (dat (.tup [])) (.tuple []) = true := by simp [dat, datAll, PyData.eqv, PyData.eqvAll]
          rw [e0]
          refine iteT ?_
          refine ⟨_, rfl, _, _, _, _, false, rfl, .ty "bool", .base (.tup ha1), kit_ty (by decide +kernel), _, rfl, ?_⟩
          refine iteF ⟨_, rfl, p, rfl, hp1, fun t' v' H' ht' hv' off hp' => q t' v' H' (lift ht') hv' (off1.trans off) hp'⟩
        | cons t0 ts0 =>
          have e0 : PyData.eqv (dat (.tup (t0 :: ts0))) (.tuple []) = false := by simp [dat, datAll, PyData.eqv, PyData.eqvAll]
          rw [e0]
          refine iteF ?_
          have hpos : 0 < xs.length := by
            rw [List.length_cons] at htsl
            omega
          refine ⟨_, rfl, _, rfl, a, xs, rfl, .inr (.inl (.inl ha1)), p, (xs.length : Int), rfl, by omega, by omega, hp1, fun r g m h0 hr2 hg hm hm2 => ?_⟩
          have npa : a ≠ p := by
            obtain ⟨_, _, ep, _⟩ := hp1
            exact ne_of ha1 ep (by intro z; cases z)
          have hp2 : PoolAt (upd H1 p (.lst [V.int g, V.int m])) p := pool_upd hg hm hm2
          have off2 : Off p H (upd H1 p (.lst [V.int g, V.int m])) := off1.trans Off.upd
          have ha2 : upd H1 p (.lst [V.int g, V.int m]) a = some (.tup xs) := by
            rw [upd_ne npa]
            exact ha1
          have hall2 : ThAll (upd H1 p (.lst [V.int g, V.int m])) (t0 :: ts0) xs := (Mild.off Off.upd hp1 hp2).thAll hall1
          generalize upd H1 p (.lst [V.int g, V.int m]) = H2 at hp2 off2 ha2 hall2
          obtain ⟨k, rfl⟩ : ∃ k : Nat, r = (k : Int) := ⟨r.toNat, by omega⟩
          have hk : k < xs.length := by omega
          have hkt : k < (t0 :: ts0).length := by omega
          obtain ⟨u, x, e1, e2, hu⟩ := thAll_get hall2 hkt
          obtain ⟨m0, rfl, hgu⟩ := hts u (List.mem_of_getElem? e1)
          -- thing[:at]
          refine ⟨.ref a, rfl, _, rfl, _, rfl, slA_of ha2 fun p3 H3 sm3 h3 => ?_⟩
          have h3' : H3 p3 = some (.tup (xs.take k)) := by
            rw [h3]
            exact congrArg (fun z => some (HO.tup z)) (cut_to xs k)
          have ha3 := sm3 _ _ ha2
          -- (bent(pool, thing[at]),)
          refine ⟨_, rfl, _, rfl, _, rfl, a, xs, _, x, rfl, rfl, .inl (.inl ha3), atI_nat e2, p, u, x, rfl, hgu, Th.same sm3 _ _ hu, hp2.same sm3, fun t' v' H4 ht' hv' off4 hp4 => ?_⟩
          have np3 : p3 ≠ p := by
            obtain ⟨_, _, ep, _⟩ := hp2
            exact ne_of h3' (sm3 _ _ ep) (by intro z; cases z)
          have h4 : H4 p3 = some (.tup (xs.take k)) := off4 _ _ np3 h3'
          have ha4 : H4 a = some (.tup xs) := off4 _ _ npa ha3
          refine ⟨by show 1 ≤ sizeLine; decide, fun p5 np5 => ?_⟩
          have sm5 : Same H4 (upd H4 p5 (.tup [v'])) := same_upd np5
          refine catA_of (sm5 _ _ h4) upd_same (by rw [List.length_take, List.length_singleton]; omega) fun p6 H6 sm6 h6 => ?_
          -- + thing[at + 1:]
          refine ⟨.ref a, rfl, _, rfl, _, _, rfl, rfl, _, rfl, ?_⟩
          dsimp only [tNoPart]
          refine slA_of (sm6 _ _ (sm5 _ _ ha4)) fun p7 H7 sm7 h7 => ?_
          have h7' : H7 p7 = some (.tup (xs.drop (k + 1))) := by
            rw [h7]
            exact congrArg (fun z => some (HO.tup z)) ((congrArg (fun z => cutV xs (some z) none) (show (k : Int) + 1 = ((k + 1 : Nat) : Int) by omega)).trans (cut_from xs (k + 1)))
          refine catA_of (sm7 _ _ h6) h7' (by simp only [List.length_append, List.length_take, List.length_singleton, List.length_drop]; omega) fun p8 H8 sm8 h8 => ?_
          have smA : Same H4 H8 := ((sm5.trans sm6).trans sm7).trans sm8
          have ml : Mild H2 H8 := ((Mild.of_same sm3).trans (Mild.off off4 (hp2.same sm3) hp4)).trans (Mild.of_same smA)
          refine q (.tup ((t0 :: ts0).take k ++ [t'] ++ (t0 :: ts0).drop (k + 1))) (.ref p8) H8 (.tup ?_ fun z hz => ?_) ?_ (fun b o nb eb => smA _ _ (off4 _ _ nb (sm3 _ _ (off2 _ _ nb eb)))) (hp4.same smA)
          · simp only [List.length_append, List.length_take, List.length_singleton, List.length_drop]
            omega
          · have hmem : ∀ z ∈ (t0 :: ts0), Gd m0 z := fun z hz => by
              obtain ⟨m1, e, h⟩ := hts z hz
              have : m1 = m0 := by omega
              rw [← this]
              exact h
            rcases List.mem_append.mp hz with hz | hz
            · rcases List.mem_append.mp hz with hz | hz
              · exact hmem z (List.mem_of_mem_take hz)
              · rw [List.mem_singleton.mp hz]
                exact ht'
            · exact hmem z (List.mem_of_mem_drop hz)
          · simp only [Th]
            refine ⟨p8, _, rfl, h8, ?_, thAll_append (thAll_append (thAll_take k (ml.thAll hall2)) ?_) (thAll_drop (k + 1) (ml.thAll hall2))⟩
            · simp only [List.length_append, List.length_take, List.length_singleton, List.length_drop]
              omega
            · simp only [ThAll]
              exact ⟨v', [], rfl, Th.same smA _ _ hv', rfl⟩
end
end My
namespace My
open PySem PySem.Spec PyProof.Rows L2 LZ LD
mutual
theorem eqT_comm : ∀ a b : T, eqT a b = eqT b a
  | .tup ts, b => by
    cases b <;> simp only [eqT]
    exact eqAll_comm _ _
  | .non, b => by cases b <;> simp [eqT]
  | .bl x, b => by
    cases b <;> simp only [eqT]
    exact Bool.beq_comm
  | .int x, b => by
    cases b <;> simp only [eqT]
    exact Bool.eq_iff_iff.mpr (by simp; exact eq_comm)
  | .str x, b => by
    cases b <;> simp only [eqT]
    exact Bool.eq_iff_iff.mpr (by simp; exact eq_comm)
  | .oth, b => by cases b <;> simp [eqT]
theorem eqAll_comm : ∀ as bs : List T, eqAll as bs = eqAll bs as
  | [], [] => rfl
  | a :: as, b :: bs => by
    simp only [eqAll]
    rw [eqT_comm a b, eqAll_comm as bs]
  | [], b :: bs => by simp [eqAll]
  | a :: as, [] => by simp [eqAll]
end
theorem scLaw : FnScope ["_law_script", "_law_thing_here", "_law_k", "_law_pool_here", "_law_turn", "_law_one", "_law_other", "_law_expected"] ["_law_script"] (defScope sLaw) := ⟨rfl, rfl, rfl, by decide +kernel, rfl, by decide +kernel, by decide +kernel⟩
structure TxtL (mg : Str → Option Value) : Prop where
  range : mg "range" = none
  max : mg "max" = none
  min : mg "min" = none
  len : mg "len" = none
def spLaw (K : PySem.W.Frag) : Sp := fun vs H Q _ => ∃ (a : Addr) (ns : List Int), vs = [.ref a] ∧ SqL K H a (ns.map V.int) ∧ ns.length ≤ 63 ∧ ∀ H', Q (.bl true) H'
section
variable {P : Program} {w : World} {K : PySem.W.Frag} {mg : Str → Option Value} {base : Heap}
theorem ok_law {f fE fP fT fS fB : Addr} {fd fdE fdP fdT fdS fdB : FuncData} (F : Fun K "law" "law" sLaw f fd)
    (FE : Fun K "are_equal" "are_equal" sEqual fE fdE) (bE : Binds K fdE ["one", "other"] []) (gE : mg "are_equal" = some (.ref fE)) (GE : FnOk P w K mg base CX0 2 fE fdE ["one", "other"] spEq)
    (FP : Fun K "_law_pool" "_law_pool" sPool fP fdP) (bP : Binds K fdP ["_law_script", "_law_k"] []) (gP : mg "_law_pool" = some (.ref fP)) (GP : FnOk P w K mg base CX0 1 fP fdP ["_law_script", "_law_k"] (spPool K))
    (FT : Fun K "_law_thing" "_law_thing" sThing fT fdT) (bT : Binds K fdT ["_law_pool_here", "_law_depth"] []) (gT : mg "_law_thing" = some (.ref fT))
    (GT3 : FnOk P w K mg base CX0 5 fT fdT ["_law_pool_here", "_law_depth"] (spThing 3)) (GT2 : FnOk P w K mg base CX0 4 fT fdT ["_law_pool_here", "_law_depth"] (spThing 2))
    (FS : Fun K "_law_shown" "_law_shown" sShown fS fdS) (bS : Binds K fdS ["_law_thing_here"] []) (gS : mg "_law_shown" = some (.ref fS)) (GS : FnOk P w K mg base CX0 5 fS fdS ["_law_thing_here"] (spShown K 4))
    (FB : Fun K "_law_bent" "_law_bent" sBent fB fdB) (bB : Binds K fdB ["_law_pool_here", "_law_thing_here"] []) (gB : mg "_law_bent" = some (.ref fB)) (GB : FnOk P w K mg base CX0 7 fB fdB ["_law_pool_here", "_law_thing_here"] (spBent 4))
    (TL : TxtL mg) : FnOk P w K mg base CX0 8 f fd ["_law_script"] (spLaw K) := by
  refine F.ok scLaw (fun vs H Q E h => ?_) (fun cdv A outer s H vs Q E hr h => ?_)
  · obtain ⟨a, ns, rfl, _⟩ := h
    rfl
  · obtain ⟨a, ns, rfl, hS, hlen, q⟩ := h
    have hr1 : Room 1 _ := hr.mono (by decide)
    have hr2 : Room 2 _ := hr.mono (by decide)
    have hr4 : Room 4 _ := hr.mono (by decide)
    have hr5 : Room 5 _ := hr.mono (by decide)
    refine ⟨_, pss_cons (ps_for PassesOwn.never rfl (pi_list (pe_lst (pa_cons (pe_lst pa_nil) (pa_cons pe_dnewK (pa_cons (pe_lst (pa_cons pe_int pa_nil)) (pa_cons (pe_tup (pa_cons pe_int (pa_cons (pe_lst (pa_cons pe_int pa_nil)) pa_nil))) pa_nil)))))) (pg_name (i := 1) scLaw.nd rfl (.inl rfl))
        (pss_one (ps_if (PW.pt (pw_or (pt_cmpR op_isnot_bl (pe_call GE hr2 rfl gE FE.kp bE .nil pass0 (pa_cons (pv 1) (pa_cons (pv 1) pa_nil))) pe_bl (nomark _))
          (pw_or1 (pt_cmpR op_isnot_bl (pe_call GE hr2 rfl gE FE.kp bE .nil pass0 (pa_cons (pe_tup (pa_cons (pv 1) pa_nil)) (pa_cons (pe_tup (pa_cons (pv 1) pa_nil)) pa_nil))) pe_bl (nomark _))))) (pss_one (ps_ret pe_bl)) pss_nil)))
      (pss_cons (ps_for PassesOwn.never rfl (pi_range1 rfl TL.range (pa_cons (pe_callB (call_max2 rfl) (by rfl) TL.max PyProof.Rows.boot_max (pa_cons pe_int (pa_cons (pe_callB (call_min2 rfl) (by rfl) TL.min PyProof.Rows.boot_min
            (pa_cons (pe_callB call_len_seq (by rfl) TL.len PySem.boot_len (pa_cons (pv 0) pa_nil)) (pa_cons pe_int pa_nil))) pa_nil))) pa_nil)) (pg_name (i := 2) scLaw.nd rfl (.inl rfl))
          (pss_cons (ps_set (i := 3) scLaw.nd rfl (.inl rfl) (pe_call GP hr1 rfl gP FP.kp bP .nil pass0 (pa_cons (pv 0) (pa_cons (pv 2) pa_nil))))
          (pss_one (ps_for PassesOwn.never rfl (pi_range1 rfl TL.range (pa_cons pe_int pa_nil)) (pg_name (i := 4) scLaw.nd rfl (.inl rfl))
            (pss_cons (ps_set (i := 5) scLaw.nd rfl (.inl rfl) (pe_call GT3 hr5 rfl gT FT.kp bT .nil pass0 (pa_cons (pv 3) (pa_cons pe_int pa_nil))))
            (pss_one (ps_for PassesOwn.never rfl (pi_list (pe_lst (pa_cons (pv 5) (pa_cons (pe_call GB hr rfl gB FB.kp bB .nil pass0 (pa_cons (pv 3) (pa_cons (pv 5) pa_nil))) (pa_cons (pe_call GT2 hr4 rfl gT FT.kp bT .nil pass0 (pa_cons (pv 3) (pa_cons pe_int pa_nil)))
                (pa_cons (pe_call GB hr rfl gB FB.kp bB .nil pass0 (pa_cons (pv 3) (pa_cons (pv 5) pa_nil))) pa_nil)))))) (pg_name (i := 6) scLaw.nd rfl (.inl rfl))
              (pss_cons (ps_set (i := 7) scLaw.nd rfl (.inl rfl) (pe_cmpR (op_eqD hr.units) (pe_call GS hr5 rfl gS FS.kp bS .nil pass0 (pa_cons (pv 5) pa_nil)) (pe_call GS hr5 rfl gS FS.kp bS .nil pass0 (pa_cons (pv 6) pa_nil)) (nomark _)))
              (pss_cons (ps_if (pt_cmpR (op_neD hr.units) (pe_lst (pa_cons (pe_call GE hr2 rfl gE FE.kp bE .nil pass0 (pa_cons (pv 5) (pa_cons (pv 6) pa_nil))) (pa_cons (pe_call GE hr2 rfl gE FE.kp bE .nil pass0 (pa_cons (pv 6) (pa_cons (pv 5) pa_nil))) pa_nil)))
                  (pe_op op_rep (pe_lst (pa_cons (pv 7) pa_nil)) pe_int) (nomark _)) (pss_one (ps_ret pe_bl)) pss_nil)
              (pss_one (ps_if (PW.pt (pw_and (pt_cmpR op_isnot_bl (pe_call GE hr2 rfl gE FE.kp bE .nil pass0 (pa_cons (pv 5) (pa_cons (pv 6) pa_nil))) pe_bl (nomark _))
                  (pw_and1 (pt_cmpR op_isnot_bl (pe_call GE hr2 rfl gE FE.kp bE .nil pass0 (pa_cons (pv 5) (pa_cons (pv 6) pa_nil))) pe_bl (nomark _))))) (pss_one (ps_ret pe_bl)) pss_nil)))))))))))
      (pss_one (ps_ret pe_bl))), ?_⟩
    refine ⟨Nat.zero_le _, fun l1 n1 => fun d nd => ⟨by show 1 ≤ sizeLine; decide, fun l2 n2 => ⟨by show 1 ≤ sizeLine; decide, fun l3 n3 => ⟨by show 2 ≤ sizeLine; decide, fun t nt => ⟨by show 4 ≤ sizeLine; decide, fun L nL => ?_⟩⟩⟩⟩⟩
    have s1 := same_upd (o := .lst []) n1
    have s2 := same_upd (o := .dK []) nd
    have s3 := same_upd (o := .lst [V.int 1]) n2
    have s4 := same_upd (o := .lst [V.int 2]) n3
    have s5 := same_upd (o := .tup [V.int 1, .ref l3]) nt
    have s6 := same_upd (o := .lst [V.ref l1, .ref d, .ref l2, .ref t]) nL
    have sH := ((((s1.trans s2).trans s3).trans s4).trans s5).trans s6
    have e1 := (((((s2.trans s3).trans s4).trans s5).trans s6) l1 _ upd_same)
    have e2 := ((((s3.trans s4).trans s5).trans s6) d _ upd_same)
    have e3 := (((s4.trans s5).trans s6) l2 _ upd_same)
    have e4 := ((s5.trans s6) l3 _ upd_same)
    have e5 := (s6 t _ upd_same)
    have hS6 := sH.seq hS
    refine ⟨L, rfl, ⟨_, .inl (.inl upd_same)⟩, ?_⟩
    have eL : SqL K (upd (upd (upd (upd (upd (upd H l1 (.lst [])) d (.dK [])) l2 (.lst [V.int 1])) l3 (.lst [V.int 2])) t (.tup [V.int 1, .ref l3])) L (.lst [V.ref l1, .ref d, .ref l2, .ref t])) L [V.ref l1, .ref d, .ref l2, .ref t] := .inl (.inl upd_same)
    generalize hH6 : upd (upd (upd (upd (upd (upd H l1 (.lst [])) d (.dK [])) l2 (.lst [V.int 1])) l3 (.lst [V.int 2])) t (.tup [V.int 1, .ref l3])) L (.lst [V.ref l1, .ref d, .ref l2, .ref t]) = H6 at e1 e2 e3 e4 e5 hS6 eL
    have items : ∀ (i : Nat) (x : V), [V.ref l1, .ref d, .ref l2, .ref t][i]? = some x → ∃ y : My.T, Th H6 y x ∧ eqT y y = false ∧ szT y ≤ 10 := by
      intro i x hx
      have hm : x ∈ [V.ref l1, .ref d, .ref l2, .ref t] := List.mem_of_getElem? hx
      simp only [List.mem_cons, List.not_mem_nil, or_false] at hm
      rcases hm with rfl | rfl | rfl | rfl
      · exact ⟨.oth, by simp only [Th]; exact ⟨l1, rfl, .inl ⟨_, e1⟩⟩, by simp [eqT], by simp [szT]⟩
      · exact ⟨.oth, by simp only [Th]; exact ⟨d, rfl, .inr ⟨_, e2⟩⟩, by simp [eqT], by simp [szT]⟩
      · exact ⟨.oth, by simp only [Th]; exact ⟨l2, rfl, .inl ⟨_, e3⟩⟩, by simp [eqT], by simp [szT]⟩
      · exact ⟨.tup [.int 1, .oth], by simp only [Th, ThAll]; exact ⟨t, _, rfl, e5, by simp, _, _, rfl, rfl, _, _, rfl, ⟨l3, rfl, .inl ⟨_, e4⟩⟩, rfl⟩, by simp [eqT, eqAll], by simp [szT, szAll]⟩
    refine for_list (K := K) (a := L) (xs := [V.ref l1, .ref d, .ref l2, .ref t]) (fun i σ H' => ∃ y1 : Option V, σ = [some (.ref a), y1, none, none, none, none, none, none] ∧ Same H6 H')
      ⟨none, rfl, Same.refl _⟩ (fun i σ H' _ ⟨_, _, sm⟩ => sm.seq eL) (fun i x σ H' hx ⟨y1, eσ, sm⟩ => ?_) (fun σ H' ⟨y1, eσ, sm⟩ => ?_)
    · subst eσ
      obtain ⟨y, hy, hyy, hsz⟩ := items i x hx
      have hy' := Th.same sm _ _ hy
      refine ⟨_, rfl, _, rfl, y, y, x, x, rfl, hy', hy', by omega, fun H1 sm1 => ?_⟩
      refine ⟨_, _, rfl, rfl, _, rfl, ?_⟩
      refine iteNS hyy ?_
      have hy1 := Th.same sm1 _ _ hy'
      refine ⟨_, rfl, by show 1 ≤ sizeLine; decide, fun p1 np1 => ?_⟩
      have smp1 := same_upd (o := .tup [x]) np1
      refine ⟨_, rfl, by show 1 ≤ sizeLine; decide, fun p2 np2 => ?_⟩
      have smp2 := same_upd (o := .tup [x]) np2
      have hy2 := Th.same (smp1.trans smp2) _ _ hy1
      have ht1 : Th (upd (upd H1 p1 (.tup [x])) p2 (.tup [x])) (.tup [y]) (.ref p1) := by
        simp only [Th, ThAll]
        exact ⟨p1, _, rfl, smp2 _ _ upd_same, by simp, x, [], rfl, hy2, rfl⟩
      have ht2 : Th (upd (upd H1 p1 (.tup [x])) p2 (.tup [x])) (.tup [y]) (.ref p2) := by
        simp only [Th, ThAll]
        exact ⟨p2, _, rfl, upd_same, by simp, x, [], rfl, hy2, rfl⟩
      refine ⟨.tup [y], .tup [y], .ref p1, .ref p2, rfl, ht1, ht2, by simp only [szT, szAll]; omega, fun H2 sm2 => ?_⟩
      refine ⟨_, _, rfl, rfl, _, rfl, ?_⟩
      have hyy2 : eqT (.tup [y]) (.tup [y]) = false := by simp [eqT, eqAll, hyy]
      refine iteNS hyy2 ?_
      exact ⟨some x, rfl, sm.trans (sm1.trans ((smp1.trans smp2).trans sm2))⟩
    · subst eσ
      have hS7 := sm.seq hS6
      -- for k in range(max(1, min(len(script), 8)))
      refine ⟨_, rfl, a, _, rfl, .inl hS7, _, _, rfl, _, _, rfl, _, rfl, ?_⟩
      have hN : ∃ N : Nat, (if (if (8 : Int) < ((ns.map V.int).length : Nat) then (8 : Int) else ((ns.map V.int).length : Nat)) > 1 then (if (8 : Int) < ((ns.map V.int).length : Nat) then (8 : Int) else ((ns.map V.int).length : Nat)) else 1) = (N : Int) ∧ N ≤ 8 := by
        refine ⟨(if (if (8 : Int) < ((ns.map V.int).length : Nat) then (8 : Int) else ((ns.map V.int).length : Nat)) > 1 then (if (8 : Int) < ((ns.map V.int).length : Nat) then (8 : Int) else ((ns.map V.int).length : Nat)) else 1).toNat, ?_, ?_⟩
        · split <;> split <;> omega
        · split <;> split <;> omega
      obtain ⟨N, eN, hN8⟩ := hN
      rw [eN]
      refine ⟨by omega, by omega, ?_⟩
      refine for_range (lo := 0) (n := N) (fun i σ H' => ∃ z1 z2 z3 z4 z5 z6 z7 : Option V, σ = [some (.ref a), z1, z2, z3, z4, z5, z6, z7] ∧ SqL K H' a (ns.map V.int)) ⟨_, _, _, _, _, _, _, rfl, hS7⟩ (fun i σ Hk hi hPv => ?_) (fun σ Hk _ => q _)
      obtain ⟨z1, z2, z3, z4, z5, z6, z7, rfl, hSk⟩ := hPv
      -- pool = _law_pool(script, k)
      refine ⟨_, rfl, _, rfl, a, ns, i, congrArg (fun z => [V.ref a, V.int z]) (show (0 : Int) + (i : Int) = (i : Int) by omega), hSk, hlen, by omega, fun Hp p smp np hp => ?_⟩
      -- for turn in range(10)
      refine ⟨10, rfl, by decide, by decide, ?_⟩
      refine for_range (lo := 0) (n := 10) (fun j σ H' => ∃ z4 z5 z6 z7 : Option V, σ = [some (.ref a), z1, some (.int (0 + (i : Int))), some (.ref p), z4, z5, z6, z7] ∧ Same Hk H' ∧ PoolAt H' p) ⟨_, _, _, _, rfl, smp, hp⟩ (fun j σ Hj hj hPv => ?_) (fun σ Hj hPv => ?_)
      · obtain ⟨z4, z5, z6, z7, rfl, smj, hpj⟩ := hPv
        -- one = _law_thing(pool, 3)
        refine ⟨_, rfl, p, rfl, hpj, fun t1 v1 G1 gd1 th1 off1 hp1 => ?_⟩
        -- [one, bent, thing, bent]
        refine ⟨_, rfl, _, rfl, _, rfl, p, t1, v1, rfl, gd1, th1, hp1, fun t2 v2 G2 gd2 th2 off2 hp2 => ?_⟩
        have m2 : Mild G1 G2 := Mild.off off2 hp1 hp2
        refine ⟨_, rfl, p, rfl, hp2, fun t3 v3 G3 gd3 th3 off3 hp3 => ?_⟩
        have m3 : Mild G2 G3 := Mild.off off3 hp2 hp3
        refine ⟨_, rfl, _, rfl, p, t1, v1, rfl, gd1, m3.th (m2.th th1), hp3, fun t4 v4 G4 gd4 th4 off4 hp4 => ?_⟩
        have m4 : Mild G3 G4 := Mild.off off4 hp3 hp4
        refine ⟨by show 4 ≤ sizeLine; decide, fun L2 nL2 => ⟨L2, rfl, ⟨_, .inl (.inl upd_same)⟩, ?_⟩⟩
        have sL := same_upd (o := .lst [v1, v2, v3, v4]) nL2
        have eL2 : SqL K (upd G4 L2 (.lst [v1, v2, v3, v4])) L2 [v1, v2, v3, v4] := .inl (.inl upd_same)
        have a1 := Th.same sL _ _ (m4.th (m3.th (m2.th th1)))
        have a2 := Th.same sL _ _ (m4.th (m3.th th2))
        have a3 := Th.same sL _ _ (m4.th th3)
        have a4 := Th.same sL _ _ th4
        have hpL := hp4.same sL
        have smL : Same Hk (upd G4 L2 (.lst [v1, v2, v3, v4])) := fun b o eb => by
          have nb : b ≠ p := ne_of_none eb np
          exact sL _ _ (off4 _ _ nb (off3 _ _ nb (off2 _ _ nb (off1 _ _ nb (smj _ _ eb)))))
        generalize upd G4 L2 (.lst [v1, v2, v3, v4]) = G5 at sL eL2 a1 a2 a3 a4 hpL smL
        have its : ∀ (m : Nat) (x : V), [v1, v2, v3, v4][m]? = some x → ∃ t : My.T, Th G5 t x ∧ Gd 3 t := by
          intro m x hx
          have hm : x ∈ [v1, v2, v3, v4] := List.mem_of_getElem? hx
          simp only [List.mem_cons, List.not_mem_nil, or_false] at hm
          rcases hm with rfl | rfl | rfl | rfl
          · exact ⟨t1, a1, gd1⟩
          · exact ⟨t2, a2, gd2⟩
          · exact ⟨t3, a3, gd3.up⟩
          · exact ⟨t4, a4, gd4⟩
        have sz1 : szT t1 < 100000 := Nat.lt_of_le_of_lt gd1.sz (by decide)
        refine for_list (K := K) (a := L2) (xs := [v1, v2, v3, v4]) (fun m σ H' => ∃ z6 z7 : Option V, σ = [some (.ref a), z1, some (.int (0 + (i : Int))), some (.ref p), some (.int (0 + (j : Int))), some v1, z6, z7] ∧ Same G5 H')
          ⟨_, _, rfl, Same.refl _⟩ (fun m σ H' _ ⟨_, _, _, sm⟩ => sm.seq eL2) (fun m x σ H' hx hPv => ?_) (fun σ H' hPv => ?_)
        · obtain ⟨z6, z7, rfl, sm⟩ := hPv
          obtain ⟨t, ht, gd⟩ := its m x hx
          have szt : szT t < 100000 := Nat.lt_of_le_of_lt gd.sz (by decide)
          -- expected = shown(one) == shown(other)
          refine ⟨_, rfl, t1, v1, rfl, gd1, Th.same sm _ _ a1, fun r1 K1 k1 d1 => ?_⟩
          refine ⟨_, rfl, t, x, rfl, gd, Th.same (sm.trans k1) _ _ ht, fun r2 K2 k2 d2 => ?_⟩
          refine ⟨shw t1, shw t, Dp.same ((fresh_same _ _).trans k2) d1, Dp.same (fresh_same _ _) d2, gd1.shaped (by decide), gd.shaped (by decide), ?_⟩
          have eE : PyData.eqv (shw t1) (shw t) = eqT t1 t := eqv_shw gd1.good _ gd.good
          rw [eE]
          have sm2 : Same G5 K2 := (sm.trans k1).trans k2
          have b1 := Th.same sm2 _ _ a1
          have bt := Th.same sm2 _ _ ht
          -- [are_equal(one, other), are_equal(other, one)] != [expected] * 2
          refine ⟨_, rfl, _, rfl, t1, t, v1, x, rfl, b1, bt, sz1, fun K3 k3 => ?_⟩
          refine ⟨_, rfl, _, rfl, t, t1, x, v1, rfl, Th.same k3 _ _ bt, Th.same k3 _ _ b1, szt, fun K4 k4 => ?_⟩
          refine ⟨by show 2 ≤ sizeLine; decide, fun p5 np5 => ?_⟩
          have k5 := same_upd (o := .lst [V.bl (eqT t1 t), .bl (eqT t t1)]) np5
          refine ⟨_, rfl, by show 1 ≤ sizeLine; decide, fun p6 np6 => ?_⟩
          have k6 := same_upd (o := .lst [V.bl (eqT t1 t)]) np6
          refine ⟨p6, 2, _, rfl, rfl, upd_same, by decide, by decide, by show 1 * 2 ≤ sizeLine; decide, fun p7 np7 => ?_⟩
          have k7 := same_upd (o := .lst [V.bl (eqT t1 t), .bl (eqT t1 t)]) np7
          refine ⟨.list [.bool (eqT t1 t), .bool (eqT t t1)], .list [.bool (eqT t1 t), .bool (eqT t1 t)], .lst (.inl (.inl (k7 _ _ (k6 _ _ upd_same)))) (.cons (.bl _) (.cons (.bl _) .nil)), .lst (.inl (.inl upd_same)) (.cons (.bl _) (.cons (.bl _) .nil)), ?_, ?_, _, rfl, ?_⟩
          · cases eqT t1 t <;> cases eqT t t1 <;> decide +kernel
          · cases eqT t1 t <;> decide +kernel
          have eN2 : (!PyData.eqv (.list [.bool (eqT t1 t), .bool (eqT t t1)]) (.list [.bool (eqT t1 t), .bool (eqT t1 t)])) = false := by
            rw [eqT_comm t t1]
            cases eqT t1 t <;> simp [PyData.eqv, PyData.eqvAll]
          rw [eN2]
          refine iteF ?_
          have sm7 : Same G5 (upd (upd (upd K4 p5 (.lst [V.bl (eqT t1 t), .bl (eqT t t1)])) p6 (.lst [V.bl (eqT t1 t)])) p7 (.lst [V.bl (eqT t1 t), .bl (eqT t1 t)])) := ((((sm2.trans k3).trans k4).trans k5).trans k6).trans k7
          have c1 := Th.same sm7 _ _ a1
          have ct := Th.same sm7 _ _ ht
          -- are_equal(one, other) is not True and are_equal(one, other) is not False
          refine ⟨_, rfl, _, rfl, t1, t, v1, x, rfl, c1, ct, sz1, fun K8 k8 => ?_⟩
          refine ⟨_, _, rfl, rfl, _, rfl, ?_⟩
          refine ite2 (fun hne => ?_) (fun _ => ?_)
          · have ef : eqT t1 t = false := by
              cases e : eqT t1 t with
              | false => rfl
              | true =>
                rw [e] at hne
                exact absurd hne (by decide)
            refine ⟨_, rfl, _, rfl, t1, t, v1, x, rfl, Th.same k8 _ _ c1, Th.same k8 _ _ ct, sz1, fun K9 k9 => ?_⟩
            refine ⟨_, _, rfl, rfl, _, rfl, ?_⟩
            refine iteNS ef ?_
            exact ⟨_, _, rfl, (sm7.trans k8).trans k9⟩
          · exact ⟨_, _, rfl, sm7.trans k8⟩
        · obtain ⟨z6, z7, rfl, sm⟩ := hPv
          exact ⟨_, _, _, _, rfl, smL.trans sm, hpL.same sm⟩
      · obtain ⟨z4, z5, z6, z7, rfl, smj, hpj⟩ := hPv
        exact ⟨_, _, _, _, _, _, _, rfl, smj.seq hSk⟩
end
end My
namespace My
open PySem PySem.Spec PyProof.Rows L2 LZ LD
theorem all_mk {l : PySem.W.OpenLaw} {w : World} {K : PySem.W.Frag} {h : Heap} {mg : Str → Option Value} {fa f1 f2 f3 f4 f5 f6 f7 f8 : Addr} (X : K.In h) (G : h.Ns mainGlobals mg) (hfa : mg "law" = some (.ref fa))
    {od1 an1 od2 an2 od3 an3 od4 an4 od5 an5 od6 an6 od7 an7 od8 an8 : Option Addr} {sl1 sl2 sl3 sl4 sl5 sl6 sl7 sl8 : Array (Option Value)} {oc1 kV1 dc1 pm1 cd1 ct1 oc2 kV2 dc2 pm2 cd2 ct2 oc3 kV3 dc3 pm3 cd3 ct3 oc4 kV4 dc4 pm4 cd4 ct4 oc5 kV5 dc5 pm5 cd5 ct5 oc6 kV6 dc6 pm6 cd6 ct6 oc7 kV7 dc7 pm7 cd7 ct7 oc8 kV8 dc8 pm8 cd8 ct8 : Value}
    (a1 : PySem.W.nsIn K mainGlobals "kind_of" = some (some (.ref f1))) (l1 : K.lookup f1 = some ⟨oc1, od1, .func (PySem.W.fnOf "kind_of" "kind_of" (defArgs sKind) (defBody sKind) (defScope sKind) .none kV1 dc1 pm1 an1 cd1 ct1), sl1⟩) (c1 : PySem.W.codeIn K cd1 "kind_of" = true) (k1 : PySem.W.keepIn K (.ref f1) = true)
    (a2 : PySem.W.nsIn K mainGlobals "are_equal" = some (some (.ref f2))) (l2 : K.lookup f2 = some ⟨oc2, od2, .func (PySem.W.fnOf "are_equal" "are_equal" (defArgs sEqual) (defBody sEqual) (defScope sEqual) .none kV2 dc2 pm2 an2 cd2 ct2), sl2⟩) (c2 : PySem.W.codeIn K cd2 "are_equal" = true) (k2 : PySem.W.keepIn K (.ref f2) = true)
    (a3 : PySem.W.nsIn K mainGlobals "_law_pool" = some (some (.ref f3))) (l3 : K.lookup f3 = some ⟨oc3, od3, .func (PySem.W.fnOf "_law_pool" "_law_pool" (defArgs sPool) (defBody sPool) (defScope sPool) .none kV3 dc3 pm3 an3 cd3 ct3), sl3⟩) (c3 : PySem.W.codeIn K cd3 "_law_pool" = true) (k3 : PySem.W.keepIn K (.ref f3) = true)
    (a4 : PySem.W.nsIn K mainGlobals "_law_draw" = some (some (.ref f4))) (l4 : K.lookup f4 = some ⟨oc4, od4, .func (PySem.W.fnOf "_law_draw" "_law_draw" (defArgs sDraw) (defBody sDraw) (defScope sDraw) .none kV4 dc4 pm4 an4 cd4 ct4), sl4⟩) (c4 : PySem.W.codeIn K cd4 "_law_draw" = true) (k4 : PySem.W.keepIn K (.ref f4) = true)
    (a5 : PySem.W.nsIn K mainGlobals "_law_thing" = some (some (.ref f5))) (l5 : K.lookup f5 = some ⟨oc5, od5, .func (PySem.W.fnOf "_law_thing" "_law_thing" (defArgs sThing) (defBody sThing) (defScope sThing) .none kV5 dc5 pm5 an5 cd5 ct5), sl5⟩) (c5 : PySem.W.codeIn K cd5 "_law_thing" = true) (k5 : PySem.W.keepIn K (.ref f5) = true)
    (a6 : PySem.W.nsIn K mainGlobals "_law_shown" = some (some (.ref f6))) (l6 : K.lookup f6 = some ⟨oc6, od6, .func (PySem.W.fnOf "_law_shown" "_law_shown" (defArgs sShown) (defBody sShown) (defScope sShown) .none kV6 dc6 pm6 an6 cd6 ct6), sl6⟩) (c6 : PySem.W.codeIn K cd6 "_law_shown" = true) (k6 : PySem.W.keepIn K (.ref f6) = true)
    (a7 : PySem.W.nsIn K mainGlobals "_law_bent" = some (some (.ref f7))) (l7 : K.lookup f7 = some ⟨oc7, od7, .func (PySem.W.fnOf "_law_bent" "_law_bent" (defArgs sBent) (defBody sBent) (defScope sBent) .none kV7 dc7 pm7 an7 cd7 ct7), sl7⟩) (c7 : PySem.W.codeIn K cd7 "_law_bent" = true) (k7 : PySem.W.keepIn K (.ref f7) = true)
    (a8 : PySem.W.nsIn K mainGlobals "law" = some (some (.ref f8))) (l8 : K.lookup f8 = some ⟨oc8, od8, .func (PySem.W.fnOf "law" "law" (defArgs sLaw) (defBody sLaw) (defScope sLaw) .none kV8 dc8 pm8 an8 cd8 ct8), sl8⟩) (c8 : PySem.W.codeIn K cd8 "law" = true) (k8 : PySem.W.keepIn K (.ref f8) = true)
    (z_sum : PySem.W.nsIn K mainGlobals "sum" = some none)
    (z_len : PySem.W.nsIn K mainGlobals "len" = some none)
    (z_abs : PySem.W.nsIn K mainGlobals "abs" = some none)
    (z_int : PySem.W.nsIn K mainGlobals "int" = some none)
    (z_isinstance : PySem.W.nsIn K mainGlobals "isinstance" = some none)
    (z_bool : PySem.W.nsIn K mainGlobals "bool" = some none)
    (z_str : PySem.W.nsIn K mainGlobals "str" = some none)
    (z_tuple : PySem.W.nsIn K mainGlobals "tuple" = some none)
    (z_list : PySem.W.nsIn K mainGlobals "list" = some none)
    (z_zip : PySem.W.nsIn K mainGlobals "zip" = some none)
    (z_range : PySem.W.nsIn K mainGlobals "range" = some none)
    (z_max : PySem.W.nsIn K mainGlobals "max" = some none)
    (z_min : PySem.W.nsIn K mainGlobals "min" = some none)
    (z_repr : PySem.W.nsIn K mainGlobals "repr" = some none)
    : ∃ fd : FuncData, (∀ (s : Shared) (v : Value), BindsTo s fd ⟨[v], []⟩ [("_law_script", v)]) ∧ ∀ base : Heap, K.In base → base.Ns mainGlobals mg → FnOk l.prog w K mg base CX0 8 fa fd ["_law_script"] (spLaw K) := by
  have e := hfa.symm.trans (PySem.W.mg_of X G a8)
  cases e
  have F1 := fun_mk (st := sKind) l1 c1 k1
  have g1 := PySem.W.mg_of X G a1
  have b1 := F1.binds (ps := ["value"]) fun _ _ _ _ _ _ us hl => match us, hl with | [_], _ => rfl
  have F2 := fun_mk (st := sEqual) l2 c2 k2
  have g2 := PySem.W.mg_of X G a2
  have b2 := F2.binds (ps := ["one", "other"]) fun _ _ _ _ _ _ us hl => match us, hl with | [_, _], _ => rfl
  have F3 := fun_mk (st := sPool) l3 c3 k3
  have g3 := PySem.W.mg_of X G a3
  have b3 := F3.binds (ps := ["_law_script", "_law_k"]) fun _ _ _ _ _ _ us hl => match us, hl with | [_, _], _ => rfl
  have F4 := fun_mk (st := sDraw) l4 c4 k4
  have g4 := PySem.W.mg_of X G a4
  have b4 := F4.binds (ps := ["_law_pool_here", "_law_many"]) fun _ _ _ _ _ _ us hl => match us, hl with | [_, _], _ => rfl
  have F5 := fun_mk (st := sThing) l5 c5 k5
  have g5 := PySem.W.mg_of X G a5
  have b5 := F5.binds (ps := ["_law_pool_here", "_law_depth"]) fun _ _ _ _ _ _ us hl => match us, hl with | [_, _], _ => rfl
  have F6 := fun_mk (st := sShown) l6 c6 k6
  have g6 := PySem.W.mg_of X G a6
  have b6 := F6.binds (ps := ["_law_thing_here"]) fun _ _ _ _ _ _ us hl => match us, hl with | [_], _ => rfl
  have F7 := fun_mk (st := sBent) l7 c7 k7
  have g7 := PySem.W.mg_of X G a7
  have b7 := F7.binds (ps := ["_law_pool_here", "_law_thing_here"]) fun _ _ _ _ _ _ us hl => match us, hl with | [_, _], _ => rfl
  have F8 := fun_mk (st := sLaw) l8 c8 k8
  have m_sum := PySem.W.mg_none_of X G z_sum
  have m_len := PySem.W.mg_none_of X G z_len
  have m_abs := PySem.W.mg_none_of X G z_abs
  have m_int := PySem.W.mg_none_of X G z_int
  have m_isinstance := PySem.W.mg_none_of X G z_isinstance
  have m_bool := PySem.W.mg_none_of X G z_bool
  have m_str := PySem.W.mg_none_of X G z_str
  have m_tuple := PySem.W.mg_none_of X G z_tuple
  have m_list := PySem.W.mg_none_of X G z_list
  have m_zip := PySem.W.mg_none_of X G z_zip
  have m_range := PySem.W.mg_none_of X G z_range
  have m_max := PySem.W.mg_none_of X G z_max
  have m_min := PySem.W.mg_none_of X G z_min
  have m_repr := PySem.W.mg_none_of X G z_repr
  exact ⟨_, fun s v => .of_eq rfl, fun base _ _ =>
    ok_law F8 F2 b2 g2 (ok_equal F2 F1 b1 g1 ⟨m_isinstance, m_bool, m_int, m_str, m_tuple⟩ ⟨m_len, m_list, m_zip⟩) F3 b3 g3 (ok_pool F3 ⟨m_sum, m_len, m_abs, m_int⟩)
      F5 b5 g5 (ok_thing F5 b5 g5 F4 b4 g4 ⟨m_tuple, m_range⟩ 3 (by decide)) (ok_thing F5 b5 g5 F4 b4 g4 ⟨m_tuple, m_range⟩ 2 (by decide))
      F6 b6 g6 (ok_shown F6 b6 g6 ⟨m_isinstance, m_tuple, m_repr⟩ 4) F7 b7 g7 (ok_bent F7 b7 g7 F5 b5 g5 F4 b4 g4 ⟨m_tuple, m_range⟩ ⟨m_isinstance, m_tuple, m_bool, m_len⟩ 4 (by decide)) ⟨m_range, m_max, m_min, m_len⟩⟩
theorem walk {l : PySem.W.OpenLaw} {q : Program} {loose : List Str} {XP : (Str → Option Value) → Heap → Prop} {YP : World → Heap → Prop} {d : DefRec} {K : Params → PySem.W.Frag} (hn : l.most = some 63) (hdf : d.params.defaults = [])
    (hY : ∀ (w : World) (h : Heap), YP w h → (K w.params).In h)
    (F : ∀ (w : World) (mg : Str → Option Value) (fa : Addr) (h : Heap), (K w.params).In h → h.Ns mainGlobals mg → mg d.name = some (.ref fa) →
      ∃ fd : FuncData, (∀ (s : Shared) (u : Value), BindsTo s fd ⟨[u], []⟩ [("_law_script", u)]) ∧ ∀ base : Heap, (K w.params).In base → base.Ns mainGlobals mg → FnOk l.prog w (K w.params) mg base CX0 8 fa fd ["_law_script"] (spLaw (K w.params))) :
    PySem.W.WalkO q loose XP YP l.row.toRowW d [] (fun f vs => PySem.call f vs) :=
  L2.walk_of (n := 63) (k := 8) (x := "_law_script") (CX := fun _ => CX0) (sp := fun w => spLaw (K w.params)) hn (by decide) hdf ⟨rfl, by decide, by decide⟩ hY F (fun _ _ a ns hl _ hS => ⟨a, ns, rfl, hS, hl, fun _ => rfl⟩) fun _ _ _ _ _ z => z
end My

open PySem PySem.W PyProof.Rows in
set_option maxRecDepth 100000 in
set_option maxHeartbeats 0 in
theorem PySem.Challenge.cw_mendedruns_k02_equal_values_holds : PySem.Challenge.rw_mendedruns_k02_equal_values.Holds := by
  w_on; o_law; k_head; (case hw => w_witness2)
  k_fill
  refine My.walk (l := PySem.Challenge.rw_mendedruns_k02_equal_values) rfl rfl (fun w h Y => PySem.W.kIn_of Y) ?F
  case F =>
    intro w mg fa h KX G hmg
    refine' My.all_mk KX G hmg ?a1 ?l1 ?c1 ?k1 ?a2 ?l2 ?c2 ?k2 ?a3 ?l3 ?c3 ?k3 ?a4 ?l4 ?c4 ?k4 ?a5 ?l5 ?c5 ?k5 ?a6 ?l6 ?c6 ?k6 ?a7 ?l7 ?c7 ?k7 ?a8 ?l8 ?c8 ?k8 ?z_sum ?z_len ?z_abs ?z_int ?z_isinstance ?z_bool ?z_str ?z_tuple ?z_list ?z_zip ?z_range ?z_max ?z_min ?z_repr
    (case a1 => k_is)
    (case l1 => k_is)
    (case c1 => k_is)
    (case k1 => k_is)
    (case a2 => k_is)
    (case l2 => k_is)
    (case c2 => k_is)
    (case k2 => k_is)
    (case a3 => k_is)
    (case l3 => k_is)
    (case c3 => k_is)
    (case k3 => k_is)
    (case a4 => k_is)
    (case l4 => k_is)
    (case c4 => k_is)
    (case k4 => k_is)
    (case a5 => k_is)
    (case l5 => k_is)
    (case c5 => k_is)
    (case k5 => k_is)
    (case a6 => k_is)
    (case l6 => k_is)
    (case c6 => k_is)
    (case k6 => k_is)
    (case a7 => k_is)
    (case l7 => k_is)
    (case c7 => k_is)
    (case k7 => k_is)
    (case a8 => k_is)
    (case l8 => k_is)
    (case c8 => k_is)
    (case k8 => k_is)
    (case z_sum => k_is)
    (case z_len => k_is)
    (case z_abs => k_is)
    (case z_int => k_is)
    (case z_isinstance => k_is)
    (case z_bool => k_is)
    (case z_str => k_is)
    (case z_tuple => k_is)
    (case z_list => k_is)
    (case z_zip => k_is)
    (case z_range => k_is)
    (case z_max => k_is)
    (case z_min => k_is)
    (case z_repr => k_is)

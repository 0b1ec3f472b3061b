import PyProof.Rows.All
import Wide.All
import OpenK.AllK
import Wide.FinOn
import HandS.ForMost
import HandS.IsInst
import HandS.Codes
import HandS.TupAny
import HandS.TupLe
import HandS.Zip
import HandS.RaiseMore
import HandS.StrMore
import HandS.DictTup
import KE.KDictDisplayH
import KE.KDictCopyH
import HandS.Iter
import PyProof.EqAt
import PyProof.EqKinds
import HandS.More
import KE.KEqDict
import HandS.Steps
import PyProof.StrOps2
import HandS.TupMul
import PySem.Challenge.RW_mendedruns_k01_values_keys_and_names
set_option Elab.async false
set_option linter.all false
set_option maxRecDepth 100000
set_option maxHeartbeats 4000000
namespace My
open PySem PySem.Spec PyProof.Rows L2
/-! ### the text -/
def top (i : Nat) : Stmt := PySem.Challenge.pw_mendedruns_k01_values_keys_and_names.main.body.getD i (.Pass ⟨0, 0, 0, 0⟩)
abbrev sKind : Stmt := top 8
abbrev sIsValue : Stmt := top 9
abbrev sIsPlain : Stmt := top 10
abbrev sIsText : Stmt := top 11
abbrev sHasOnly : Stmt := top 12
abbrev sIsList : Stmt := top 13
abbrev sIsKey : Stmt := top 14
abbrev sIsName : Stmt := top 15
abbrev sIsState : Stmt := top 16
abbrev sPool : Stmt := top 18
abbrev sDraw : Stmt := top 19
abbrev sLValue : Stmt := top 20
abbrev sLText : Stmt := top 21
abbrev sLName : Stmt := top 22
abbrev sThing : Stmt := top 23
abbrev sCount : Stmt := top 24
abbrev sGood : Stmt := top 25
abbrev sHolds : Stmt := top 26
abbrev sLaw : Stmt := top 27
theorem scPool : FnScope ["_law_script", "_law_k", "_law_cell", "_law_great", "_law_mixed"] ["_law_script", "_law_k"] (defScope sPool) := ⟨rfl, rfl, rfl, by decide +kernel, rfl, by decide +kernel, by decide +kernel⟩
theorem scDraw : FnScope ["_law_pool_here", "_law_many", "_law_found"] ["_law_pool_here", "_law_many"] (defScope sDraw) := ⟨rfl, rfl, rfl, by decide +kernel, rfl, by decide +kernel, by decide +kernel⟩

/-! ### heaps -/
theorem same_upd {H : Hp} {p : Addr} {o : HO} (h : H p = none) : Same H (upd H p o) := fun b x e => by
  rw [upd_ne (ne_of_none e h)]
  exact e
/-- all that stands elsewhere than at p stays -/
def Off (p : Addr) (H H' : Hp) : Prop := ∀ b o, b ≠ p → H b = some o → H' b = some o
theorem Off.refl (p : Addr) (H : Hp) : Off p H H := fun _ _ _ e => e
theorem Off.trans {p : Addr} {H H1 H2 : Hp} (a : Off p H H1) (b : Off p H1 H2) : Off p H H2 := fun c o n e => b c o n (a c o n e)
theorem Off.of_same {p : Addr} {H H' : Hp} (s : Same H H') : Off p H H' := fun b o _ e => s b o e
theorem Off.upd {p : Addr} {H : Hp} {o : HO} : Off p H (upd H p o) := fun b u n e => by
  rw [upd_ne n]
  exact e
/-- a pool: two numbers -/
def PoolAt (H : Hp) (p : Addr) : Prop := ∃ g m : Int, H p = some (.lst [.int g, .int m]) ∧ 0 ≤ g ∧ 0 ≤ m ∧ m < 2147483647
theorem PoolAt.same {H H' : Hp} {p : Addr} (P : PoolAt H p) (s : Same H H') : PoolAt H' p := by
  obtain ⟨g, m, e, h⟩ := P
  exact ⟨g, m, s _ _ e, h⟩
theorem cut63 {ns : List Int} (h : ns.length ≤ 63) : cutV (ns.map V.int) none (some 63) = ns.map V.int := by
  unfold cutV
  rw [HT.sIx_none, show HT.sIx (ns.map V.int).length (ns.map V.int).length (some 63) = min 63 (ns.map V.int).length from HT.sIx_nat _ _ 63]
  rw [List.drop_zero, List.length_map, Nat.min_eq_right h, Nat.sub_zero]
  exact List.take_of_length_le (by rw [List.length_map]; exact Nat.le_refl _)

structure TxtP (mg : Str → Option Value) : Prop where
  sum : mg "sum" = none
  len : mg "len" = none
  abs : mg "abs" = none
  int : mg "int" = none

def spPool (K : PySem.W.Frag) : Sp := fun vs H Q _ => ∃ (a : Addr) (ns : List Int) (k : Nat), vs = [.ref a, .int (k : Int)] ∧ SqL K H a (ns.map V.int) ∧ ns.length ≤ 63 ∧ k < 64 ∧
  ∀ H' p, Same H H' → H p = none → PoolAt H' p → Q (.ref p) H'
def spDraw : Sp := fun vs H Q _ => ∃ (p : Addr) (n : Int), vs = [.ref p, .int n] ∧ 0 < n ∧ n < 1000 ∧ PoolAt H p ∧
  ∀ (r : Int) (g m : Int), 0 ≤ r → r < n → 0 ≤ g → 0 ≤ m → m < 2147483647 → Q (.int r) (upd H p (.lst [.int g, .int m]))
section
variable {P : Program} {w : World} {K : PySem.W.Frag} {mg : Str → Option Value} {base : Heap}
theorem ok_pool {f : Addr} {fd : FuncData} (F : Fun K "_law_pool" "_law_pool" sPool f fd) (T : TxtP mg) : FnOk P w K mg base CX0 1 f fd ["_law_script", "_law_k"] (spPool K) := by
  refine F.ok scPool (fun vs H Q E h => ?_) (fun cdv A outer s H vs Q E hr h => ?_)
  · obtain ⟨a, ns, k, rfl, _⟩ := h
    rfl
  · obtain ⟨a, ns, k, rfl, hS, hlen, hk, q⟩ := h
    refine ⟨_, pss_cons (ps_set (i := 2) scPool.nd rfl (.inl rfl) (pe_op op_add (pe_op op_mul pe_int (pe_callB (cr_sum rfl) (by rfl) T.sum (by decide +kernel) (pa_cons (pe_slice sl_list (pv 0) po_none (po_some pe_int)) pa_nil))) (pv 1)))
      (C8.pss_cut (ps_if (pt_cmpR op_lt (pv 1) (pe_callB call_len_seq (by rfl) T.len PySem.boot_len (pa_cons (pv 0) pa_nil)) (nomark _)) (pss_one (ps_set (i := 2) scPool.nd rfl (.inl rfl) (pe_ix ix_list (pv 0) (pv 1) (fun _ _ => rfl)))) pss_nil)
      (pss_cons (ps_set (i := 3) scPool.nd rfl (.inl rfl) (pe_callB call_abs (by rfl) T.abs (by decide +kernel) (pa_cons (pv 2) pa_nil)))
      (pss_cons (ps_set (i := 4) scPool.nd rfl (.inl rfl) (pe_op op_mod (pe_op op_mul (pe_op op_add (pe_op op_add (pe_op op_add (pe_op op_mod (pv 3) pe_int) (pe_op op_mul (pe_op op_mul pe_int (pv 1)) (pv 1))) (pe_op op_mul pe_int (pv 1))) pe_int) pe_int) pe_int))
      (pss_one (ps_ret (pe_lst (pa_cons (pe_op op_mul (pv 3) (pe_callTy call_int1 (by rfl) T.int (by decide +kernel) (pa_cons (pe_cmpR op_ge (pv 3) (pe_op op_pow pe_int pe_int) (nomark _)) pa_nil))) (pa_cons (pe_op op_mod (pe_op op_mul (pv 4) (pv 4)) pe_int) pa_nil)))))))), ?_⟩
    refine ⟨.ref a, rfl, 63, rfl, a, _, rfl, hS, fun p np => ?_⟩
    rw [cut63 hlen]
    have s1 : Same H (upd H p (.lst (ns.map V.int))) := same_upd np
    refine ⟨p, ns, rfl, .inl (.inl upd_same), _, _, rfl, rfl, .inl ⟨by decide, by decide⟩, _, rfl, _, _, rfl, rfl, ?_⟩
    refine ⟨fun σ H' => H' = upd H p (.lst (ns.map V.int)) ∧ ∃ c : Int, σ = [some (.ref a), some (.int k), some (.int c), none, none], ?_, ?_⟩
    · refine ⟨_, rfl, _, rfl, a, _, rfl, .inl (s1.seq hS), _, _, rfl, rfl, _, rfl, ?_⟩
      refine ite2 (fun hc => ?_) (fun _ => ?_)
      · have hc' := of_decide_eq_true hc
        rw [List.length_map] at hc'
        have hkn : k < ns.length := by omega
        refine ⟨_, rfl, _, rfl, a, _, _, .int ns[k], rfl, rfl, s1.seq hS, atI_nat ?_, ?_⟩
        · rw [List.getElem?_map, List.getElem?_eq_getElem hkn]
          rfl
        · exact ⟨rfl, ns[k], rfl⟩
      · exact ⟨rfl, _, rfl⟩
    · rintro σ' H' ⟨rfl, c, rfl⟩
      refine ⟨_, rfl, c, rfl, ?_⟩
      have hg : ∃ g : Int, (if c < 0 then -c else c) = g ∧ 0 ≤ g := ⟨_, rfl, by split <;> omega⟩
      obtain ⟨g, eg, hg⟩ := hg
      rw [eg]
      refine ⟨_, rfl, _, _, rfl, rfl, by show (0 : Int) < 2147483629; decide, ?_⟩
      refine ⟨_, rfl, _, _, rfl, rfl, .inl ⟨by decide, by decide⟩, _, rfl, _, _, rfl, rfl, .inr ⟨by omega, by omega⟩, _, _, rfl, rfl, ?_⟩
      refine ⟨_, rfl, _, _, rfl, rfl, .inl ⟨by decide, by decide⟩, _, _, rfl, rfl, _, _, rfl, rfl, _, _, rfl, rfl, .inr ⟨by decide, by decide⟩, _, _, rfl, rfl, by show (0 : Int) < 2147483647; decide, ?_⟩
      have hm := Int.emod_nonneg ((g % 2147483629 + 7919 * (k : Int) * (k : Int) + 31 * (k : Int) + 17) * 48271) (show (2147483647 : Int) ≠ 0 by decide)
      have hm2 := Int.emod_lt_of_pos ((g % 2147483629 + 7919 * (k : Int) * (k : Int) + 31 * (k : Int) + 17) * 48271) (show (0 : Int) < 2147483647 by decide)
      generalize em : (g % 2147483629 + 7919 * (k : Int) * (k : Int) + 31 * (k : Int) + 17) * 48271 % 2147483647 = m at hm hm2
      refine ⟨_, rfl, _, rfl, _, _, rfl, rfl, ⟨by decide, by decide, by decide⟩, _, _, rfl, rfl, .inr ⟨_, rfl, _, _, rfl, rfl, .inr ?_, ?_⟩⟩
      · split <;> exact ⟨by decide, by decide⟩
      refine ⟨_, rfl, _, rfl, _, _, rfl, rfl, .inl ⟨by omega, by omega⟩, _, _, rfl, rfl, by show (0 : Int) < 2147483629; decide, ?_⟩
      refine ⟨by show 2 ≤ sizeLine; decide, fun p2 np2 => ?_⟩
      have np2' : H p2 = none := s1.free np2
      refine q _ p2 (s1.trans (same_upd np2)) np2' ⟨_, _, upd_same, ?_, Int.emod_nonneg _ (by decide), ?_⟩
      · exact Int.mul_nonneg hg (by split <;> decide)
      · have h3 := Int.emod_lt_of_pos (m * m) (show (0 : Int) < 2147483629 by decide)
        omega
theorem ok_draw {f : Addr} {fd : FuncData} (F : Fun K "_law_draw" "_law_draw" sDraw f fd) : FnOk P w K mg base CX0 1 f fd ["_law_pool_here", "_law_many"] spDraw := by
  refine F.ok scDraw (fun vs H Q E h => ?_) (fun cdv A outer s H vs Q E hr h => ?_)
  · obtain ⟨p, n, rfl, _⟩ := h
    rfl
  · obtain ⟨p, n, rfl, hn, hn2, ⟨g, m, hp, hg, hm, hm2⟩, q⟩ := h
    refine ⟨_, pss_cons (ps_if (pt_cmpR op_gt (pe_ix ix_list (pv 0) pe_int (fun _ _ => rfl)) pe_int (nomark _))
        (pss_cons (ps_set (i := 2) scDraw.nd rfl (.inl rfl) (pe_op op_mod (pe_ix ix_list (pv 0) pe_int (fun _ _ => rfl)) (pv 1)))
        (pss_cons (ps_asg (pe_op op_fdiv (pe_ix ix_list (pv 0) pe_int (fun _ _ => rfl)) (pv 1)) (pg_sub (pv 0) pe_int set_list))
        (pss_one (ps_ret (pv 2))))) pss_nil)
      (pss_cons (ps_asg (pe_op op_mod (pe_op op_add (pe_op op_mul (pe_ix ix_list (pv 0) pe_int (fun _ _ => rfl)) pe_int) pe_int) pe_int) (pg_sub (pv 0) pe_int set_list))
      (pss_one (ps_ret (pe_op op_mod (pe_op op_fdiv (pe_op op_mod (pe_op op_mul (pe_ix ix_list (pv 0) pe_int (fun _ _ => rfl)) (pe_ix ix_list (pv 0) pe_int (fun _ _ => rfl))) pe_int) pe_int) (pv 1))))), ?_⟩
    have at0 : atI [V.int g, V.int m] 0 = some (.int g) := rfl
    have at1 : atI [V.int g, V.int m] 1 = some (.int m) := rfl
    have hS : SqL K H p [V.int g, V.int m] := SqL.of hp
    refine ⟨_, rfl, p, _, _, _, rfl, rfl, hS, at0, _, _, rfl, rfl, _, rfl, ?_⟩
    refine ite2 (fun hc => ?_) (fun _ => ?_)
    · refine ⟨_, rfl, p, _, _, _, rfl, rfl, hS, at0, _, rfl, _, _, rfl, rfl, hn, ?_⟩
      refine ⟨_, rfl, p, _, _, _, rfl, rfl, hS, at0, _, rfl, _, _, rfl, rfl, ⟨hn, by omega⟩, ?_⟩
      refine ⟨_, rfl, p, _, _, 0, rfl, rfl, hp, rfl, ?_⟩
      refine ⟨_, rfl, ?_⟩
      exact q _ _ _ (Int.emod_nonneg _ (by omega)) (Int.emod_lt_of_pos _ hn) (Int.ediv_nonneg hg (by omega)) hm hm2
    · refine ⟨_, rfl, p, _, _, _, rfl, rfl, hS, at1, _, _, rfl, rfl, .inr ⟨by decide, by decide⟩, _, _, rfl, rfl, _, _, rfl, rfl, by show (0 : Int) < 2147483647; decide, ?_⟩
      refine ⟨_, rfl, p, _, _, 1, rfl, rfl, hp, rfl, ?_⟩
      have hy := Int.emod_nonneg (m * 48271 + 11) (show (2147483647 : Int) ≠ 0 by decide)
      have hy2 := Int.emod_lt_of_pos (m * 48271 + 11) (show (0 : Int) < 2147483647 by decide)
      have hS2 : SqL K (upd H p (.lst [V.int g, V.int ((m * 48271 + 11) % 2147483647)])) p [V.int g, V.int ((m * 48271 + 11) % 2147483647)] := SqL.of upd_same
      have at2 : atI [V.int g, V.int ((m * 48271 + 11) % 2147483647)] 1 = some (.int ((m * 48271 + 11) % 2147483647)) := rfl
      refine ⟨_, rfl, p, _, _, _, rfl, rfl, hS2, at2, _, rfl, p, _, _, _, rfl, rfl, hS2, at2, _, _, rfl, rfl, .inl ⟨by omega, by omega⟩, _, _, rfl, rfl, by show (0 : Int) < 2147483629; decide, _, _, rfl, rfl, ⟨by decide, by decide⟩, _, rfl, _, _, rfl, rfl, hn, ?_⟩
      exact q _ _ _ (Int.emod_nonneg _ (by omega)) (Int.emod_lt_of_pos _ hn) hg hy hy2
end
end My
namespace My
open PySem PySem.Spec PyProof.Rows L2
/-! ### things -/
inductive T where
  | non | bl (b : Bool) | int (i : Int) | str (x : Str) | oth (d : Bool) | tup (ts : List T)
mutual
/-- the thing t is the value v at the heap -/
def Th (H : Hp) : T → V → Prop
  | .non, v => v = .non
  | .bl b, v => v = .bl b
  | .int i, v => v = .int i
  | .str x, v => v = .str x
  | .oth d, v => ∃ a, v = .ref a ∧ if d = true then H a = some (.dK []) else ∃ xs, H a = some (.lst xs)
  | .tup ts, v => ∃ a xs, v = .ref a ∧ H a = some (.tup xs) ∧ xs.length < 1000 ∧ ThAll H ts xs
def ThAll (H : Hp) : List T → List V → Prop
  | [], vs => vs = []
  | t :: ts, vs => ∃ v r, vs = v :: r ∧ Th H t v ∧ ThAll H ts r
end
theorem thAll_len {H : Hp} : ∀ {ts : List T} {vs : List V}, ThAll H ts vs → ts.length = vs.length
  | [], _, h => by
    unfold ThAll at h
    rw [h]
    rfl
  | t :: ts, _, h => by
    unfold ThAll at h
    obtain ⟨v, r, rfl, _, h2⟩ := h
    rw [List.length_cons, List.length_cons, thAll_len h2]
mutual
theorem Th.keep {H H' : Hp} (k : ∀ b o, (∀ l, o ≠ .lst l) → H b = some o → H' b = some o) (kl : ∀ b l, H b = some (.lst l) → ∃ l', H' b = some (.lst l')) : ∀ (t : T) (v : V), Th H t v → Th H' t v
  | .non, _, h => h
  | .bl _, _, h => h
  | .int _, _, h => h
  | .str _, _, h => h
  | .oth d, _, h => by
    unfold Th at h ⊢
    obtain ⟨a, e, h⟩ := h
    refine ⟨a, e, ?_⟩
    cases d with
    | true => exact k _ _ (fun l q => nomatch q) h
    | false =>
      obtain ⟨xs, h⟩ := h
      exact kl _ _ h
  | .tup ts, _, h => by
    unfold Th at h ⊢
    obtain ⟨a, xs, e, h1, h2, h3⟩ := h
    exact ⟨a, xs, e, k _ _ (fun l q => nomatch q) h1, h2, ThAll.keep k kl ts xs h3⟩
theorem ThAll.keep {H H' : Hp} (k : ∀ b o, (∀ l, o ≠ .lst l) → H b = some o → H' b = some o) (kl : ∀ b l, H b = some (.lst l) → ∃ l', H' b = some (.lst l')) : ∀ (ts : List T) (vs : List V), ThAll H ts vs → ThAll H' ts vs
  | [], _, h => h
  | t :: ts, _, h => by
    unfold ThAll at h ⊢
    obtain ⟨v, r, e, h1, h2⟩ := h
    exact ⟨v, r, e, Th.keep k kl t v h1, ThAll.keep k kl ts r h2⟩
end
theorem Th.same {H H' : Hp} (s : Same H H') (t : T) (v : V) (h : Th H t v) : Th H' t v := Th.keep (fun b o _ e => s b o e) (fun b l e => ⟨l, s b _ e⟩) t v h
theorem ThAll.same {H H' : Hp} (s : Same H H') (ts : List T) (vs : List V) (h : ThAll H ts vs) : ThAll H' ts vs := ThAll.keep (fun b o _ e => s b o e) (fun b l e => ⟨l, s b _ e⟩) ts vs h

/-! ### heaps that change mildly: lists stay lists, all else stays -/
structure Mild (H H' : Hp) : Prop where
  oth : ∀ b o, (∀ l, o ≠ .lst l) → H b = some o → H' b = some o
  lst : ∀ b l, H b = some (.lst l) → ∃ l', H' b = some (.lst l')
theorem Mild.refl (H : Hp) : Mild H H := ⟨fun _ _ _ e => e, fun _ l e => ⟨l, e⟩⟩
theorem Mild.of_same {H H' : Hp} (s : Same H H') : Mild H H' := ⟨fun b o _ e => s b o e, fun b l e => ⟨l, s b _ e⟩⟩
theorem Mild.trans {H H1 H2 : Hp} (a : Mild H H1) (b : Mild H1 H2) : Mild H H2 := ⟨fun c o n e => b.oth c o n (a.oth c o n e), fun c l e => by
  obtain ⟨l1, e1⟩ := a.lst c l e
  exact b.lst c l1 e1⟩
theorem Mild.updL {H : Hp} {D : Addr} {l l' : List V} (h : H D = some (.lst l)) : Mild H (upd H D (.lst l')) := ⟨fun b o n e => by
    rw [upd_ne (fun z => by rw [z, h] at e; cases e; exact n _ rfl)]
    exact e, fun b m e => by
    by_cases z : b = D
    · exact ⟨l', by rw [z, upd_same]⟩
    · exact ⟨m, by rw [upd_ne z]; exact e⟩⟩
theorem Mild.off {p : Addr} {H H' : Hp} (o : Off p H H') (h : PoolAt H p) (h' : PoolAt H' p) : Mild H H' := by
  obtain ⟨g, m, e, _⟩ := h
  obtain ⟨g', m', e', _⟩ := h'
  refine ⟨fun b u n eb => o b u (fun z => by rw [z, e] at eb; cases eb; exact n _ rfl) eb, fun b l eb => ?_⟩
  by_cases z : b = p
  · exact ⟨_, by rw [z]; exact e'⟩
  · exact ⟨l, o b _ z eb⟩
theorem Mild.th {H H' : Hp} (m : Mild H H') {t : T} {v : V} (h : Th H t v) : Th H' t v := Th.keep m.oth m.lst t v h
theorem Mild.thAll {H H' : Hp} (m : Mild H H') {ts : List T} {vs : List V} (h : ThAll H ts vs) : ThAll H' ts vs := ThAll.keep m.oth m.lst ts vs h
theorem thAll_snoc {H : Hp} {t : T} {v : V} (h : Th H t v) : ∀ {ts : List T} {vs : List V}, ThAll H ts vs → ThAll H (ts ++ [t]) (vs ++ [v])
  | [], vs, hs => by
    simp only [ThAll] at hs
    subst hs
    simp only [List.nil_append, ThAll]
    exact ⟨v, [], rfl, h, rfl⟩
  | t' :: ts, vs, hs => by
    simp only [ThAll] at hs
    obtain ⟨v', r, rfl, h1, h2⟩ := hs
    simp only [List.cons_append, ThAll]
    exact ⟨v', r ++ [v], rfl, h1, thAll_snoc h h2⟩
theorem thAll_get {H : Hp} : ∀ {ts : List T} {vs : List V} {i : Nat} (_ : ThAll H ts vs) (_ : i < ts.length), ∃ t v, ts[i]? = some t ∧ vs[i]? = some v ∧ Th H t v
  | [], _, _, _, h => by simp at h
  | t :: ts, vs, 0, hs, _ => by
    simp only [ThAll] at hs
    obtain ⟨v, r, rfl, h1, _⟩ := hs
    exact ⟨t, v, rfl, rfl, h1⟩
  | t :: ts, vs, i + 1, hs, h => by
    simp only [ThAll] at hs
    obtain ⟨v, r, rfl, _, h2⟩ := hs
    obtain ⟨t', v', e1, e2, h3⟩ := thAll_get (i := i) h2 (by simpa using h)
    exact ⟨t', v', by simpa using e1, by simpa using e2, h3⟩

theorem tYes_if {σ : L2.St} {H : Hp} {A B : Hp → Prop} (h : A H) : tYes σ H (fun b H3 => if b = true then A H3 else B H3) := by
  show (if true = true then A H else B H)
  rw [if_pos rfl]
  exact h
/-! ### kind_of -/
def kindS : T → Str
  | .non => "none"
  | .bl _ => "truth"
  | .int _ => "integer"
  | .str _ => "text"
  | .tup _ => "list"
  | .oth _ => "other"
structure TxtK (mg : Str → Option Value) : Prop where
  isi : mg "isinstance" = none
  bool : mg "bool" = none
  int : mg "int" = none
  str : mg "str" = none
  tuple : mg "tuple" = none
theorem scKind : FnScope ["value"] ["value"] (defScope sKind) := ⟨rfl, rfl, rfl, by decide +kernel, rfl, by decide +kernel, by decide +kernel⟩
def spKind : Sp := fun vs H Q _ => ∃ (t : T) (v : V), vs = [v] ∧ Th H t v ∧ Q (.str (kindS t)) H
section
variable {P : Program} {w : World} {K : PySem.W.Frag} {mg : Str → Option Value} {base : Heap}
theorem ok_kind {f : Addr} {fd : FuncData} (F : Fun K "kind_of" "kind_of" sKind f fd) (T : TxtK mg) : FnOk P w K mg base CX0 1 f fd ["value"] spKind := by
  refine F.ok scKind (fun vs H Q E h => ?_) (fun cdv A outer s H vs Q E hr h => ?_)
  · obtain ⟨t, v, rfl, _⟩ := h
    rfl
  · obtain ⟨t, v, rfl, ht, q⟩ := h
    refine ⟨_, pss_cons (ps_if (pt_cmpR op_isN (pv 0) pe_non (nomark _)) (pss_one (ps_ret pe_str)) pss_nil)
      (pss_cons (ps_if (pt_val (pe_callB call_isi (by rfl) T.isi PyProof.Rows.boot_isinstance (pa_cons (pv 0) (pa_cons (pe_bltn (v := .ty "bool") (by rfl) T.bool (by decide +kernel) rfl) pa_nil)))) (pss_one (ps_ret pe_str)) pss_nil)
      (pss_cons (ps_if (pt_val (pe_callB call_isi (by rfl) T.isi PyProof.Rows.boot_isinstance (pa_cons (pv 0) (pa_cons (pe_bltn (v := .ty "int") (by rfl) T.int (by decide +kernel) rfl) pa_nil)))) (pss_one (ps_ret pe_str)) pss_nil)
      (pss_cons (ps_if (pt_val (pe_callB call_isi (by rfl) T.isi PyProof.Rows.boot_isinstance (pa_cons (pv 0) (pa_cons (pe_bltn (v := .ty "str") (by rfl) T.str (by decide +kernel) rfl) pa_nil)))) (pss_one (ps_ret pe_str)) pss_nil)
      (pss_cons (ps_if (pt_val (pe_callB call_isi (by rfl) T.isi PyProof.Rows.boot_isinstance (pa_cons (pv 0) (pa_cons (pe_bltn (v := .ty "tuple") (by rfl) T.tuple (by decide +kernel) rfl) pa_nil)))) (pss_one (ps_ret pe_str)) pss_nil)
      (pss_one (ps_ret pe_str)))))), ?_⟩
    cases t with
    | non =>
      unfold Th at ht
      subst ht
      refine ⟨_, rfl, rfl, _, rfl, ?_⟩
      exact iteT q
    | bl b =>
      unfold Th at ht
      subst ht
      refine ⟨_, rfl, rfl, _, rfl, ?_⟩
      refine iteF ⟨_, rfl, _, _, _, _, true, rfl, .ty "bool", .base (.bl b), kit_ty (by decide +kernel), _, rfl, ?_⟩
      exact iteT q
    | int i =>
      unfold Th at ht
      subst ht
      refine ⟨_, rfl, rfl, _, rfl, ?_⟩
      refine iteF ⟨_, rfl, _, _, _, _, false, rfl, .ty "bool", .base (.int i), kit_ty (by decide +kernel), _, rfl, ?_⟩
      refine iteF ⟨_, rfl, _, _, _, _, true, rfl, .ty "int", .base (.int i), kit_ty (by decide +kernel), _, rfl, ?_⟩
      exact iteT q
    | str x =>
      unfold Th at ht
      subst ht
      refine ⟨_, rfl, rfl, _, rfl, ?_⟩
      refine iteF ⟨_, rfl, _, _, _, _, false, rfl, .ty "bool", .base (.str x), kit_ty (by decide +kernel), _, rfl, ?_⟩
      refine iteF ⟨_, rfl, _, _, _, _, false, rfl, .ty "int", .base (.str x), kit_ty (by decide +kernel), _, rfl, ?_⟩
      refine iteF ⟨_, rfl, _, _, _, _, true, rfl, .ty "str", .base (.str x), kit_ty (by decide +kernel), _, rfl, ?_⟩
      exact iteT q
    | tup ts =>
      unfold Th at ht
      obtain ⟨a, xs, rfl, e, _, _⟩ := ht
      refine ⟨_, rfl, rfl, _, rfl, ?_⟩
      refine iteF ⟨_, rfl, _, _, _, _, false, rfl, .ty "bool", .base (.tup e), kit_ty (by decide +kernel), _, rfl, ?_⟩
      refine iteF ⟨_, rfl, _, _, _, _, false, rfl, .ty "int", .base (.tup e), kit_ty (by decide +kernel), _, rfl, ?_⟩
      refine iteF ⟨_, rfl, _, _, _, _, false, rfl, .ty "str", .base (.tup e), kit_ty (by decide +kernel), _, rfl, ?_⟩
      refine iteF ⟨_, rfl, _, _, _, _, true, rfl, .ty "tuple", .base (.tup e), kit_ty (by decide +kernel), _, rfl, ?_⟩
      exact iteT q
    | oth d =>
      unfold Th at ht
      obtain ⟨a, rfl, e⟩ := ht
      have ty : ∃ n, TyOf K H (.ref a) (.type n) ∧ (n = "list" ∨ n = "dict") := by
        cases d with
        | true => exact ⟨_, .dK e, .inr rfl⟩
        | false =>
          obtain ⟨xs, e⟩ := e
          exact ⟨_, .lst e, .inl rfl⟩
      obtain ⟨n, ty, hn⟩ := ty
      refine ⟨_, rfl, rfl, _, rfl, ?_⟩
      refine iteF ⟨_, rfl, _, _, _, _, false, rfl, .ty "bool", .base ty, kit_ty (by rcases hn with rfl | rfl <;> decide +kernel), _, rfl, ?_⟩
      refine iteF ⟨_, rfl, _, _, _, _, false, rfl, .ty "int", .base ty, kit_ty (by rcases hn with rfl | rfl <;> decide +kernel), _, rfl, ?_⟩
      refine iteF ⟨_, rfl, _, _, _, _, false, rfl, .ty "str", .base ty, kit_ty (by rcases hn with rfl | rfl <;> decide +kernel), _, rfl, ?_⟩
      refine iteF ⟨_, rfl, _, _, _, _, false, rfl, .ty "tuple", .base ty, kit_ty (by rcases hn with rfl | rfl <;> decide +kernel), _, rfl, ?_⟩
      exact iteF q
end
end My
namespace My
open PySem PySem.Spec PyProof.Rows L2
/-! ### what the program's functions say -/
def ltS : Str := "abcdefghijklmnopqrstuvwxyz"
def ldS : Str := "abcdefghijklmnopqrstuvwxyz0123456789"
def onlyS (x cs : Str) : Bool := decide (Txt.stripChars x cs = "")
def textS (x : Str) : Bool := !decide (60 < (x.length : Int)) && onlyS x ldS
def isText : T → Bool
  | .str x => textS x
  | _ => false
def isPlain : T → Bool
  | .int i => decide (-(10 ^ 60) < i) && decide (i < 10 ^ 60)
  | .str x => textS x
  | _ => false
def isTupT : T → Bool
  | .tup _ => true
  | _ => false
def kids : T → List T
  | .tup ts => ts
  | _ => []
def lev : Nat → List T → Nat → Bool
  | 0, ls, _ => ls.isEmpty
  | n + 1, ls, c =>
    let c' := c + (ls.map fun l => (kids l).length).sum
    if 50 < c' then false else
      let items := (ls.map kids).flatten
      if (items.filter fun t => !isTupT t).all isPlain then lev n (items.filter isTupT) c' else false
def isVal (t : T) : Bool := if isTupT t then lev 5 [t] 0 else isPlain t
def isKey (t : T) : Bool := match t with
  | .str x => textS x && decide (0 < (x.length : Int))
  | _ => false
def isName (t : T) : Bool := match t with
  | .str x => (textS x && decide (0 < (x.length : Int))) && (decide ((x.length : Int) ≤ 12) && onlyS x ltS)
  | _ => false
/-- texts are not too long -/
def short : T → Prop
  | .str x => x.length ≤ 1000
  | _ => True
structure TxtV (mg : Str → Option Value) : Prop where
  len : mg "len" = none
  lt : ∃ t, mg "LETTERS" = some (.str ltS t)
  ld : ∃ t, mg "LETTERS_AND_DIGITS" = some (.str ldS t)
  ib : ∃ t, mg "INTEGER_BOUND" = some (.int (10 ^ 60) t)
  mt : ∃ t, mg "LONGEST_TEXT" = some (.int 60 t)
  mn : ∃ t, mg "LONGEST_NAME" = some (.int 12 t)
theorem scHasOnly : FnScope ["text", "characters"] ["text", "characters"] (defScope sHasOnly) := ⟨rfl, rfl, rfl, by decide +kernel, rfl, by decide +kernel, by decide +kernel⟩
theorem scIsText : FnScope ["value"] ["value"] (defScope sIsText) := ⟨rfl, rfl, rfl, by decide +kernel, rfl, by decide +kernel, by decide +kernel⟩
theorem scIsPlain : FnScope ["value"] ["value"] (defScope sIsPlain) := ⟨rfl, rfl, rfl, by decide +kernel, rfl, by decide +kernel, by decide +kernel⟩
theorem scIsKey : FnScope ["value"] ["value"] (defScope sIsKey) := ⟨rfl, rfl, rfl, by decide +kernel, rfl, by decide +kernel, by decide +kernel⟩
theorem scIsName : FnScope ["value"] ["value"] (defScope sIsName) := ⟨rfl, rfl, rfl, by decide +kernel, rfl, by decide +kernel, by decide +kernel⟩
def spHasOnly : Sp := fun vs H Q _ => ∃ x cs : Str, vs = [.str x, .str cs] ∧ x.length ≤ 1000 ∧ Q (.bl (onlyS x cs)) H
def spB (g : T → Bool) : Sp := fun vs H Q _ => ∃ (t : T) (v : V), vs = [v] ∧ Th H t v ∧ short t ∧ Q (.bl (g t)) H
theorem dec_str (a b : Str) : decide (V.str a = V.str b) = decide (a = b) := by
  by_cases e : a = b
  · rw [e]
    simp
  · rw [decide_eq_false e, decide_eq_false fun q => e (V.str.inj q)]
theorem dec_ne {a b : Str} (h : ¬ a = b) : decide (V.str a = V.str b) = false := decide_eq_false fun q => h (V.str.inj q)
def isStrT : T → Bool
  | .str _ => true
  | _ => false
def isIntT : T → Bool
  | .int _ => true
  | _ => false
theorem kindS_text : ∀ t : T, decide (V.str (kindS t) = V.str "text") = isStrT t
  | .non => dec_ne (by simp only [kindS]; decide +kernel)
  | .bl _ => dec_ne (by simp only [kindS]; decide +kernel)
  | .int _ => dec_ne (by simp only [kindS]; decide +kernel)
  | .str _ => by simp [kindS, isStrT]
  | .oth _ => dec_ne (by simp only [kindS]; decide +kernel)
  | .tup _ => dec_ne (by simp only [kindS]; decide +kernel)
theorem kindS_int : ∀ t : T, decide (V.str (kindS t) = V.str "integer") = isIntT t
  | .non => dec_ne (by simp only [kindS]; decide +kernel)
  | .bl _ => dec_ne (by simp only [kindS]; decide +kernel)
  | .int _ => by simp [kindS, isIntT]
  | .str _ => dec_ne (by simp only [kindS]; decide +kernel)
  | .oth _ => dec_ne (by simp only [kindS]; decide +kernel)
  | .tup _ => dec_ne (by simp only [kindS]; decide +kernel)
theorem kindS_list : ∀ t : T, decide (V.str (kindS t) = V.str "list") = isTupT t
  | .non => dec_ne (by simp only [kindS]; decide +kernel)
  | .bl _ => dec_ne (by simp only [kindS]; decide +kernel)
  | .int _ => dec_ne (by simp only [kindS]; decide +kernel)
  | .str _ => dec_ne (by simp only [kindS]; decide +kernel)
  | .oth _ => dec_ne (by simp only [kindS]; decide +kernel)
  | .tup _ => by simp [kindS, isTupT]
section
variable {P : Program} {w : World} {K : PySem.W.Frag} {mg : Str → Option Value} {base : Heap}
theorem ok_hasOnly {f : Addr} {fd : FuncData} (F : Fun K "has_only" "has_only" sHasOnly f fd) : FnOk P w K mg base CX0 1 f fd ["text", "characters"] spHasOnly := by
  refine F.ok scHasOnly (fun vs H Q E h => ?_) (fun cdv A outer s H vs Q E hr h => ?_)
  · obtain ⟨x, cs, rfl, _⟩ := h
    rfl
  · obtain ⟨x, cs, rfl, hx, q⟩ := h
    refine ⟨_, pss_one (ps_ret (pe_cmpR op_eq (pe_m1 PySem.F.slot_str_strip PySem.F.type_str_strip mt_stripChars (pv 0) (pv 1)) pe_str (nomark _))), ?_⟩
    refine ⟨_, rfl, ⟨_, rfl⟩, _, rfl, x, cs, rfl, rfl, Nat.le_of_lt (small1000 hx), rfl, ?_⟩
    show Q (.bl (decide (V.str (Txt.stripChars x cs) = V.str ""))) H
    rw [dec_str]
    exact q
theorem ok_isText {f fK fO : Addr} {fd fdK fdO : FuncData} (F : Fun K "is_text" "is_text" sIsText f fd) (FK : Fun K "kind_of" "kind_of" sKind fK fdK) (bK : Binds K fdK ["value"] []) (gK : mg "kind_of" = some (.ref fK)) (TK : TxtK mg)
    (FO : Fun K "has_only" "has_only" sHasOnly fO fdO) (bO : Binds K fdO ["text", "characters"] []) (gO : mg "has_only" = some (.ref fO)) (T : TxtV mg) : FnOk P w K mg base CX0 2 f fd ["value"] (spB isText) := by
  have GK : FnOk P w K mg base CX0 1 fK fdK ["value"] spKind := ok_kind FK TK
  have GO : FnOk P w K mg base CX0 1 fO fdO ["text", "characters"] spHasOnly := ok_hasOnly FO
  obtain ⟨t1, m1⟩ := T.mt
  obtain ⟨t2, m2⟩ := T.ld
  refine F.ok scIsText (fun vs H Q E h => ?_) (fun cdv A outer s H vs Q E hr h => ?_)
  · obtain ⟨t, v, rfl, _⟩ := h
    rfl
  · obtain ⟨t, v, rfl, ht, hs, q⟩ := h
    refine ⟨_, pss_cons (ps_if (PW.pt (pw_or (pt_cmpR op_ne (pe_call GK hr rfl gK FK.kp bK .nil pass0 (pa_cons (pv 0) pa_nil)) pe_str (nomark _))
        (pw_or1 (pt_cmpR op_gt (pe_callB call_len_str (by rfl) T.len PySem.boot_len (pa_cons (pv 0) pa_nil)) (pe_glob (v := .int 60) rfl m1 ⟨_, rfl⟩) (nomark _))))) (pss_one (ps_ret pe_bl)) pss_nil)
      (pss_one (ps_ret (pe_call GO hr rfl gO FO.kp bO .nil pass0 (pa_cons (pv 0) (pa_cons (pe_glob (v := .str ldS) rfl m2 ⟨_, rfl⟩) pa_nil))))), ?_⟩
    refine ⟨_, rfl, t, v, rfl, ht, rfl, _, rfl, ?_⟩
    rw [kindS_text]
    cases t with
    | str x =>
      simp only [Th] at ht
      subst ht
      refine iteF ⟨_, rfl, x, rfl, Nat.le_of_lt (small1000 hs), _, _, rfl, rfl, _, rfl, ?_⟩
      refine ite2 (fun hc => ?_) (fun hc => ?_)
      · have e : isText (.str x) = false := by
          simp only [isText, textS]
          rw [hc]
          rfl
        rw [e] at q
        exact q
      · have e : isText (.str x) = onlyS x ldS := by
          simp only [isText, textS]
          rw [Bool.eq_false_iff.mpr hc]
          rfl
        rw [e] at q
        exact ⟨_, rfl, x, ldS, rfl, hs, q⟩
    | non => exact iteT q
    | bl b => exact iteT q
    | int i => exact iteT q
    | oth d => exact iteT q
    | tup ts => exact iteT q
theorem ok_isPlain {f fK fX : Addr} {fd fdK fdX : FuncData} (F : Fun K "is_plain_value" "is_plain_value" sIsPlain f fd) (FK : Fun K "kind_of" "kind_of" sKind fK fdK) (bK : Binds K fdK ["value"] []) (gK : mg "kind_of" = some (.ref fK)) (TK : TxtK mg)
    (FX : Fun K "is_text" "is_text" sIsText fX fdX) (bX : Binds K fdX ["value"] []) (gX : mg "is_text" = some (.ref fX)) (GX : FnOk P w K mg base CX0 2 fX fdX ["value"] (spB isText)) (T : TxtV mg) :
    FnOk P w K mg base CX0 3 f fd ["value"] (spB isPlain) := by
  have GK : FnOk P w K mg base CX0 1 fK fdK ["value"] spKind := ok_kind FK TK
  obtain ⟨t1, m1⟩ := T.ib
  refine F.ok scIsPlain (fun vs H Q E h => ?_) (fun cdv A outer s H vs Q E hr h => ?_)
  · obtain ⟨t, v, rfl, _⟩ := h
    rfl
  · obtain ⟨t, v, rfl, ht, hs, q⟩ := h
    refine ⟨_, pss_cons (ps_if (pt_cmpR op_eq (pe_call GK (hr.mono (by decide)) rfl gK FK.kp bK .nil pass0 (pa_cons (pv 0) pa_nil)) pe_str (nomark _))
        (pss_one (ps_ret (pe_chain op_lt op_lt (pe_un un_neg (pe_glob (v := .int (10 ^ 60)) rfl m1 ⟨_, rfl⟩)) (pv 0) (pe_glob (v := .int (10 ^ 60)) rfl m1 ⟨_, rfl⟩)))) pss_nil)
      (pss_one (ps_ret (pe_call GX hr rfl gX FX.kp bX .nil pass0 (pa_cons (pv 0) pa_nil)))), ?_⟩
    refine ⟨_, rfl, t, v, rfl, ht, rfl, _, rfl, ?_⟩
    rw [kindS_int]
    cases t with
    | int i =>
      simp only [Th] at ht
      subst ht
      refine iteT ⟨_, rfl, _, rfl, _, _, rfl, rfl, _, rfl, ?_⟩
      refine ite2 (fun hc => ?_) (fun hc => ?_)
      · refine ⟨_, _, rfl, rfl, ?_⟩
        have e : isPlain (.int i) = decide (i < 10 ^ 60) := by
          simp only [isPlain]
          rw [hc, Bool.true_and]
        rw [e] at q
        exact q
      · have e : isPlain (.int i) = false := by
          simp only [isPlain]
          rw [Bool.eq_false_iff.mpr hc, Bool.false_and]
        rw [e] at q
        exact q
    | str x => exact iteF ⟨_, rfl, .str x, v, rfl, ht, hs, q⟩
    | non => exact iteF ⟨_, rfl, .non, v, rfl, ht, hs, q⟩
    | bl b => exact iteF ⟨_, rfl, .bl b, v, rfl, ht, hs, q⟩
    | oth d => exact iteF ⟨_, rfl, .oth d, v, rfl, ht, hs, q⟩
    | tup ts => exact iteF ⟨_, rfl, .tup ts, v, rfl, ht, hs, q⟩
theorem ok_isKey {f fX : Addr} {fd fdX : FuncData} (F : Fun K "is_key" "is_key" sIsKey f fd)
    (FX : Fun K "is_text" "is_text" sIsText fX fdX) (bX : Binds K fdX ["value"] []) (gX : mg "is_text" = some (.ref fX)) (GX : FnOk P w K mg base CX0 2 fX fdX ["value"] (spB isText)) (T : TxtV mg) :
    FnOk P w K mg base CX0 3 f fd ["value"] (spB isKey) := by
  refine F.ok scIsKey (fun vs H Q E h => ?_) (fun cdv A outer s H vs Q E hr h => ?_)
  · obtain ⟨t, v, rfl, _⟩ := h
    rfl
  · obtain ⟨t, v, rfl, ht, hs, q⟩ := h
    refine ⟨_, pss_one (ps_ret (pe_and (pe_call GX hr rfl gX FX.kp bX .nil pass0 (pa_cons (pv 0) pa_nil)) (pe_one (pe_cmpR op_gt (pe_callB call_len_str (by rfl) T.len PySem.boot_len (pa_cons (pv 0) pa_nil)) pe_int (nomark _))))), ?_⟩
    refine ⟨_, rfl, t, v, rfl, ht, hs, _, rfl, ?_⟩
    cases t with
    | str x =>
      simp only [Th] at ht
      subst ht
      simp only [isText]
      refine ite2 (fun hc => ?_) (fun hc => ?_)
      · refine ⟨_, rfl, x, rfl, Nat.le_of_lt (small1000 hs), _, _, rfl, rfl, ?_⟩
        have e : isKey (.str x) = decide (0 < (x.length : Int)) := by
          simp only [isKey]
          rw [hc, Bool.true_and]
        rw [e] at q
        exact q
      · have e : isKey (.str x) = false := by
          simp only [isKey]
          rw [Bool.eq_false_iff.mpr hc, Bool.false_and]
        rw [e] at q
        exact q
    | non => exact iteF q
    | bl b => exact iteF q
    | int i => exact iteF q
    | oth d => exact iteF q
    | tup ts => exact iteF q
theorem ok_isName {f fY fO : Addr} {fd fdY fdO : FuncData} (F : Fun K "is_name" "is_name" sIsName f fd)
    (FY : Fun K "is_key" "is_key" sIsKey fY fdY) (bY : Binds K fdY ["value"] []) (gY : mg "is_key" = some (.ref fY)) (GY : FnOk P w K mg base CX0 3 fY fdY ["value"] (spB isKey))
    (FO : Fun K "has_only" "has_only" sHasOnly fO fdO) (bO : Binds K fdO ["text", "characters"] []) (gO : mg "has_only" = some (.ref fO)) (T : TxtV mg) :
    FnOk P w K mg base CX0 4 f fd ["value"] (spB isName) := by
  have GO : FnOk P w K mg base CX0 1 fO fdO ["text", "characters"] spHasOnly := ok_hasOnly FO
  obtain ⟨t1, m1⟩ := T.mn
  obtain ⟨t2, m2⟩ := T.lt
  refine F.ok scIsName (fun vs H Q E h => ?_) (fun cdv A outer s H vs Q E hr h => ?_)
  · obtain ⟨t, v, rfl, _⟩ := h
    rfl
  · obtain ⟨t, v, rfl, ht, hs, q⟩ := h
    refine ⟨_, pss_one (ps_ret (pe_and (pe_call GY hr rfl gY FY.kp bY .nil pass0 (pa_cons (pv 0) pa_nil)) (pe_and (pe_cmpR op_le (pe_callB call_len_str (by rfl) T.len PySem.boot_len (pa_cons (pv 0) pa_nil)) (pe_glob (v := .int 12) rfl m1 ⟨_, rfl⟩) (nomark _))
      (pe_one (pe_call GO (hr.mono (by decide)) rfl gO FO.kp bO .nil pass0 (pa_cons (pv 0) (pa_cons (pe_glob (v := .str ltS) rfl m2 ⟨_, rfl⟩) pa_nil))))))), ?_⟩
    refine ⟨_, rfl, t, v, rfl, ht, hs, _, rfl, ?_⟩
    cases t with
    | str x =>
      simp only [Th] at ht
      subst ht
      refine ite2 (fun hc => ?_) (fun hc => ?_)
      · refine ⟨_, rfl, x, rfl, Nat.le_of_lt (small1000 hs), _, _, rfl, rfl, _, rfl, ?_⟩
        have e : isName (.str x) = (decide ((x.length : Int) ≤ 12) && onlyS x ltS) := by
          simp only [isKey] at hc
          simp only [isName]
          rw [hc, Bool.true_and]
        rw [e] at q
        refine ite2 (fun hc2 => ?_) (fun hc2 => ?_)
        · rw [hc2, Bool.true_and] at q
          exact ⟨_, rfl, x, ltS, rfl, hs, q⟩
        · rw [Bool.eq_false_iff.mpr hc2, Bool.false_and] at q
          exact q
      · have e : isName (.str x) = false := by
          simp only [isKey] at hc
          simp only [isName]
          rw [Bool.eq_false_iff.mpr hc, Bool.false_and]
        rw [e] at q
        exact q
    | non => exact iteF q
    | bl b => exact iteF q
    | int i => exact iteF q
    | oth d => exact iteF q
    | tup ts => exact iteF q
end
end My
namespace My
open PySem PySem.Spec PyProof.Rows L2
def rLenK (K : PySem.W.Frag) : List V → Hp → VK → Prop := fun xs H Q => ∃ p ys, xs = [V.ref p] ∧ (SqL K H p ys ∨ SqT K H p ys) ∧ Q (.int ys.length) H
theorem call_lenK {X : Cx} {K : PySem.W.Frag} (h : X.K = K) : CallR X (.builtin "len") (rLenK K) := by
  subst h
  exact call_len_seq
/-! ### is_list -/
mutual
def shortA : T → Prop
  | .str x => x.length ≤ 1000
  | .tup ts => shortAll ts
  | _ => True
def shortAll : List T → Prop
  | [] => True
  | t :: ts => shortA t ∧ shortAll ts
end
theorem shortAll_mem : ∀ {ts : List T}, shortAll ts ↔ ∀ t ∈ ts, shortA t
  | [] => by simp [shortAll]
  | t :: ts => by
    simp only [shortAll, List.mem_cons, forall_eq_or_imp]
    rw [shortAll_mem]
theorem shortA.short {t : T} (h : shortA t) : short t := by
  cases t with
  | str x =>
    simp only [shortA] at h
    exact h
  | _ => exact True.intro
theorem shortA.kids {t : T} (h : shortA t) : ∀ u ∈ kids t, shortA u := by
  cases t with
  | tup ts =>
    simp only [shortA] at h
    exact shortAll_mem.mp h
  | _ => exact fun u hu => nomatch hu
theorem tup_of {t : T} (h : isTupT t = true) : t = .tup (kids t) := by
  cases t <;> first | rfl | (simp [isTupT] at h)
theorem th_tup {H : Hp} {t : T} {v : V} (h : isTupT t = true) (hv : Th H t v) : ∃ a ys, v = .ref a ∧ H a = some (.tup ys) ∧ ys.length < 1000 ∧ ThAll H (kids t) ys := by
  rw [tup_of h] at hv
  simp only [Th] at hv
  exact hv
theorem sum_cast : ∀ ls : List Nat, (ls.map (fun n : Nat => (n : Int))).sum = ((ls.sum : Nat) : Int)
  | [] => rfl
  | a :: ls => by
    rw [List.map_cons, List.sum_cons, List.sum_cons, sum_cast ls]
    omega
theorem flat_take (ls : List T) (i : Nat) (h : i < ls.length) : ((ls.take (i + 1)).map kids).flatten = ((ls.take i).map kids).flatten ++ kids ls[i] := by
  rw [List.take_add_one, List.getElem?_eq_getElem h, List.map_append, List.flatten_append]
  simp
theorem flat_len : ∀ ls : List T, ((ls.map kids).flatten).length = (ls.map fun l => (kids l).length).sum
  | [] => rfl
  | l :: ls => by
    rw [List.map_cons, List.flatten_cons, List.length_append, flat_len ls, List.map_cons, List.sum_cons]
theorem flat_le (ls : List T) (i : Nat) : (((ls.take i).map kids).flatten).length ≤ (ls.map fun l => (kids l).length).sum := by
  rw [flat_len, List.map_take]
  generalize ls.map (fun l => (kids l).length) = ns
  induction ns generalizing i with
  | nil => simp
  | cons n ns ih =>
    cases i with
    | zero => simp
    | succ i =>
      have := ih i
      simp only [List.take_succ_cons, List.sum_cons]
      omega
theorem flat_reading {K : PySem.W.Frag} {H0 : Hp} {A : Addr} {xs : List V} {ls : List T} {Q : VK} {s0 s2 s3 s4 s5 s6 s7 : Option V} (hA : H0 A = some (.lst xs)) (hth : ThAll H0 ls xs) (htup : ∀ l ∈ ls, isTupT l = true)
    (hsum : (ls.map fun l => (kids l).length).sum ≤ 50)
    (q : ∀ (D : Addr) (H' : Hp) (acc : List V), H0 D = none → Same H0 H' → H' D = some (.lst acc) → ThAll H0 (ls.map kids).flatten acc → Q (.ref D) H') :
    tLc2 (iList K (tVar 1)) (gName 6) tYes (iTup K (tVar 6)) (gName 7) tYes (tVar 7) [6, 7] [7] [s0, some (.ref A), s2, s3, s4, s5, s6, s7] H0 Q := by
  have hlen := thAll_len hth
  refine ⟨_, rfl, A, rfl, ⟨xs, .inl (.inl hA)⟩, fun D nD => ?_⟩
  refine ⟨fun i m H' => m = ls.length - i ∧ i ≤ ls.length ∧ ∃ acc : List V, H' D = some (.lst acc) ∧ ThAll H0 ((ls.take i).map kids).flatten acc ∧ Same H0 H', ⟨ls.length, rfl, Nat.zero_le _, [], upd_same, by simp [ThAll], same_upd nD⟩, ?_⟩
  rintro i m H' ⟨rfl, hi, acc, hD, hacc, sm⟩
  by_cases hlt : i < ls.length
  · have hltx : i < xs.length := by omega
    obtain ⟨t, x, e1, e2, hx⟩ := thAll_get hth hlt
    have et : t = ls[i] := by
      rw [List.getElem?_eq_getElem hlt] at e1
      exact (Option.some.inj e1).symm
    subst et
    refine .inr ⟨⟨xs, x, .inl (.inl (sm _ _ hA)), e2⟩, fun H'' => ∃ acc : List V, H'' D = some (.lst acc) ∧ ThAll H0 ((ls.take (i + 1)).map kids).flatten acc ∧ Same H0 H'', fun H'' ⟨acc2, h1, h2, h3⟩ => ⟨ls.length - (i + 1), by omega, rfl, hlt, acc2, h1, h2, h3⟩, fun y H'' hy => ?_⟩
    obtain ⟨rfl, hy⟩ := hy
    have ey : y = x := Option.some.inj ((hy xs (.inl (.inl (sm _ _ hA)))).symm.trans e2)
    subst ey
    obtain ⟨b, ys, rfl, hb, hyl, hys⟩ := th_tup (htup _ (List.getElem_mem hlt)) hx
    have hyk := thAll_len hys
    refine ⟨rfl, tYes_if ?_⟩
    refine ⟨_, rfl, b, rfl, ⟨ys, .inl (.inl (sm _ _ hb))⟩, ?_⟩
    refine ⟨fun j k H'' => k = ys.length - j ∧ j ≤ ys.length ∧ ∃ acc : List V, H'' D = some (.lst acc) ∧ ThAll H0 (((ls.take i).map kids).flatten ++ (kids ls[i]).take j) acc ∧ Same H0 H'', ⟨ys.length, rfl, Nat.zero_le _, acc, hD, by simpa using hacc, sm⟩, ?_⟩
    rintro j k H2 ⟨rfl, hj, acc2, hD2, hacc2, sm2⟩
    by_cases hjl : j < ys.length
    · obtain ⟨u, z, f1, f2, hz⟩ := thAll_get hys (show j < (kids ls[i]).length by omega)
      refine .inr ⟨⟨ys, z, .inl (.inl (sm2 _ _ hb)), f2⟩, fun H3 => ∃ acc : List V, H3 D = some (.lst acc) ∧ ThAll H0 (((ls.take i).map kids).flatten ++ (kids ls[i]).take (j + 1)) acc ∧ Same H0 H3, fun H3 ⟨acc3, h1, h2, h3⟩ => ⟨ys.length - (j + 1), by omega, rfl, hjl, acc3, h1, h2, h3⟩, fun y H3 hy => ?_⟩
      obtain ⟨rfl, hy⟩ := hy
      have ey : y = z := Option.some.inj ((hy ys (.inl (.inl (sm2 _ _ hb)))).symm.trans f2)
      subst ey
      refine ⟨rfl, tYes_if ?_⟩
      have hlen2 := thAll_len hacc2
      have hle : (((ls.take (i + 1)).map kids).flatten).length ≤ 50 := Nat.le_trans (flat_le ls (i + 1)) hsum
      rw [flat_take ls i hlt, List.length_append] at hle
      rw [List.length_append, List.length_take] at hlen2
      refine ⟨_, rfl, acc2, hD2, small1000 (by omega), acc2 ++ [y], upd_same, ?_, fun c o ec => ?_⟩
      · rw [List.take_add_one, f1, ← List.append_assoc]
        exact thAll_snoc hz hacc2
      · rw [upd_ne (ne_of_none ec nD)]
        exact sm2 _ _ ec
    · have ej : j = ys.length := by omega
      subst ej
      refine .inl ⟨⟨ys, .inl (.inl (sm2 _ _ hb)), Nat.le_refl _⟩, acc2, hD2, ?_, sm2⟩
      rw [flat_take ls i hlt]
      rw [show (kids ls[i]).take ys.length = kids ls[i] from List.take_of_length_le (by omega)] at hacc2
      exact hacc2
  · have ei : i = ls.length := by omega
    subst ei
    rw [List.take_length] at hacc
    exact .inl ⟨⟨xs, .inl (.inl (sm _ _ hA)), by omega⟩, q D H' acc nD sm hD hacc⟩
theorem filter_take (p : T → Bool) (ls : List T) (i : Nat) (h : i < ls.length) : (ls.take (i + 1)).filter p = (ls.take i).filter p ++ (if p ls[i] = true then [ls[i]] else []) := by
  rw [List.take_add_one, List.getElem?_eq_getElem h, List.filter_append]
  congr 1
  simp only [Option.toList_some, List.filter_cons, List.filter_nil]
theorem scIsList : FnScope ["value", "lists", "count", "level", "items", "plain", "inner", "item"] ["value"] (defScope sIsList) := ⟨rfl, rfl, rfl, by decide +kernel, rfl, by decide +kernel, by decide +kernel⟩
structure TxtI (mg : Str → Option Value) : Prop where
  sum : mg "sum" = none
  range : mg "range" = none
  all : mg "all" = none
  len : mg "len" = none
  dl : ∃ t, mg "DEEPEST_LIST" = some (.int 5 t)
  mv : ∃ t, mg "MOST_VALUES" = some (.int 50 t)
def spIsList : Sp := fun vs H Q _ => ∃ (t : T) (v : V), vs = [v] ∧ isTupT t = true ∧ Th H t v ∧ shortA t ∧ ∀ H', Same H H' → Q (.bl (lev 5 [t] 0)) H'
section
variable {P : Program} {w : World} {K : PySem.W.Frag} {mg : Str → Option Value} {base : Heap}
theorem ok_isList {f fK fX : Addr} {fd fdK fdX : FuncData} (F : Fun K "is_list" "is_list" sIsList f fd) (FK : Fun K "kind_of" "kind_of" sKind fK fdK) (bK : Binds K fdK ["value"] []) (gK : mg "kind_of" = some (.ref fK)) (TK : TxtK mg)
    (FX : Fun K "is_plain_value" "is_plain_value" sIsPlain fX fdX) (bX : Binds K fdX ["value"] []) (gX : mg "is_plain_value" = some (.ref fX)) (GX : FnOk P w K mg base CX0 3 fX fdX ["value"] (spB isPlain)) (TI : TxtI mg) :
    FnOk P w K mg base CX0 4 f fd ["value"] spIsList := by
  have GK : FnOk P w K mg base CX0 1 fK fdK ["value"] spKind := ok_kind FK TK
  obtain ⟨t1, m1⟩ := TI.dl
  obtain ⟨t2, m2⟩ := TI.mv
  refine F.ok scIsList (fun vs H Q E h => ?_) (fun cdv A outer s H vs Q E hr h => ?_)
  · obtain ⟨t, v, rfl, _⟩ := h
    rfl
  · obtain ⟨t0, v, rfl, htp, hv, hs, q⟩ := h
    have hr1 : Room 1 _ := hr.mono (by decide)
    have ND := scIsList.nd
    refine ⟨_, pss_cons (ps_set (i := 1) ND rfl (.inl rfl) (pe_lst (pa_cons (pv 0) pa_nil)))
      (pss_cons (ps_set (i := 2) ND rfl (.inl rfl) pe_int)
      (pss_cons (ps_for PassesOwn.never rfl (pi_range1 rfl TI.range (pa_cons (pe_glob (v := .int 5) rfl m1 ⟨_, rfl⟩) pa_nil)) (pg_name (i := 3) ND rfl (.inl rfl))
        (pss_cons (ps_aug (i := 2) ND rfl (.inl rfl) (pe_callB (cr_sum rfl) (by rfl) TI.sum (by decide +kernel) (pa_cons
            (pe_lc (own := [("inner", 6)]) (g := gName 6) (tt := tYes) rfl ND (pi_list (pv 1)) (blkOk_by (own := [("inner", 6)]) (N := ["value", "lists", "count", "level", "items", "plain", "inner", "item"]) (sc := defScope sIsList) (by decide +kernel))
              (fun _ _ _ _ _ => pg_name (i := 6) ND rfl (Or.inl rfl)) (fun _ _ _ _ _ => pts_nil) (fun _ _ _ _ _ => pe_callB (call_lenK (K := K) rfl) (by rfl) TI.len PySem.boot_len (pa_cons (pv 6) pa_nil))) pa_nil)) ip_add)
        (pss_cons (ps_if (pt_cmpR op_gt (pv 2) (pe_glob (v := .int 50) rfl m2 ⟨_, rfl⟩) (nomark _)) (pss_one (ps_ret pe_bl)) pss_nil)
        (pss_cons (ps_setLc2 (i := 4) (own := [("inner", 6), ("item", 7)]) (vs1 := [7]) (g := gName 6) (g1 := gName 7) (tt := tYes) (tt1 := tYes) (wi1 := iTup K (tVar 6)) rfl ND rfl rfl (sw_true rfl rfl rfl (by decide +kernel)) (pi_list (pv 1))
            (blkOk_by (own := [("inner", 6), ("item", 7)]) (N := ["value", "lists", "count", "level", "items", "plain", "inner", "item"]) (sc := defScope sIsList) (by decide +kernel)) (by decide)
            (fun _ _ _ _ _ => pg_name (i := 6) ND rfl (Or.inl rfl)) (fun _ _ _ _ _ => pts_nil) (fun _ _ _ _ _ => pi_tup (pv 6)) (fun _ _ _ _ _ => pg_name (i := 7) ND rfl (Or.inl rfl)) (fun _ _ _ _ _ => pts_nil) (fun _ _ _ _ _ => pv 7))
        (pss_cons (ps_setLc (i := 1) (own := [("item", 7)]) (g := gName 7) rfl ND rfl rfl (sw_true rfl rfl rfl (by decide +kernel)) (pi_list (pv 4))
            (blkOk_by (own := [("item", 7)]) (N := ["value", "lists", "count", "level", "items", "plain", "inner", "item"]) (sc := defScope sIsList) (by decide +kernel))
            (fun _ _ _ _ _ => pg_name (i := 7) ND rfl (Or.inl rfl)) (fun _ _ _ _ _ => pts_one (pt_cmpR op_eq (pe_call GK hr1 rfl gK FK.kp bK .nil pass0 (pa_cons (pv 7) pa_nil)) pe_str (nomark _))) (fun _ _ _ _ _ => pv 7))
        (pss_cons (ps_setLc (i := 5) (own := [("item", 7)]) (g := gName 7) rfl ND rfl rfl (sw_true rfl rfl rfl (by decide +kernel)) (pi_list (pv 4))
            (blkOk_by (own := [("item", 7)]) (N := ["value", "lists", "count", "level", "items", "plain", "inner", "item"]) (sc := defScope sIsList) (by decide +kernel))
            (fun _ _ _ _ _ => pg_name (i := 7) ND rfl (Or.inl rfl)) (fun _ _ _ _ _ => pts_one (pt_cmpR op_ne (pe_call GK hr1 rfl gK FK.kp bK .nil pass0 (pa_cons (pv 7) pa_nil)) pe_str (nomark _))) (fun _ _ _ _ _ => pv 7))
        (pss_one (ps_if (pt_not (pt_val (pe_callB (cr_all rfl) (by rfl) TI.all (by decide +kernel) (pa_cons
            (pe_lc (own := [("item", 7)]) (g := gName 7) (tt := tYes) rfl ND (pi_list (pv 5)) (blkOk_by (own := [("item", 7)]) (N := ["value", "lists", "count", "level", "items", "plain", "inner", "item"]) (sc := defScope sIsList) (by decide +kernel))
              (fun _ _ _ _ _ => pg_name (i := 7) ND rfl (Or.inl rfl)) (fun _ _ _ _ _ => pts_nil) (fun _ _ _ _ _ => pe_call GX hr rfl gX FX.kp bX .nil pass0 (pa_cons (pv 7) pa_nil))) pa_nil)))) (pss_one (ps_ret pe_bl)) pss_nil))))))))
      (pss_one (ps_ret (pe_cmpR op_eq (pe_callB call_len_seq (by rfl) TI.len PySem.boot_len (pa_cons (pv 1) pa_nil)) pe_int (nomark _)))))), ?_⟩
    refine ⟨_, rfl, by show 1 ≤ sizeLine; decide, fun A0 nA0 => ?_⟩
    refine ⟨5, rfl, by decide, by decide, ?_⟩
    refine for_range (lo := 0) (n := 5) (fun i σ H' => ∃ (A : Addr) (xs : List V) (ls : List T) (c : Nat) (z3 z4 z5 : Option V), σ = [some v, some (.ref A), some (.int (c : Int)), z3, z4, z5, none, none] ∧ Same H H' ∧ H' A = some (.lst xs) ∧ ThAll H' ls xs ∧
        (∀ l ∈ ls, isTupT l = true) ∧ (∀ l ∈ ls, shortA l) ∧ ls.length ≤ 50 ∧ lev (5 - i) ls c = lev 5 [t0] 0)
      ⟨A0, [v], [t0], 0, none, none, none, rfl, same_upd nA0, upd_same, ?_, ?_, ?_, by simp, rfl⟩ (fun i σ H' hi hPv => ?_) (fun σ H' hPv => ?_)
    · simp only [ThAll]
      exact ⟨v, [], rfl, Th.same (same_upd nA0) _ _ hv, rfl⟩
    · intro l hl
      rw [List.mem_singleton.mp hl]
      exact htp
    · intro l hl
      rw [List.mem_singleton.mp hl]
      exact hs
    · obtain ⟨A, xs, ls, c, z3, z4, z5, rfl, sm, hA, hth, htup, hsh, hl50, hlev⟩ := hPv
      have hlen := thAll_len hth
      obtain ⟨n, hn⟩ : ∃ n, 5 - i = n + 1 := ⟨4 - i, by omega⟩
      rw [hn] at hlev
      -- count += sum([len(inner) for inner in lists])
      refine ⟨_, rfl, _, rfl, A, rfl, ⟨xs, .inl (.inl hA)⟩, fun D nD => ?_⟩
      refine lc_list (K := K) (a := A) (xs := xs) (fun j G => G D = some (.lst (((ls.take j).map fun l => ((kids l).length : Int)).map V.int)) ∧ Same H' G) ⟨upd_same, same_upd nD⟩ (fun j G _ ⟨_, s2⟩ => .inl (.inl (s2 _ _ hA))) (fun j x G hx ⟨hD, s2⟩ => ?_) (fun G ⟨hD, s2⟩ => ?_)
      · have hj : j < ls.length := by
          have := (List.getElem?_eq_some_iff.mp hx).1
          omega
        obtain ⟨t, x', e1, e2, hx'⟩ := thAll_get hth hj
        have ex : x' = x := Option.some.inj (e2.symm.trans hx)
        subst ex
        obtain ⟨b, ys, rfl, hb, hyl, hys⟩ := th_tup (htup t (List.mem_of_getElem? e1)) hx'
        have hyk := thAll_len hys
        refine ⟨rfl, tYes_if ?_⟩
        refine ⟨_, rfl, b, ys, rfl, .inr (.inl (.inl (s2 _ _ hb))), _, hD, small1000 ?_, ?_, fun o u eo => ?_⟩
        · rw [List.length_map, List.length_map, List.length_take]
          omega
        · rw [upd_same, List.take_add_one, e1, ← hyk]
          simp
        · rw [upd_ne (ne_of_none eo nD)]
          exact s2 _ _ eo
      · have hD' : G D = some (.lst ((ls.map fun l => ((kids l).length : Int)).map V.int)) := by
          rw [hD, List.take_of_length_le (by omega)]
        have esum : (c : Int) + (ls.map fun l => ((kids l).length : Int)).sum = ((c + (ls.map fun l => (kids l).length).sum : Nat) : Int) := by
          have := sum_cast (ls.map fun l => (kids l).length)
          rw [List.map_map] at this
          have e2 : (ls.map fun l => ((kids l).length : Int)) = ls.map ((fun n : Nat => (n : Int)) ∘ fun l => (kids l).length) := rfl
          rw [e2, this]
          omega
        refine ⟨D, ls.map fun l => ((kids l).length : Int), rfl, .inl (.inl hD'), _, _, rfl, rfl, ?_⟩
        -- if count > MOST_VALUES: return False
        refine ⟨_, rfl, _, _, rfl, rfl, _, rfl, ?_⟩
        simp only [esum]
        refine ite2 (fun hc => ?_) (fun hc => ?_)
        · have hc' := of_decide_eq_true hc
          have e : lev 5 [t0] 0 = false := by
            rw [← hlev]
            simp only [lev]
            rw [if_pos (by omega)]
          have q1 := q G (sm.trans s2)
          rw [e] at q1
          exact q1
        have hc' : ¬ 50 < c + (ls.map fun l => (kids l).length).sum := fun z => hc (decide_eq_true (by omega))
        -- items
        dsimp only [tNext, tSeq, tAsg]
        refine flat_reading (K := K) (H0 := G) (A := A) (xs := xs) (ls := ls) (s2 _ _ hA) (ThAll.same s2 _ _ hth) htup (by omega) fun D2 G2 items nD2 s3 hD2 hit => ?_
        have hilen := thAll_len hit
        rw [flat_len] at hilen
        have hit2 : ThAll G2 (ls.map kids).flatten items := ThAll.same s3 _ _ hit
        have hish : ∀ u ∈ (ls.map kids).flatten, shortA u := fun u hu => by
          obtain ⟨l0, h1, h2⟩ := List.mem_flatten.mp hu
          obtain ⟨l1, h3, rfl⟩ := List.mem_map.mp h1
          exact (hsh l1 h3).kids u h2
        generalize hI : (ls.map kids).flatten = I at hit2 hish
        have hIl : I.length = items.length := thAll_len hit2
        -- lists = [item for item in items if kind_of(item) == "list"]
        refine ⟨_, rfl, D2, rfl, ⟨items, .inl (.inl hD2)⟩, fun D3 nD3 => ?_⟩
        refine lc_list (K := K) (a := D2) (xs := items) (fun j G' => ∃ acc : List V, G' D3 = some (.lst acc) ∧ ThAll G2 ((I.take j).filter isTupT) acc ∧ Same G2 G') ⟨[], upd_same, by simp [ThAll], same_upd nD3⟩ (fun j G' _ ⟨_, _, _, s4⟩ => .inl (.inl (s4 _ _ hD2))) (fun j x G' hx ⟨acc, hD3, hacc, s4⟩ => ?_) (fun G' ⟨acc, hD3, hacc, s4⟩ => ?_)
        · have hj : j < I.length := by
            have := (List.getElem?_eq_some_iff.mp hx).1
            omega
          obtain ⟨t, x', e1, e2, hx'⟩ := thAll_get hit2 hj
          have ex : x' = x := Option.some.inj (e2.symm.trans hx)
          subst ex
          have et : t = I[j] := by
            rw [List.getElem?_eq_getElem hj] at e1
            exact (Option.some.inj e1).symm
          have hal : acc.length ≤ 1000 := by
            have h1 := thAll_len hacc
            have h2 := List.length_filter_le isTupT (I.take j)
            rw [List.length_take] at h2
            omega
          refine ⟨rfl, ⟨_, rfl, t, x', rfl, Th.same s4 _ _ hx', rfl, _, rfl, ?_⟩⟩
          rw [kindS_list]
          cases hb : isTupT t with
          | true =>
            refine iteT ⟨_, rfl, acc, hD3, ?_, acc ++ [x'], upd_same, ?_, fun o u eo => ?_⟩
            · have h1 := thAll_len hacc
              have h2 := List.length_filter_le isTupT (I.take j)
              rw [List.length_take] at h2
              exact small1000 (by omega)
            · rw [filter_take isTupT I j hj, ← et, hb, if_pos rfl]
              exact thAll_snoc hx' hacc
            · rw [upd_ne (ne_of_none eo nD3)]
              exact s4 _ _ eo
          | false =>
            refine iteF ⟨acc, hD3, ?_, s4⟩
            rw [filter_take isTupT I j hj, ← et, hb, if_neg Bool.false_ne_true, List.append_nil]
            exact hacc
        have hI2 : I.take items.length = I := List.take_of_length_le (by omega)
        rw [hI2] at hacc
        -- plain = [item for item in items if kind_of(item) != "list"]
        refine ⟨_, rfl, D2, rfl, ⟨items, .inl (.inl (s4 _ _ hD2))⟩, fun D4 nD4 => ?_⟩
        refine lc_list (K := K) (a := D2) (xs := items) (fun j G3 => ∃ acc4 : List V, G3 D4 = some (.lst acc4) ∧ ThAll G2 ((I.take j).filter fun t => !isTupT t) acc4 ∧ Same G' G3) ⟨[], upd_same, by simp [ThAll], same_upd nD4⟩ (fun j G3 _ ⟨_, _, _, s5⟩ => .inl (.inl (s5 _ _ (s4 _ _ hD2)))) (fun j x G3 hx ⟨acc4, hD4, hacc4, s5⟩ => ?_) (fun G3 ⟨acc4, hD4, hacc4, s5⟩ => ?_)
        · have hj : j < I.length := by
            have := (List.getElem?_eq_some_iff.mp hx).1
            omega
          obtain ⟨t, x', e1, e2, hx'⟩ := thAll_get hit2 hj
          have ex : x' = x := Option.some.inj (e2.symm.trans hx)
          subst ex
          have et : t = I[j] := by
            rw [List.getElem?_eq_getElem hj] at e1
            exact (Option.some.inj e1).symm
          refine ⟨rfl, ⟨_, rfl, t, x', rfl, Th.same (s4.trans s5) _ _ hx', rfl, _, rfl, ?_⟩⟩
          rw [kindS_list]
          cases hb : isTupT t with
          | false =>
            refine iteT ⟨_, rfl, acc4, hD4, ?_, acc4 ++ [x'], upd_same, ?_, fun o u eo => ?_⟩
            · have h1 := thAll_len hacc4
              have h2 := List.length_filter_le (fun t => !isTupT t) (I.take j)
              rw [List.length_take] at h2
              exact small1000 (by omega)
            · rw [filter_take (fun t => !isTupT t) I j hj, ← et, hb]
              exact thAll_snoc hx' hacc4
            · rw [upd_ne (ne_of_none eo nD4)]
              exact s5 _ _ eo
          | true =>
            refine iteF ⟨acc4, hD4, ?_, s5⟩
            rw [filter_take (fun t => !isTupT t) I j hj, ← et, hb]
            simpa using hacc4
        rw [hI2] at hacc4
        have hp4 : ThAll G3 (I.filter fun t => !isTupT t) acc4 := ThAll.same (s4.trans s5) _ _ hacc4
        have hpl := thAll_len hp4
        -- all([is_plain_value(item) for item in plain])
        refine ⟨_, rfl, D4, rfl, ⟨acc4, .inl (.inl hD4)⟩, fun D5 nD5 => ?_⟩
        refine lc_list (K := K) (a := D4) (xs := acc4) (fun j G4 => G4 D5 = some (.lst ((((I.filter fun t => !isTupT t).take j).map isPlain).map V.bl)) ∧ Same G3 G4) ⟨upd_same, same_upd nD5⟩ (fun j G4 _ ⟨_, s6⟩ => .inl (.inl (s6 _ _ hD4))) (fun j x G4 hx ⟨hD5, s6⟩ => ?_) (fun G4 ⟨hD5, s6⟩ => ?_)
        · have hj : j < (I.filter fun t => !isTupT t).length := by
            have := (List.getElem?_eq_some_iff.mp hx).1
            omega
          obtain ⟨t, x', e1, e2, hx'⟩ := thAll_get hp4 hj
          have ex : x' = x := Option.some.inj (e2.symm.trans hx)
          subst ex
          have hmem : t ∈ I := (List.mem_filter.mp (List.mem_of_getElem? e1)).1
          refine ⟨rfl, tYes_if ?_⟩
          refine ⟨_, rfl, t, x', rfl, Th.same s6 _ _ hx', (hish t hmem).short, _, hD5, small1000 ?_, ?_, fun o u eo => ?_⟩
          · have h2 := List.length_filter_le (fun t => !isTupT t) I
            rw [List.length_map, List.length_map, List.length_take]
            omega
          · rw [upd_same, List.take_add_one, e1]
            simp
          · rw [upd_ne (ne_of_none eo nD5)]
            exact s6 _ _ eo
        refine ⟨D5, ((I.filter fun t => !isTupT t).map isPlain), rfl, .inl (.inl ?_), _, rfl, ?_⟩
        · rw [hD5, List.take_of_length_le (by omega)]
        have eall : ((I.filter fun t => !isTupT t).map isPlain).all id = (I.filter fun t => !isTupT t).all isPlain := by
          rw [List.all_map]
          rfl
        rw [eall]
        have elev : lev 5 [t0] 0 = if (I.filter fun t => !isTupT t).all isPlain = true then lev n (I.filter isTupT) (c + (ls.map fun l => (kids l).length).sum) else false := by
          rw [← hlev]
          simp only [lev]
          rw [if_neg hc', hI]
        cases hall : (I.filter fun t => !isTupT t).all isPlain with
        | false =>
          rw [hall, if_neg Bool.false_ne_true] at elev
          have q1 := q G4 ((((sm.trans s2).trans s3).trans (s4.trans s5)).trans s6)
          rw [elev] at q1
          exact iteT q1
        | true =>
          rw [hall, if_pos rfl] at elev
          refine iteF ⟨D3, acc, I.filter isTupT, c + (ls.map fun l => (kids l).length).sum, _, _, _, rfl, (((sm.trans s2).trans s3).trans (s4.trans s5)).trans s6, s6 _ _ (s5 _ _ hD3), ThAll.same ((s4.trans s5).trans s6) _ _ hacc, ?_, ?_, ?_, ?_⟩
          · intro l hl
            exact (List.mem_filter.mp hl).2
          · intro l hl
            exact hish l (List.mem_filter.mp hl).1
          · have h2 := List.length_filter_le isTupT I
            omega
          · rw [show 5 - (i + 1) = n by omega]
            exact elev.symm
    · obtain ⟨A, xs, ls, c, z3, z4, z5, rfl, sm, hA, hth, _, _, _, hlev⟩ := hPv
      have hlen := thAll_len hth
      refine ⟨_, rfl, A, xs, rfl, .inl (.inl (.inl hA)), rfl, ?_⟩
      have e : lev 5 [t0] 0 = decide (V.int ((xs.length : Nat) : Int) = V.int 0) := by
        rw [← hlev]
        simp only [Nat.sub_self, lev]
        cases ls with
        | nil =>
          rw [List.length_nil] at hlen
          rw [← hlen]
          rfl
        | cons l ls =>
          rw [List.length_cons] at hlen
          have : ¬ V.int ((xs.length : Nat) : Int) = V.int 0 := fun z => by
            have := V.int.inj z
            omega
          rw [decide_eq_false this]
          rfl
      have q1 := q H' sm
      rw [e] at q1
      exact q1
end
end My
/-! dicts whose keys are carried by value: ints, bools, texts, None -/
namespace LD
open PySem PySem.Spec PyProof.Rows L2
/-- a key as a value -/
def leafV : Leaf → V → Prop
  | .none, .non => True
  | .num i, .int j => j = i
  | .num i, .bl b => (if b = true then 1 else 0) = i
  | .text x, .str y => y = x
  | _, _ => False
theorem leaf_is {k : Leaf} {x : V} {u : Value} (h : leafV k x) (r : RelV x u) : Leaf.isOf k u = true := by
  cases k with
  | none =>
    cases x with
    | non =>
      cases r
      rfl
    | _ => exact h.elim
  | num i =>
    cases x with
    | int j =>
      obtain ⟨t, rfl⟩ := r
      exact decide_eq_true h
    | bl b =>
      cases r
      exact decide_eq_true h
    | _ => exact h.elim
  | text z =>
    cases x with
    | str y =>
      obtain ⟨t, rfl⟩ := r
      have h' : y = z := h
      subst h'
      simp [Leaf.isOf, Value.isStrOf]
    | _ => exact h.elim
/-- a dict with such keys at a -/
def dlO (P : Program) (w : World) (a : Addr) (kvs : List (Leaf × V)) : HO := .ext fun h => (a == sysModules) = false ∧ ∃ vs, KV kvs vs ∧ h.DictOf (leafKind P w) a vs
theorem dl_ok {P : Program} {w : World} {H : Hp} {h : Heap} {a : Addr} {kvs : List (Leaf × V)} {vs : List (Leaf × Value)} (hd : (a == sysModules) = false) (rel : KV kvs vs) (dd : h.DictOf (leafKind P w) a vs) : ObjOk P w H h a (dlO P w a kvs) := by
  refine ⟨⟨hd, vs, rel, dd⟩, ?_, fun h1 h2 x k => ?_⟩
  · obtain ⟨o, _, _, e, _⟩ := dd
    exact ⟨o, e⟩
  · obtain ⟨hd, vs, rel, dd⟩ := x
    exact ⟨hd, vs, rel, dd.at k⟩
theorem dl_of {P : Program} {w : World} {H : Hp} {h : Heap} {a : Addr} {kvs : List (Leaf × V)} (ok : HOk P w H h) (e : H a = some (dlO P w a kvs)) : (a == sysModules) = false ∧ ∃ vs, KV kvs vs ∧ h.DictOf (leafKind P w) a vs := by
  obtain ⟨x, _, _⟩ := (show ObjOk P w H h a (dlO P w a kvs) from ok a _ e)
  exact x
def mergeL (kvs more : List (Leaf × V)) : List (Leaf × V) := more.foldl (fun acc kv => putK acc kv.1 kv.2) kvs
theorem KV_mergeL : ∀ {more : List (Leaf × V)} {rs : List (Leaf × Value)} {kvs : List (Leaf × V)} {vs : List (Leaf × Value)}, KV more rs → KV kvs vs → KV (mergeL kvs more) (merged vs rs) := by
  intro more rs kvs vs r
  unfold KV at r
  induction r generalizing kvs vs with
  | nil => intro q; exact q
  | @cons p q ps qs h t ih =>
    intro r0
    have e : KV (putK kvs p.1 p.2) (stored vs q.1 q.2) := by
      have := r0.put p.1 h.2
      rw [← h.1]; exact this
    exact ih e
abbrev LKeys : List (V × V) → List (Leaf × V) → Prop := Paired fun p q => leafV q.1 p.1 ∧ p.2 = q.2
theorem carriesL {P : Program} {w : World} : ∀ {ps : List (V × V)} {kvs : List (Leaf × V)} {ws : List (Value × Value)}, LKeys ps kvs → VV ps ws → ∃ rs, Carries (leafKind P w) ws rs ∧ KV kvs rs
  | _, _, _, .nil, .nil => ⟨[], True.intro, .nil⟩
  | _, _, _, .cons (b := q) k tk, .cons (b := b) h t => by
    obtain ⟨rs, c, r⟩ := carriesL (P := P) (w := w) tk t
    obtain ⟨b1, b2⟩ := b
    obtain ⟨k1, k2⟩ := k
    exact ⟨(q.1, b2) :: rs, ⟨leaf_is k1 h.1, rfl, c⟩, .cons ⟨rfl, by rw [← k2]; exact h.2⟩ r⟩
section
variable {X : Cx}
/-- {k: v, ..}: the new dict stands empty while the pairs are made -/
def tDispL (P : Program) (w : World) (trs : List (TE × TE)) : TE := fun σ H Q => ∀ p, H p = none → tPairs trs σ (upd H p (dlO P w p [])) fun ps H2 => H2 p = some (dlO P w p []) ∧ ∃ kvs : List (Leaf × V), LKeys ps kvs ∧ Q (.ref p) (upd H2 p (dlO P w p (mergeL [] kvs)))
theorem pe_dispL {pos : Pos} {keys : List (Option Expr)} {values : List Expr} {trs : List (TE × TE)} (h : PPs X pos keys values trs) (hall : keys.all (·.isSome) = true) (hl : keys.length = values.length) (h0 : keys ≠ [])
    (h15 : keys.length ≤ 15) : PE X (.Dict keys values pos) (tDispL X.prog X.w trs) := by
  refine ⟨fun pins s σ H Q I q => ?_⟩
  have hn := I.hok.fresh (Nat.le_refl s.heap.objs.size)
  have hs0 : (s.heap.objs.size == sysModules) = false := beq_eq_false_iff_ne.mpr (Ne.symm (Nat.ne_of_lt I.big))
  have I1 := I.laid (a := s.heap.objs.size) (o := dlO X.prog X.w s.heap.objs.size []) (h' := s.heap.push { cls := .type "dict", data := .dict #[] }) (t' := s.toks) (fun _ _ q => Heap.get?_push_of_some _ q) (Nat.le_refl _) (dl_ok hs0 .nil (Heap.DictOf.new s.heap))
  refine wpAny_Dict_walk (knd := leafKind X.prog X.w) hall hl h0 h15 (thn (h.run pins _ σ _ _ I1 (q _ hn)) fun ws s2 ⟨ps, H2, I2, rel, e, kvs, lk, q2⟩ => ?_)
  obtain ⟨rs, c, rk⟩ := carriesL (P := X.prog) (w := X.w) lk rel
  obtain ⟨hd, vs0, r0, dd⟩ := dl_of I2.hok e
  cases r0
  refine ⟨rs, c, dd, fun h' dd' hs => ⟨.ref s.heap.objs.size, _, ?_, rfl, q2⟩⟩
  have he : ∃ q, h'.get? s.heap.objs.size = some q := let ⟨q, _, _, hq, _⟩ := dd'; ⟨q, hq⟩
  exact d_write I2 (by rw [e]; exact True.intro) hs he (dl_ok hd (KV_mergeL rk .nil) dd')
/-- d.get(k, x) -/
def tGetL (P : Program) (w : World) (td ty tx : TE) : TE := fun σ H Q => td σ H fun x H1 => ∃ a kvs, x = .ref a ∧ H1 a = some (dlO P w a kvs) ∧ ty σ H1 fun y H2 => tx σ H2 fun z H3 => H3 a = some (dlO P w a kvs) ∧ ∃ k, leafV k y ∧ Q ((valV kvs k).getD z) H3
theorem pe_getL {o e f : Expr} {apos cpos : Pos} {td ty tx : TE} (ho : PE X o td) (he : PE X e ty) (hf : PE X f tx) (m : M2 X o "get" apos e f cpos) : PE X (.Call (.Attribute o "get" apos) [e, f] [] cpos) (tGetL X.prog X.w td ty tx) := by
  refine ⟨fun pins s σ H Q I h => ?_⟩
  refine wpAny_Call_method m.base m.few m.line PySem.F.plainAttrs_dict PySem.F.slot_dict_get PySem.F.type_dict_get (thn (ho.run pins s σ H _ I h) fun u s1 ⟨x, H1, I1, rx, a, kvs, ex, d, q1⟩ => ?_)
  subst ex
  obtain rfl : u = Value.ref a := rx
  obtain ⟨hd, vs, rel, dd⟩ := dl_of I1.hok d
  refine ⟨dd.typeIs, fun b q => ?_, ?_⟩
  · cases q
    obtain ⟨ob, _, _, h1, h2, _⟩ := dd
    exact ⟨ob, h1, h2.2.1⟩
  rw [m.trees]
  refine Calls.callWith_builtin rfl (Calls.evalArgs_plain (Calls.spliced_cons (thn (he.run pins s1 σ H1 _ I1 q1) fun iv s2 ⟨y, H2, I2, ry, q2⟩ =>
    Calls.spliced_cons (thn (hf.run pins s2 σ H2 _ I2 q2) fun fv s3 ⟨z, H3, I3, rz, e3, k, hk, q3⟩ => Calls.spliced_nil ?_))))
  obtain ⟨hd3, vs3, rel3, dd3⟩ := dl_of I3.hok e3
  refine call_meetsIn PySem.F.slot_dict_get dd3.typeIs PySem.F.entry_dict_get (PySem.F.args_dict_get_3 _ _ _) (meets_dict_get_default (leafKind X.prog X.w) a (leaf_is hk ry) hd3 fv) ⟨_, dd3.mapOf, ⟨(valV kvs k).getD z, H3, I3.tok _, ?_, q3⟩⟩
  exact (rel3.val k).getD rz
end
end LD
/-! dicts told by their rows, whatever the keys: displays, isinstance, the walk over items() -/
namespace LR
open PySem PySem.Spec PyProof.Rows L2
abbrev RowsV : List (V × V) → List DictEntry → Prop := Paired fun p e => RelV p.1 e.key ∧ RelV p.2 e.val
/-- a dict at a with these rows -/
def drO (a : Addr) (rows : List (V × V)) : HO := .ext fun h => (a == sysModules) = false ∧ ∃ (es : Array DictEntry) (ep : Nat), DT.Raw h a es ep ∧ RowsV rows es.toList
theorem dr_ok {P : Program} {w : World} {H : Hp} {h : Heap} {a : Addr} {rows : List (V × V)} {es : Array DictEntry} {ep : Nat} (hd : (a == sysModules) = false) (raw : DT.Raw h a es ep) (r : RowsV rows es.toList) : ObjOk P w H h a (drO a rows) := by
  refine ⟨⟨hd, es, ep, raw, r⟩, ?_, fun h1 h2 x k => ?_⟩
  · obtain ⟨o, e, _⟩ := raw
    exact ⟨o, e⟩
  · obtain ⟨hd, es, ep, raw, r⟩ := x
    exact ⟨hd, es, ep, raw.at' k, r⟩
theorem dr_of {P : Program} {w : World} {H : Hp} {h : Heap} {a : Addr} {rows : List (V × V)} (ok : HOk P w H h) (e : H a = some (drO a rows)) : (a == sysModules) = false ∧ ∃ (es : Array DictEntry) (ep : Nat), DT.Raw h a es ep ∧ RowsV rows es.toList := by
  obtain ⟨x, _, _⟩ := (show ObjOk P w H h a (drO a rows) from ok a _ e)
  exact x
/-- u describes a dict with these rows -/
def RowsU (d : Addr) (u : HO) (rows : List (V × V)) : Prop := u = drO d rows ∨ (u = .dK [] ∧ rows = [])
theorem frzR {X : Cx} {pins : List (Addr × Obj)} {σ : L2.St} {H : Hp} {s : Shared} {d : Addr} {o : Obj} {u : HO} {rows : List (V × V)} (I : Inv X pins σ H s) (h : H d = some (.frz o u)) (hu : RowsU d u rows) :
    (d == sysModules) = false ∧ s.heap.get? d = some o ∧ o.ExactDict ∧ ∃ (es : Array DictEntry) (ep : Nat), o.data = .dict es ep ∧ es.size = rows.length ∧ RowsV rows es.toList := by
  rcases hu with rfl | ⟨rfl, rfl⟩
  · obtain ⟨hd, ⟨hs, es, ep, ⟨o', ho, hx, hdt⟩, r⟩, _⟩ := (show ObjOk X.prog X.w H s.heap d (.frz o (drO d rows)) from I.hok d _ h)
    rw [hd] at ho
    cases ho
    refine ⟨hs, hd, hx, es, ep, hdt, ?_, r⟩
    have l := Paired.length r
    rw [Array.length_toList] at l
    exact l.symm
  · obtain ⟨hs, hgd, hx, es, ep, vs, hdt, hsz, kv, hm⟩ := I.frzK h
    refine ⟨hs, hgd, hx, es, ep, hdt, hsz, ?_⟩
    have e0 : es.toList = [] := List.length_eq_zero_iff.mp (by rw [Array.length_toList, hsz]; rfl)
    rw [e0]
    exact .nil
theorem rows_get : ∀ {rows : List (V × V)} {es : List DictEntry} {i : Nat} (_ : RowsV rows es) (hi : i < es.length), ∃ k v, rows[i]? = some (k, v) ∧ RelV k es[i].key ∧ RelV v es[i].val
  | _, _, _, .nil, h => by simp at h
  | _, _, 0, .cons (a := p) r _, _ => ⟨p.1, p.2, rfl, r.1, r.2⟩
  | _, _, i + 1, .cons _ t, h => by
    obtain ⟨k, v, e, r1, r2⟩ := rows_get (i := i) t (by simpa using h)
    exact ⟨k, v, by simpa using e, r1, r2⟩
/-- the pairs, each a new tuple -/
def ItR (d : Addr) (o : Obj) (u : HO) (rows : List (V × V)) : It :=
  ⟨fun i H => H d = some (.frz o u) ∧ i < rows.length, fun i H x H' => ∃ T k v, rows[i]? = some (k, v) ∧ x = .ref T ∧ H T = none ∧ H' = upd H T (.tup [k, v]), fun i H => H d = some (.frz o u) ∧ rows.length ≤ i⟩
section
variable {P : Program} {w : World} {K : PySem.W.Frag} {d : Addr} {o : Obj} {es : Array DictEntry} {ep : Nat}
theorem turn_itemsR {u : HO} {rows : List (V × V)} (hu : RowsU d u rows) {elts : List Expr} {kk : Nat} {tpos : Pos} (it : Addr) (hod : o.data = .dict es ep) :
    Turn P w K (.Tuple elts kk tpos) (ItR d o u rows) [it] it (fun i h => ∃ ok ov, IsItemIter h it d i es.size ep ok ov) where
  mem := by simp
  obj := fun i h st b hb => by
    have e : b = it := by simpa using hb
    subst e
    obtain ⟨ok, ov, e⟩ := st
    exact ⟨_, e, fun v z => nomatch z⟩
  keep := fun i h h' st k => let ⟨ok, ov, e⟩ := st; ⟨ok, ov, k it (by simp) _ e⟩
  item := by
    intro X hP hw hK hc i pins s σ H E I hf st hg
    subst hP hw hK
    obtain ⟨hd, hi⟩ := hg
    obtain ⟨hs, hgd, hx, es', ep', hdt, hsz, rv⟩ := frzR I hd hu
    obtain ⟨rfl, rfl⟩ := dict_ep hod hdt
    have hi' : i < es'.size := by rw [hsz]; exact hi
    obtain ⟨k, v, hkv, rk, rv'⟩ := rows_get rv (show i < es'.toList.length by rw [Array.length_toList]; exact hi')
    rw [Array.getElem_toList] at rk rv'
    obtain ⟨ok, ov, he⟩ := st
    have hlt : it < s.heap.objs.size := Heap.lt_size he
    refine DT.nextI he ⟨o, hgd, hx, hdt⟩ hi' fun h' ho hT hz hk => ?_
    refine ⟨_, rfl, wpAny_letOwnedTupleGo_items (s := { s with heap := h' }) ho fun h'' he' sb => ?_⟩
    have hT2 : h''.get? s.heap.objs.size = some { cls := .type "tuple", data := .seq #[es'[i].key, es'[i].val] } := (sb.2 _ (Nat.ne_of_gt hlt)).trans hT
    have new : ObjOk X.prog X.w (upd H s.heap.objs.size (.tup [k, v])) h'' s.heap.objs.size (.tup [k, v]) :=
      ⟨by show 2 ≤ sizeLine; decide, [es'[i].key, es'[i].val], .cons rk (.cons rv' .nil), ⟨_, hT2, rfl, _, rfl⟩⟩
    have I1 : Inv X pins σ (upd H s.heap.objs.size (.tup [k, v])) { s with heap := h'' } :=
      I.turnedNew (t' := s.toks) (ch := [it]) (fun b ob hb e => (sb.2 b (by simpa using hb)).trans (hk b ob (by simpa using hb) e)) hf (Nat.le_refl _) new
    refine ⟨.ref s.heap.objs.size, _, I1, rfl, ⟨_, k, v, hkv, rfl, I.hok.fresh (Nat.le_refl _), rfl⟩, ⟨_, _, he'⟩, fun b hb => ?_⟩
    have e : b = it := by simpa using hb
    rw [e, upd_ne (Nat.ne_of_lt hlt)]
    exact (hf it (by simp)).1
  done := by
    intro X hP hw hK hc i pins s σ H E I hf st hg
    subst hP hw hK
    obtain ⟨hd, hi⟩ := hg
    obtain ⟨f0, f1, f2, f3, f4, f5⟩ := hf it (by simp)
    obtain ⟨hs, hgd, hx, es', ep', hdt, hsz, rv⟩ := frzR I hd hu
    obtain ⟨rfl, rfl⟩ := dict_ep hod hdt
    obtain ⟨ok, ov, he⟩ := st
    exact DT.endI (I.ok.hd hc) he ⟨o, hgd, hx, hdt⟩ (by rw [hsz]; exact hi) fun h' eb => ⟨rfl, I.turned (t' := s.toks) (fun b ob hb e => eb b ob hb e) f0 f1 f3 f4 f5⟩
  self := fun A i s Q E st h => let ⟨_, _, e⟩ := st; PySem.W.kcp_self e h
end
def iItemsR (td : TE) : TI := fun σ H R => td σ H fun x H1 => ∃ d o u rows, x = .ref d ∧ H1 d = some (.frz o u) ∧ RowsU d u rows ∧ R (ItR d o u rows) H1
section
variable {X : Cx} {e : Expr} {td : TE} {apos cpos : Pos}
theorem pi_itemsR {elts : List Expr} {kk : Nat} {tpos : Pos} (he : PE X e td) (hbase : attributeBase e "items" X.env (eval e X.env) = eval e X.env := by rfl) (hline : (apos.endLine == cpos.line) = true := by rfl) :
    PI X (.Tuple elts kk tpos) (.Call (.Attribute e "items" apos) [] [] cpos) (iItemsR td) := by
  refine ⟨fun pins s σ H R I h => ?_⟩
  refine wpAny_Call_method (T := "dict") (id := "dict.items") hbase rfl hline PySem.F.plainAttrs_dict PySem.F.slot_dict_items PySem.F.type_dict_items (thn (he.run pins s σ H _ I h) fun u s1 ⟨x, H1, I1, rx, d, o, uu, rows, ex, hd, hu, q⟩ => ?_)
  subst ex
  obtain rfl : u = Value.ref d := rx
  obtain ⟨hs, hgd, hx, es, ep, hdt, hsz, rv⟩ := frzR I1 hd hu
  have raw : DT.Raw s1.heap d es ep := ⟨o, hgd, hx, hdt⟩
  refine ⟨raw.typeIs, fun b q => ?_, ?_⟩
  · cases q
    exact ⟨o, hgd, hx.2.1⟩
  have I2 : Inv X pins σ H1 { s1 with heap := s1.heap.push { cls := .type "dict_items", data := .fields #[.ref d] } } := I1.kept (t' := s1.toks) fun b ob q => Heap.get?_push_of_some _ q
  have fin : wpAny (model X.prog X.w) X.A (pyIter (.ref s1.heap.objs.size)) (PIE X pins σ (.Tuple elts kk tpos) R) X.xe { s1 with heap := s1.heap.push { cls := .type "dict_items", data := .fields #[.ref d] } } := by
    refine DT.iterI (d := d) ⟨_, Heap.get?_push_size _ rfl, rfl, rfl⟩ (raw.push _) (pi_one (tk := s1.toks) I2 _ (turn_itemsR hu _ hdt) ⟨.none, .none, ?_⟩ q)
    exact Heap.get?_push_size _ rfl
  show wpAny _ _ (callWith cpos (.builtin "dict.items") [.ref d] [] []) _ X.xe s1
  exact method_meetsIn PySem.F.slot_dict_items PySem.F.entry_dict_items rfl (PySem.evalArgs_none ⟨rfl, raw.typeIs, PySem.F.args_dict_items_1 _, _, DT.meetsItems (es := es) (ep := ep) hs, ⟨raw, fin⟩⟩)
end
/-! ### isinstance(d, dict) -/
def rIsiD : List V → Hp → VK → Prop := fun xs H Q => ∃ d rows, xs = [.ref d, .ty "dict"] ∧ H d = some (drO d rows) ∧ Q (.bl true) H
section
variable {X : Cx}
theorem call_isiD : CallR X (.builtin "isinstance") rIsiD := by
  intro pins s σ H xs us Q I r h
  obtain ⟨d, rows, rfl, hd, q⟩ := h
  obtain ⟨u1, u2, rfl, r1, r2⟩ := vals2 r
  cases (show u1 = Value.ref d from r1)
  cases (show u2 = Value.type "dict" from r2)
  obtain ⟨hs, es, ep, ⟨o, ho, hx, hdt⟩, rv⟩ := dr_of I.hok hd
  exact PySem.W.kia_one PySem.W.kitx_dict I.kIn ⟨o, ho, hx.1⟩ (show PySem.W.kitOne X.K (.type "dict") (.type "dict") = some true from kit_ty (by decide +kernel)) (fun z => nomatch z) fun tk => ⟨.bl true, H, I.tok tk, rfl, q⟩
/-- either reading -/
theorem call_or {f : Value} {r1 r2 : List V → Hp → VK → Prop} (h1 : CallR X f r1) (h2 : CallR X f r2) : CallR X f (fun xs H Q => r1 xs H Q ∨ r2 xs H Q) := by
  intro pins s σ H xs us Q I r h
  rcases h with h | h
  · exact h1 pins s σ H xs us Q I r h
  · exact h2 pins s σ H xs us Q I r h
theorem pe_or2 {e : Expr} {t1 t2 : TE} (h1 : PE X e t1) (h2 : PE X e t2) : PE X e (fun σ H Q => t1 σ H Q ∨ t2 σ H Q) := by
  refine ⟨fun pins s σ H Q I h => ?_⟩
  rcases h with h | h
  · exact h1.run pins s σ H Q I h
  · exact h2.run pins s σ H Q I h
end
/-! ### displays -/
theorem leaf_back {k : Leaf} {u : Value} (h : Leaf.isOf k u = true) : ∃ x, LD.leafV k x ∧ RelV x u := by
  cases k with
  | none =>
    cases Leaf.nested (h := default) h
    exact ⟨.non, True.intro, rfl⟩
  | num i =>
    cases Leaf.nested (h := default) h with
    | int _ t => exact ⟨.int i, rfl, t, rfl⟩
    | bool q =>
      rename_i b
      exact ⟨.bl b, q.symm, rfl⟩
  | text z =>
    cases Leaf.nested (h := default) h with
    | text _ t => exact ⟨.str z, rfl, t, rfl⟩
theorem rows_back {P : Program} {w : World} : ∀ {es : List DictEntry} {vs : List (Leaf × Value)} {kvs : List (Leaf × V)}, Pairs (leafKind P w) es vs → KV kvs vs → ∃ rows, RowsV rows es ∧ LD.LKeys rows kvs
  | _, _, _, .nil, .nil => ⟨[], .nil, .nil⟩
  | _, _, _, .cons (e := e) h1 h2 t, .cons (a := p) r tr => by
    obtain ⟨rows, r1, r2⟩ := rows_back t tr
    obtain ⟨x, lx, rx⟩ := leaf_back h1
    refine ⟨(x, p.2) :: rows, .cons ⟨rx, ?_⟩ r1, .cons ⟨?_, rfl⟩ r2⟩
    · rw [h2]
      exact r.2
    · rw [r.1]
      exact lx
section
variable {X : Cx}
def tDispR (P : Program) (w : World) (trs : List (TE × TE)) : TE := fun σ H Q => ∀ p, H p = none → tPairs trs σ (upd H p (LD.dlO P w p [])) fun ps H2 => H2 p = some (LD.dlO P w p []) ∧ ∃ kvs : List (Leaf × V), LD.LKeys ps kvs ∧
  ∀ rows, LD.LKeys rows (LD.mergeL [] kvs) → Q (.ref p) (upd H2 p (drO p rows))
theorem pe_dispR {pos : Pos} {keys : List (Option Expr)} {values : List Expr} {trs : List (TE × TE)} (h : PPs X pos keys values trs) (hall : keys.all (·.isSome) = true) (hl : keys.length = values.length) (h0 : keys ≠ [])
    (h15 : keys.length ≤ 15) : PE X (.Dict keys values pos) (tDispR X.prog X.w trs) := by
  refine ⟨fun pins s σ H Q I q => ?_⟩
  have hn := I.hok.fresh (Nat.le_refl s.heap.objs.size)
  have hs0 : (s.heap.objs.size == sysModules) = false := beq_eq_false_iff_ne.mpr (Ne.symm (Nat.ne_of_lt I.big))
  have I1 := I.laid (a := s.heap.objs.size) (o := LD.dlO X.prog X.w s.heap.objs.size []) (h' := s.heap.push { cls := .type "dict", data := .dict #[] }) (t' := s.toks) (fun _ _ q => Heap.get?_push_of_some _ q) (Nat.le_refl _) (LD.dl_ok hs0 .nil (Heap.DictOf.new s.heap))
  refine wpAny_Dict_walk (knd := leafKind X.prog X.w) hall hl h0 h15 (thn (h.run pins _ σ _ _ I1 (q _ hn)) fun ws s2 ⟨ps, H2, I2, rel, e, kvs, lk, q2⟩ => ?_)
  obtain ⟨rs, c, rk⟩ := LD.carriesL (P := X.prog) (w := X.w) lk rel
  obtain ⟨hd, vs0, r0, dd⟩ := LD.dl_of I2.hok e
  cases r0
  refine ⟨rs, c, dd, fun h' dd' hs => ?_⟩
  obtain ⟨o, es, ep, ho, hx, hdt, _, prs, _⟩ := id dd'
  obtain ⟨rows, r1, r2⟩ := rows_back prs (LD.KV_mergeL rk .nil)
  exact ⟨.ref s.heap.objs.size, _, d_write I2 (by rw [e]; exact True.intro) hs ⟨o, ho⟩ (dr_ok hd ⟨o, ho, hx, hdt⟩ r1), rfl, q2 rows r2⟩
/-- {k: v} where k is a tuple of ints and texts -/
def tDispT (tk tv : TE) : TE := fun σ H Q => ∀ p, H p = none → tPairs [(tk, tv)] σ (upd H p (.dT [])) fun ps H2 => ∃ (a : Addr) (ks : List L2.Key) (y : V), ps = [(.ref a, y)] ∧ H2 p = some (.dT []) ∧ H2 a = some (.tup (ks.map kV)) ∧ Q (.ref p) (upd H2 p (drO p [(.ref a, y)]))
theorem pe_dispT (hu : X.A.units + 1 < cLine) {pos : Pos} {k v : Expr} {tk tv : TE} (hk : PE X k tk) (hv : PE X v tv) : PE X (.Dict [some k] [v] pos) (tDispT tk tv) := by
  refine ⟨fun pins s σ H Q I q => ?_⟩
  have hn := I.hok.fresh (Nat.le_refl s.heap.objs.size)
  have I1 := I.laid (a := s.heap.objs.size) (o := .dT []) (h' := s.heap.push { cls := .type "dict", data := .dict #[] }) (t' := s.toks) (fun _ _ q => Heap.get?_push_of_some _ q) (Nat.le_refl _) (dt_empty s.heap I.big)
  have hP : PPs X pos [some k] [v] [(tk, tv)] := pps_cons hk hv pps_nil
  rw [arm_eval_Dict, zip_pairTrees [some k] [v] X.env pos rfl rfl, dictDisplay_pairs (pairTrees [some k] [v] X.env pos) (fun z => nomatch z) (by simp [pairTrees])]
  refine wpAny_bind (wpAny_standAt (wpAny_bind (wpAny_subDictH (knd := tupleKind (mixKind X.prog X.w)) (Q := fun d s' => wpAny (model X.prog X.w) X.A (pure (Value.ref d)) _ X.xe s') (show X.A.units < cLine by omega) (by simp [pairTrees]) ?_)))
  refine thn (hP.run pins _ σ _ _ I1 (q _ hn)) fun ws s2 ⟨ps, H2, I2, rel, a, ks, y, ep, e, ha, q2⟩ => ?_
  subst ep
  obtain ⟨k1, k2⟩ : ∃ vv, ws = [(.ref a, vv)] ∧ RelV y vv := by
    cases rel with
    | @cons _ b _ _ h t =>
      cases t
      obtain ⟨b1, b2⟩ := b
      obtain ⟨h1, h2⟩ := h
      cases (show b1 = Value.ref a from h1)
      exact ⟨b2, rfl, h2⟩
  obtain ⟨rfl, ry⟩ := k2
  obtain ⟨z, hd, xs', rel', dd⟩ := dt_of I2.hok e
  cases rel'
  refine ⟨[(ks, a, k1)], ⟨rfl, rfl, key_of I2.hok ha, True.intro⟩, dd, fun h' tk dd' hs => wpAny_pure ?_⟩
  obtain ⟨o, es, ep, ho, hx, hdt, he, _⟩ := dd'
  have he' : es.toList = [entryOfKey (tupleKind (mixKind X.prog X.w)) (ks, a, k1)] := he
  exact ⟨.ref s.heap.objs.size, _, d_write I2 (by rw [e]; exact True.intro) hs ⟨o, ho⟩ (dr_ok hd ⟨o, ho, hx, hdt⟩ (by rw [he']; exact .cons ⟨rfl, ry⟩ .nil)), rfl, q2⟩
end
/-- a comprehension over items() -/
theorem lc_rows {d : Addr} {o : Obj} {u : HO} {rows : List (V × V)} {g : TG} {tt : TT} {te : TE} {vs : List Nat} {σ : L2.St} {H1 : Hp} {D : Addr} {Qd : Hp → Prop} (Pv : Nat → Hp → Prop) (h0 : Pv 0 (upd H1 D (.lst []))) (hl : ∀ i H, Pv i H → H d = some (.frz o u))
    (hs : ∀ i k v H T, rows[i]? = some (k, v) → Pv i H → H T = none → g (.ref T) (wipe σ vs) (upd H T (.tup [k, v])) fun σ2 H2 => wipe σ2 vs = wipe σ vs ∧ tt σ2 H2 fun b H3 =>
      if b = true then te σ2 H3 fun y H4 => ∃ acc, H4 D = some (.lst acc) ∧ acc.length < sizeLine ∧ Pv (i + 1) (upd H4 D (.lst (acc ++ [y]))) else Pv (i + 1) H3) (hd : ∀ H, Pv rows.length H → Qd H) :
    ∃ W : Nat → Nat → Hp → Prop, (∃ m, W 0 m (upd H1 D (.lst []))) ∧ ∀ i m H, W i m H →
      ((ItR d o u rows).stop i H ∧ Qd H) ∨ ((ItR d o u rows).go i H ∧ ∃ Nx : Hp → Prop, (∀ H', Nx H' → ∃ m', m' < m ∧ W (i + 1) m' H') ∧ ∀ x H', (ItR d o u rows).yld i H x H' → g x (wipe σ vs) H' fun σ2 H2 => wipe σ2 vs = wipe σ vs ∧ tt σ2 H2 fun b H3 =>
        if b = true then te σ2 H3 fun y H4 => ∃ acc, H4 D = some (.lst acc) ∧ acc.length < sizeLine ∧ Nx (upd H4 D (.lst (acc ++ [y]))) else Nx H3) := by
  refine ⟨fun i m H => m = rows.length - i ∧ i ≤ rows.length ∧ Pv i H, ⟨rows.length, by simp, Nat.zero_le _, h0⟩, ?_⟩
  rintro i m H ⟨rfl, hi, p⟩
  by_cases hlt : i < rows.length
  · refine .inr ⟨⟨hl i H p, hlt⟩, Pv (i + 1), fun H' p' => ⟨rows.length - (i + 1), by omega, rfl, hlt, p'⟩, fun x H' y => ?_⟩
    obtain ⟨T, k, v, e, rfl, hT, rfl⟩ := y
    exact hs i k v H T e p hT
  · have e : i = rows.length := by omega
    subst e
    exact .inl ⟨⟨hl _ H p, Nat.le_refl _⟩, hd H p⟩
end LR
/-! x == d, where d is a dict and x is none -/
namespace LQ
open PySem PySem.Spec PyProof.Rows PySem.SeqAt
/-- at d stands a dict -/
def IsDct (h : Heap) (d : Addr) : Prop := ∃ o es ep, h.get? d = some o ∧ o.ExactDict ∧ o.data = .dict es ep
theorem IsDct.typeIs {s : Shared} {d : Addr} (x : IsDct s.heap d) : s.TypeIs (.ref d) "dict" := let ⟨o, _, _, ho, hc, _⟩ := x; ⟨o, ho, hc.1⟩
section
variable {prog : Program} {w : World} {A : Around} {E : Value → Shared → Prop} {s : Shared}
theorem dict_declines {d : Addr} {x : Value} {T : String} {Q' : Value → Shared → Prop} (hd : IsDct s.heap d) (hx : s.TypeIs x T) (hs : isSubtype (.type T) (.type "dict") = pure false) (hq : Q' .notImplemented s) :
    wpAny (model prog w) A (call (.builtin "dict.__eq__") [.ref d, x]) Q' E s := by
  refine wpAny_call_entry PySem.F.slot_dict_eq_refl hd.typeIs PySem.F.entry_dict_eq ?_ (PySem.F.args_dict_eq_2 _ _)
  show wpAny _ _ (Builtin.Dict.dictSlotArgs "__eq__" ⟨[.ref d, x], []⟩ >>= _) _ _ s
  refine wpAny_bind ?_
  unfold Builtin.Dict.dictSlotArgs
  refine wpAny_bind (wpAny_notOrdered_dict hd.typeIs ?_)
  show wpAny _ _ (pure (Value.ref d, x)) _ _ s
  refine wpAny_pure ?_
  refine wpAny_bind (wpAny_isInstance (T := T) hx hs ?_)
  simp only [Bool.not_false, if_true]
  exact wpAny_bind (wpAny_rule (wpAny_pure ⟨_, rfl, hq⟩))
end
open AutoSeq1 (wpAny_loadPart')
open MeetsSeq
theorem int_declines_bool (b : Bool) (l : Addr) (c : Value) (es : Array DictEntry) (ep : Nat) (dd : Option Addr) (sl : Array (Option Value)) :
    Meets (Builtin.«int.__eq__» ⟨[.bool b, .ref l], []⟩) (fun _ R s => s.heap.get? l = some { cls := c, dict := dd, data := .dict es ep, slots := sl } ∧ R (.ok (.ret .notImplemented)) s) :=
  .of_wp fun prog w A R s h => by obtain ⟨hp, g, d, tk, os⟩ := s; obtain ⟨hl, h⟩ := h; wp_walk using wpAny_loadPart' hl, wpAny_load hl; exact ⟨_, rfl, h⟩
theorem int_declines_int (b : Int) (u : Tok) (l : Addr) (c : Value) (es : Array DictEntry) (ep : Nat) (dd : Option Addr) (sl : Array (Option Value)) :
    Meets (Builtin.«int.__eq__» ⟨[.int b u, .ref l], []⟩) (fun _ R s => s.heap.get? l = some { cls := c, dict := dd, data := .dict es ep, slots := sl } ∧ R (.ok (.ret .notImplemented)) s) :=
  .of_wp fun prog w A R s h => by obtain ⟨hp, g, d, tk, os⟩ := s; obtain ⟨hl, h⟩ := h; wp_walk using wpAny_loadPart' hl, wpAny_load hl; exact ⟨_, rfl, h⟩
theorem str_declines (b : Str) (u : Tok) (l : Addr) (c : Value) (es : Array DictEntry) (ep : Nat) (dd : Option Addr) (sl : Array (Option Value)) :
    Meets (Builtin.«str.__eq__» ⟨[.str b u, .ref l], []⟩) (fun _ R s => s.heap.get? l = some { cls := c, dict := dd, data := .dict es ep, slots := sl } ∧ R (.ok (.ret .notImplemented)) s) :=
  .of_wp fun prog w A R s h => by obtain ⟨hp, g, d, tk, os⟩ := s; obtain ⟨hl, h⟩ := h; wp_walk using wpAny_loadPart' hl, wpAny_load hl; exact ⟨_, rfl, h⟩
theorem list_declines (l b : Addr) (items : Array Value) (n : Nat) (dd : Option Addr) (sl : Array (Option Value)) (es : Array DictEntry) (ep : Nat) (dd2 : Option Addr) (sl2 : Array (Option Value)) :
    Meets (Builtin.«list.__eq__» ⟨[.ref l, .ref b], []⟩) (fun _ R s => s.heap.get? l = some { cls := .type "list", dict := dd, data := .seq items n, slots := sl } ∧ s.heap.get? b = some { cls := .type "dict", dict := dd2, data := .dict es ep, slots := sl2 } ∧ R (.ok (.ret .notImplemented)) s) :=
  .of_wp fun prog w A R s h => by obtain ⟨hp, g, d, tk, os⟩ := s; obtain ⟨hl, hb, h⟩ := h; have f1 := F.sub_dict_list; wp_walk using wpAny_loadPart' hl, wpAny_loadPart' hb; exact ⟨_, rfl, h⟩
theorem tuple_declines (l b : Addr) (items : Array Value) (n : Nat) (dd : Option Addr) (sl : Array (Option Value)) (es : Array DictEntry) (ep : Nat) (dd2 : Option Addr) (sl2 : Array (Option Value)) :
    Meets (Builtin.«tuple.__eq__» ⟨[.ref l, .ref b], []⟩) (fun _ R s => s.heap.get? l = some { cls := .type "tuple", dict := dd, data := .seq items n, slots := sl } ∧ s.heap.get? b = some { cls := .type "dict", dict := dd2, data := .dict es ep, slots := sl2 } ∧ R (.ok (.ret .notImplemented)) s) :=
  .of_wp fun prog w A R s h => by obtain ⟨hp, g, d, tk, os⟩ := s; obtain ⟨hl, hb, h⟩ := h; have f1 := F.sub_dict_tuple; wp_walk using wpAny_loadPart' hl, wpAny_loadPart' hb; exact ⟨_, rfl, h⟩
section
variable {A : Around} {s : Shared} {d : Addr}
theorem rc_none (hd : IsDct s.heap d) (hu : A.units < cLine) : RcAt A s .none (.ref d) false := fun prog w E Q h =>
  rc_eq_decline_or (k := false) rfl hd.typeIs (by decide) F.sub_dict_NoneType F.slot_NoneType_eq F.slot_dict_eq_refl
    (fun _ hq => call_gives F.slot_NoneType_eq rfl F.entry_NoneType_eq (F.args_NoneType_eq_2 _ _) (NoneType___eq___none_ref_0 d) hq)
    (fun _ hq => dict_declines hd rfl F.sub_NoneType_dict hq)
    (fun _ hq => wpAny_of_eq (rfl : isSame .none (.ref d) = pure false) hq) (.inr hu) h
theorem rc_bool (b : Bool) (hd : IsDct s.heap d) (hu : A.units < cLine) : RcAt A s (.bool b) (.ref d) false := fun prog w E Q h => by
  obtain ⟨⟨cls, dd, data, sl⟩, es, ep, ho, hc, hdt⟩ := id hd
  simp only at hdt
  subst hdt
  exact rc_eq_decline_or (k := false) rfl hd.typeIs (by decide) F.sub_dict_bool F.slot_bool_eq F.slot_dict_eq_refl
    (fun _ hq => call_meets F.slot_bool_eq rfl F.entry_int_eq (F.args_int_eq_2 _ _) (int_declines_bool b d _ es ep dd sl) ⟨ho, hq⟩)
    (fun _ hq => dict_declines hd rfl F.sub_bool_dict hq)
    (fun _ hq => wpAny_of_eq (rfl : isSame (.bool b) (.ref d) = pure false) hq) (.inr hu) h
theorem rc_int (b : Int) (u : Tok) (hd : IsDct s.heap d) (hu : A.units < cLine) : RcAt A s (.int b u) (.ref d) false := fun prog w E Q h => by
  obtain ⟨⟨cls, dd, data, sl⟩, es, ep, ho, hc, hdt⟩ := id hd
  simp only at hdt
  subst hdt
  exact rc_eq_decline_or (k := false) (typeIs_int s b u) hd.typeIs (by decide) F.sub_dict_int F.slot_int_eq F.slot_dict_eq_refl
    (fun _ hq => call_meets F.slot_int_eq (typeIs_int s b u) F.entry_int_eq (F.args_int_eq_2 _ _) (int_declines_int b u d _ es ep dd sl) ⟨ho, hq⟩)
    (fun _ hq => dict_declines hd (typeIs_int s b u) F.sub_int_dict hq)
    (fun _ hq => wpAny_of_eq (rfl : isSame (.int b u) (.ref d) = pure false) hq) (.inr hu) h
theorem rc_str (b : Str) (u : Tok) (hd : IsDct s.heap d) (hu : A.units < cLine) : RcAt A s (.str b u) (.ref d) false := fun prog w E Q h => by
  obtain ⟨⟨cls, dd, data, sl⟩, es, ep, ho, hc, hdt⟩ := id hd
  simp only at hdt
  subst hdt
  exact rc_eq_decline_or (k := false) (typeIs_str s b u) hd.typeIs (by decide) F.sub_dict_str F.slot_str_eq F.slot_dict_eq_refl
    (fun _ hq => call_meets F.slot_str_eq (typeIs_str s b u) F.entry_str_eq (F.args_str_eq_2 _ _) (str_declines b u d _ es ep dd sl) ⟨ho, hq⟩)
    (fun _ hq => dict_declines hd (typeIs_str s b u) F.sub_str_dict hq)
    (fun _ hq => wpAny_of_eq (rfl : isSame (.str b u) (.ref d) = pure false) hq) (.inr hu) h
theorem rc_list {l : Addr} {items : Array Value} (hl : s.heap.IsList l items) (hd : IsDct s.heap d) (hu : A.units < cLine) : RcAt A s (.ref l) (.ref d) false := fun prog w E Q h => by
  obtain ⟨⟨cls, dd, data, sl⟩, es, ep, ho, hc, hdt⟩ := id hd
  obtain ⟨⟨cls2, dd2, data2, sl2⟩, ho2, hc2, n2, hd2⟩ := id hl
  obtain ⟨hc1, hcd, hcs⟩ := hc
  simp only at hdt hc1 hc2 hd2
  subst hdt hc1 hc2 hd2
  have hne : l ≠ d := fun e => by
    subst e
    rw [ho] at ho2
    exact absurd (congrArg Obj.data (Option.some.inj ho2)) (fun z => nomatch z)
  exact rc_eq_decline_or (k := false) ⟨_, ho2, rfl⟩ hd.typeIs (by decide) F.sub_dict_list F.slot_list_eq F.slot_dict_eq_refl
    (fun _ hq => call_meets F.slot_list_eq ⟨_, ho2, rfl⟩ F.entry_list_eq (F.args_list_eq_2 _ _) (list_declines l d items n2 dd2 sl2 es ep dd sl) ⟨ho2, ho, hq⟩)
    (fun _ hq => dict_declines hd ⟨_, ho2, rfl⟩ F.sub_list_dict hq)
    (fun _ hq => wpAny_isSame_ref_other' hne ho2 ho (by simp) hq) (.inr hu) h
theorem rc_tuple {l : Addr} {items : Array Value} (hl : s.heap.IsTuple l items) (hd : IsDct s.heap d) (hu : A.units < cLine) : RcAt A s (.ref l) (.ref d) false := fun prog w E Q h => by
  obtain ⟨⟨cls, dd, data, sl⟩, es, ep, ho, hc, hdt⟩ := id hd
  obtain ⟨⟨cls2, dd2, data2, sl2⟩, ho2, hc2, n2, hd2⟩ := id hl
  obtain ⟨hc1, hcd, hcs⟩ := hc
  simp only at hdt hc1 hc2 hd2
  subst hdt hc1 hc2 hd2
  have hne : l ≠ d := fun e => by
    subst e
    rw [ho] at ho2
    exact absurd (congrArg Obj.data (Option.some.inj ho2)) (fun z => nomatch z)
  exact rc_eq_decline_or (k := false) ⟨_, ho2, rfl⟩ hd.typeIs (by decide) F.sub_dict_tuple F.slot_tuple_eq F.slot_dict_eq_refl
    (fun _ hq => call_meets F.slot_tuple_eq ⟨_, ho2, rfl⟩ F.entry_tuple_eq (F.args_tuple_eq_2 _ _) (tuple_declines l d items n2 dd2 sl2 es ep dd sl) ⟨ho2, ho, hq⟩)
    (fun _ hq => dict_declines hd ⟨_, ho2, rfl⟩ F.sub_tuple_dict hq)
    (fun _ hq => wpAny_isSame_ref_other' hne ho2 ho (by simp) hq) (.inr hu) h
end
open L2
/-- x == {}, where x is None, a bool, an int, a text, a list, a tuple or another empty dict -/
def rEqE : R2 := fun x y H Q => ∃ d, y = .ref d ∧ H d = some (.dK []) ∧
  (((x = .non ∨ (∃ b, x = .bl b) ∨ (∃ i, x = .int i) ∨ (∃ z, x = .str z) ∨ (∃ a xs, x = .ref a ∧ H a = some (.lst xs)) ∨ (∃ a xs, x = .ref a ∧ H a = some (.tup xs))) ∧ Q (.bl false) H) ∨ (∃ a, x = .ref a ∧ H a = some (.dK []) ∧ Q (.bl true) H))
theorem op_eqE {X : Cx} (hu : X.A.units < cLine) : OpR X (compareOp .Eq) rEqE := by
  intro pins s σ H x y v u Q I rx ry h
  obtain ⟨d, rfl, ed, h⟩ := h
  rcases h with ⟨h, q⟩ | ⟨a, rfl, ea, q⟩
  · obtain rfl : u = Value.ref d := ry
    obtain ⟨_, yd, vd, rd, o, es, ep, ho, hx, hdt, _⟩ := (show ObjOk X.prog X.w H s.heap d (.dK []) from I.hok d _ ed)
    have D : IsDct s.heap d := ⟨o, es, ep, ho, hx, hdt⟩
    rcases h with rfl | ⟨b, rfl⟩ | ⟨i, rfl⟩ | ⟨z, rfl⟩ | ⟨a, xs, rfl, ea⟩ | ⟨a, xs, rfl, ea⟩
    · cases rx
      exact rc_none D hu _ _ _ _ (fin_bl I q rfl)
    · cases rx
      exact rc_bool b D hu _ _ _ _ (fin_bl I q rfl)
    · obtain ⟨t, rfl⟩ := rx
      exact rc_int i t D hu _ _ _ _ (fin_bl I q rfl)
    · obtain ⟨t, rfl⟩ := rx
      exact rc_str z t D hu _ _ _ _ (fin_bl I q rfl)
    · obtain rfl : v = Value.ref a := rx
      obtain ⟨_, its, n, _, h1⟩ := (show ObjOk X.prog X.w H s.heap a (.lst xs) from I.hok a _ ea)
      exact rc_list (items := its.toArray) ⟨_, h1, rfl, n, rfl⟩ D hu _ _ _ _ (fin_bl I q rfl)
    · obtain rfl : v = Value.ref a := rx
      obtain ⟨_, its, _, o2, h1, h2, n, h3⟩ := (show ObjOk X.prog X.w H s.heap a (.tup xs) from I.hok a _ ea)
      exact rc_tuple (items := its.toArray) ⟨o2, h1, h2, n, h3⟩ D hu _ _ _ _ (fin_bl I q rfl)
  · exact op_eq_dict hu pins s σ H _ _ v u Q I rx ry ⟨a, d, [], rfl, rfl, ea, ed, List.nodup_nil, (fun p hp => nomatch hp), q⟩
/-- xs == [] -/
def rEqNil : R2 := fun x y H Q => ∃ a b xs, x = .ref a ∧ y = .ref b ∧ H a = some (.lst xs) ∧ H b = some (.lst []) ∧ Q (.bl xs.isEmpty) H
theorem op_eqNil {X : Cx} (hu : X.A.units < cLine) : OpR X (compareOp .Eq) rEqNil := by
  intro pins s σ H x y v u Q I rx ry h
  obtain ⟨a, b, xs, rfl, rfl, ea, eb, q⟩ := h
  obtain rfl : v = Value.ref a := rx
  obtain rfl : u = Value.ref b := ry
  obtain ⟨_, its, n, r1, h1⟩ := (show ObjOk X.prog X.w H s.heap a (.lst xs) from I.hok a _ ea)
  obtain ⟨_, its2, n2, r2, h2⟩ := (show ObjOk X.prog X.w H s.heap b (.lst []) from I.hok b _ eb)
  cases r2
  have l1 : s.heap.IsList a its.toArray := ⟨_, h1, rfl, n, rfl⟩
  have l2 : s.heap.IsList b #[] := ⟨_, h2, rfl, n2, rfl⟩
  cases r1 with
  | nil => exact RcAt.lists (e := fun _ => true) l1 l2 rfl hu (fun j h1 h2 => absurd h1 (Nat.not_lt_zero j)) _ _ _ _ (fin_bl I q rfl)
  | cons r t => exact RcAt.lists_lengths l1 l2 rfl hu _ _ _ _ (fin_bl I q rfl)
/-- t != () -/
def rNeNilT : R2 := fun x y H Q => ∃ a b xs, x = .ref a ∧ y = .ref b ∧ H a = some (.tup xs) ∧ H b = some (.tup []) ∧ Q (.bl (!xs.isEmpty)) H
theorem op_neNilT {X : Cx} (hu : X.A.units < cLine) : OpR X (compareOp .NotEq) rNeNilT := by
  intro pins s σ H x y v u Q I rx ry h
  obtain ⟨a, b, xs, rfl, rfl, ea, eb, q⟩ := h
  obtain rfl : v = Value.ref a := rx
  obtain rfl : u = Value.ref b := ry
  obtain ⟨_, its, r1, o1, h1, c1, n1, d1⟩ := (show ObjOk X.prog X.w H s.heap a (.tup xs) from I.hok a _ ea)
  obtain ⟨_, its2, r2, o2, h2, c2, n2, d2⟩ := (show ObjOk X.prog X.w H s.heap b (.tup []) from I.hok b _ eb)
  cases r2
  have l1 : s.heap.IsTuple a its.toArray := ⟨o1, h1, c1, n1, d1⟩
  have l2 : s.heap.IsTuple b #[] := ⟨o2, h2, c2, n2, d2⟩
  have hl := Paired.length r1
  refine RcNeAt.tuples (e := fun _ => true) l1 l2 hu (fun j h1 h2 => absurd h2 (Nat.not_lt_zero j)) _ _ _ _ (fin_bl I q ?_)
  cases r1 <;> simp
end LQ
namespace My
open PySem PySem.Spec PyProof.Rows L2
/-! ### is_value, is_state -/
theorem scIsValue : FnScope ["value"] ["value"] (defScope sIsValue) := ⟨rfl, rfl, rfl, by decide +kernel, rfl, by decide +kernel, by decide +kernel⟩
theorem scIsState : FnScope ["value", "key", "held"] ["value"] (defScope sIsState) := ⟨rfl, rfl, rfl, by decide +kernel, rfl, by decide +kernel, by decide +kernel⟩
def spVal : Sp := fun vs H Q _ => ∃ (t : T) (v : V), vs = [v] ∧ Th H t v ∧ shortA t ∧ ∀ H', Same H H' → Q (.bl (isVal t)) H'
mutual
theorem Th.keep2 {H H' : Hp} (kt : ∀ b l, H b = some (.tup l) → H' b = some (.tup l)) (kd : ∀ b, H b = some (.dK []) → H' b = some (.dK [])) (kl : ∀ b l, H b = some (.lst l) → ∃ l', H' b = some (.lst l')) : ∀ (t : T) (v : V), Th H t v → Th H' t v
  | .non, _, h => h
  | .bl _, _, h => h
  | .int _, _, h => h
  | .str _, _, h => h
  | .oth d, _, h => by
    unfold Th at h ⊢
    obtain ⟨a, e, h⟩ := h
    refine ⟨a, e, ?_⟩
    cases d with
    | true => exact kd _ h
    | false =>
      obtain ⟨xs, h⟩ := h
      exact kl _ _ h
  | .tup ts, _, h => by
    unfold Th at h ⊢
    obtain ⟨a, xs, e, h1, h2, h3⟩ := h
    exact ⟨a, xs, e, kt _ _ h1, h2, ThAll.keep2 kt kd kl ts xs h3⟩
theorem ThAll.keep2 {H H' : Hp} (kt : ∀ b l, H b = some (.tup l) → H' b = some (.tup l)) (kd : ∀ b, H b = some (.dK []) → H' b = some (.dK [])) (kl : ∀ b l, H b = some (.lst l) → ∃ l', H' b = some (.lst l')) : ∀ (ts : List T) (vs : List V), ThAll H ts vs → ThAll H' ts vs
  | [], _, h => h
  | t :: ts, _, h => by
    unfold ThAll at h ⊢
    obtain ⟨v, r, e, h1, h2⟩ := h
    exact ⟨v, r, e, Th.keep2 kt kd kl t v h1, ThAll.keep2 kt kd kl ts r h2⟩
end
theorem Th.lock {H : Hp} {d : Addr} {rows : List (V × V)} {o : HO} (hd : H d = some (LR.drO d rows)) {t : T} {v : V} (h : Th H t v) : Th (upd H d o) t v := by
  refine Th.keep2 (fun b l e => ?_) (fun b e => ?_) (fun b l e => ⟨l, ?_⟩) t v h
  · rw [upd_ne (fun z => by rw [z, hd] at e; cases e)]
    exact e
  · rw [upd_ne (fun z => by rw [z, hd] at e; cases e)]
    exact e
  · rw [upd_ne (fun z => by rw [z, hd] at e; cases e)]
    exact e
abbrev RowsT (H : Hp) : List (T × T) → List (V × V) → Prop := Paired fun p q => Th H p.1 q.1 ∧ Th H p.2 q.2
theorem rowsT_get {H : Hp} : ∀ {prs : List (T × T)} {rows : List (V × V)} {i : Nat} {k v : V} (_ : RowsT H prs rows) (_ : rows[i]? = some (k, v)), ∃ a b, prs[i]? = some (a, b) ∧ Th H a k ∧ Th H b v
  | _, _, i, _, _, .nil, h => by simp at h
  | _, _, 0, k, v, .cons (a := p) (b := q) r _, h => by
    simp only [List.getElem?_cons_zero, Option.some.injEq] at h
    subst h
    exact ⟨p.1, p.2, rfl, r.1, r.2⟩
  | _, _, i + 1, k, v, .cons _ t, h => by
    obtain ⟨a, b, e, h1, h2⟩ := rowsT_get (i := i) t (by simpa using h)
    exact ⟨a, b, by simpa using e, h1, h2⟩
/-- a state: a dict by its rows -/
def DctAt (H : Hp) (d : Addr) (prs : List (T × T)) : Prop := (H d = some (.dK []) ∧ prs = []) ∨ ∃ rows, H d = some (LR.drO d rows) ∧ RowsT H prs rows
def notD : T → Prop
  | .oth d => d = false
  | _ => True
def spState : Sp := fun vs H Q _ =>
  (∃ (t : T) (v : V), vs = [v] ∧ Th H t v ∧ notD t ∧ Q (.bl false) H) ∨
  ∃ (d : Addr) (prs : List (T × T)), vs = [.ref d] ∧ DctAt H d prs ∧ prs.length ≤ 10 ∧ (∀ p ∈ prs, short p.1 ∧ shortA p.2) ∧ ∀ H', Same H H' → Q (.bl (prs.all fun p => isKey p.1 && isVal p.2)) H'
structure TxtS (mg : Str → Option Value) : Prop where
  isi : mg "isinstance" = none
  all : mg "all" = none
  dict : mg "dict" = none
section
variable {P : Program} {w : World} {K : PySem.W.Frag} {mg : Str → Option Value} {base : Heap}
theorem ok_isVal {f fK fL fX : Addr} {fd fdK fdL fdX : FuncData} (F : Fun K "is_value" "is_value" sIsValue f fd) (FK : Fun K "kind_of" "kind_of" sKind fK fdK) (bK : Binds K fdK ["value"] []) (gK : mg "kind_of" = some (.ref fK)) (TK : TxtK mg)
    (FL : Fun K "is_list" "is_list" sIsList fL fdL) (bL : Binds K fdL ["value"] []) (gL : mg "is_list" = some (.ref fL)) (GL : FnOk P w K mg base CX0 4 fL fdL ["value"] spIsList)
    (FX : Fun K "is_plain_value" "is_plain_value" sIsPlain fX fdX) (bX : Binds K fdX ["value"] []) (gX : mg "is_plain_value" = some (.ref fX)) (GX : FnOk P w K mg base CX0 3 fX fdX ["value"] (spB isPlain)) :
    FnOk P w K mg base CX0 5 f fd ["value"] spVal := by
  have GK : FnOk P w K mg base CX0 1 fK fdK ["value"] spKind := ok_kind FK TK
  refine F.ok scIsValue (fun vs H Q E h => ?_) (fun cdv A outer s H vs Q E hr h => ?_)
  · obtain ⟨t, v, rfl, _⟩ := h
    rfl
  · obtain ⟨t, v, rfl, ht, hs, q⟩ := h
    refine ⟨_, pss_cons (ps_if (pt_cmpR op_eq (pe_call GK (hr.mono (by decide)) rfl gK FK.kp bK .nil pass0 (pa_cons (pv 0) pa_nil)) pe_str (nomark _))
        (pss_one (ps_ret (pe_call GL hr rfl gL FL.kp bL .nil pass0 (pa_cons (pv 0) pa_nil)))) pss_nil)
      (pss_one (ps_ret (pe_call GX (hr.mono (by decide)) rfl gX FX.kp bX .nil pass0 (pa_cons (pv 0) pa_nil)))), ?_⟩
    refine ⟨_, rfl, t, v, rfl, ht, rfl, _, rfl, ?_⟩
    rw [kindS_list]
    cases hb : isTupT t with
    | true =>
      refine iteT ⟨_, rfl, t, v, rfl, hb, ht, hs, fun H' sm => ?_⟩
      have q1 := q H' sm
      rw [show isVal t = lev 5 [t] 0 by simp only [isVal, hb, if_true]] at q1
      exact q1
    | false =>
      refine iteF ⟨_, rfl, t, v, rfl, ht, hs.short, ?_⟩
      have q1 := q H (Same.refl H)
      rw [show isVal t = isPlain t by simp only [isVal, hb]; rfl] at q1
      exact q1
theorem ok_isState {f fK fV : Addr} {fd fdK fdV : FuncData} (F : Fun K "is_state" "is_state" sIsState f fd) 
    (FK : Fun K "is_key" "is_key" sIsKey fK fdK) (bK : Binds K fdK ["value"] []) (gK : mg "is_key" = some (.ref fK)) (GK : FnOk P w K mg base CX0 3 fK fdK ["value"] (spB isKey))
    (FV : Fun K "is_value" "is_value" sIsValue fV fdV) (bV : Binds K fdV ["value"] []) (gV : mg "is_value" = some (.ref fV)) (GV : FnOk P w K mg base CX0 5 fV fdV ["value"] spVal) (TS : TxtS mg) :
    FnOk P w K mg base CX0 6 f fd ["value"] spState := by
  refine F.ok scIsState (fun vs H Q E h => ?_) (fun cdv A outer s H vs Q E hr h => ?_)
  · rcases h with ⟨t, v, rfl, _⟩ | ⟨d, prs, rfl, _⟩ <;> rfl
  · have ND := scIsState.nd
    refine ⟨_, pss_cons (ps_if (pt_not (pt_val (pe_callB (LR.call_or call_isi LR.call_isiD) (by rfl) TS.isi PyProof.Rows.boot_isinstance (pa_cons (pv 0) (pa_cons (pe_bltn (v := .ty "dict") (by rfl) TS.dict (by decide +kernel) rfl) pa_nil))))) (pss_one (ps_ret pe_bl)) pss_nil)
      (pss_one (ps_lock (ps_ret (pe_callB (cr_all rfl) (by rfl) TS.all (by decide +kernel) (pa_cons
        (pe_lc (own := [("key", 1), ("held", 2)]) (g := gTup K 2 (gCons (gName 1) (gCons (gName 2) gNil))) (tt := tYes) rfl ND (LR.pi_itemsR (pv 0)) (blkOk_by (own := [("key", 1), ("held", 2)]) (N := ["value", "key", "held"]) (sc := defScope sIsState) (by decide +kernel))
          (fun _ _ _ _ _ => pg_tup rfl (pgs_cons (pg_name (i := 1) ND rfl (Or.inl rfl)) (pgs_cons (pg_name (i := 2) ND rfl (Or.inl rfl)) pgs_nil))) (fun _ _ _ _ _ => pts_nil)
          (fun _ _ _ _ _ => pe_and (pe_call GK (hr.mono (by decide)) rfl gK FK.kp bK .nil pass0 (pa_cons (pv 1) pa_nil)) (pe_one (pe_call GV hr rfl gV FV.kp bV .nil pass0 (pa_cons (pv 2) pa_nil))))) pa_nil))))), ?_⟩
    rcases h with ⟨t, v, rfl, ht, hn, q⟩ | ⟨d, prs, rfl, hd, hl, hs, q⟩
    · obtain ⟨ty, hty, hk⟩ : ∃ n, TyOf K H v (.type n) ∧ kitB n "dict" = some false := by
        cases t with
        | non => unfold Th at ht; subst ht; exact ⟨_, .non, by decide +kernel⟩
        | bl b => unfold Th at ht; subst ht; exact ⟨_, .bl b, by decide +kernel⟩
        | int i => unfold Th at ht; subst ht; exact ⟨_, .int i, by decide +kernel⟩
        | str x => unfold Th at ht; subst ht; exact ⟨_, .str x, by decide +kernel⟩
        | tup ts => unfold Th at ht; obtain ⟨a, xs, rfl, e, _, _⟩ := ht; exact ⟨_, .tup e, by decide +kernel⟩
        | oth d =>
          unfold Th at ht
          obtain ⟨a, rfl, e⟩ := ht
          cases (show d = false from hn)
          obtain ⟨xs, e⟩ := e
          exact ⟨_, .lst e, by decide +kernel⟩
      refine ⟨_, rfl, .inl ⟨_, _, _, _, false, rfl, .ty "dict", .base hty, kit_ty hk, _, rfl, ?_⟩⟩
      exact iteT q
    · have main : ∀ (u : HO) (rows : List (V × V)), H d = some u → Mut (some u) → LR.RowsU d u rows → (∀ o : HO, RowsT (upd H d o) prs rows) →
          tLock (tRet (tCB (rAll K) (tCons (tLc (LR.iItemsR (tVar 0)) (gTup K 2 (gCons (gName 1) (gCons (gName 2) gNil))) tYes (tAndV (tCall (spB isKey) [] E0 (tCons (tVar 1) tNil)) (tCall spVal [] E0 (tCons (tVar 2) tNil))) [1, 2]) tNil))) { nx := fun x H' => Q V.non H', rt := Q } [some (.ref d), none, none] H := by
        intro u rows eu mu hu lk
        refine ⟨d, u, eu, mu, fun od => ?_⟩
        have hrt := lk (.frz od u)
        have hlen : prs.length = rows.length := Paired.length hrt
        refine ⟨_, rfl, d, od, u, rows, rfl, upd_same, hu, fun D nD => ?_⟩
        refine LR.lc_rows (fun j G => G D = some (.lst (((prs.take j).map fun p => isKey p.1 && isVal p.2).map V.bl)) ∧ Same (upd H d (.frz od u)) G) ⟨upd_same, same_upd nD⟩ (fun j G ⟨_, sm⟩ => sm _ _ upd_same) (fun j k v G T e ⟨hD, sm⟩ nT => ?_) (fun G ⟨hD, sm⟩ => ?_)
        · obtain ⟨a, b, e1, h1, h2⟩ := rowsT_get hrt e
          have hj : j < prs.length := (List.getElem?_eq_some_iff.mp e1).1
          have hm := hs _ (List.mem_of_getElem? e1)
          have smT : Same (upd H d (.frz od u)) (upd G T (.tup [k, v])) := sm.trans (same_upd nT)
          have fin : ∀ (b0 : Bool) (G2 : Hp), Same (upd G T (.tup [k, v])) G2 → b0 = (isKey a && isVal b) → ∃ acc, G2 D = some (.lst acc) ∧ acc.length < sizeLine ∧ (upd G2 D (.lst (acc ++ [.bl b0]))) D = some (.lst (((prs.take (j + 1)).map fun p => isKey p.1 && isVal p.2).map V.bl)) ∧ Same (upd H d (.frz od u)) (upd G2 D (.lst (acc ++ [.bl b0]))) := by
            intro b0 G2 s2 eb
            refine ⟨_, s2 _ _ (by rw [upd_ne (fun z => by rw [z, nT] at hD; cases hD)]; exact hD), small1000 ?_, ?_, fun o w eo => ?_⟩
            · rw [List.length_map, List.length_map, List.length_take]
              omega
            · rw [upd_same, List.take_add_one, e1, eb]
              simp
            · rw [upd_ne (ne_of_none eo nD)]
              exact s2 _ _ (smT _ _ eo)
          refine ⟨T, [k, v], rfl, .inl (.inl upd_same), rfl, _, _, rfl, _, _, rfl, rfl, rfl, tYes_if ?_⟩
          refine ⟨_, rfl, a, k, rfl, Th.same smT _ _ h1, hm.1, _, rfl, ?_⟩
          cases hk : isKey a with
          | false => exact iteF (fin false _ (Same.refl _) (by rw [hk]; rfl))
          | true => exact iteT ⟨_, rfl, b, v, rfl, Th.same smT _ _ h2, hm.2, fun G2 s2 => fin (isVal b) G2 s2 (by rw [hk]; rfl)⟩
        · refine ⟨D, _, rfl, .inl (.inl hD), ?_⟩
          refine ⟨sm _ _ upd_same, ?_⟩
          rw [show ((prs.take rows.length).map fun p => isKey p.1 && isVal p.2).all id = prs.all fun p => isKey p.1 && isVal p.2 by
            rw [List.take_of_length_le (by omega), List.all_map]
            rfl]
          refine q _ fun b o e => ?_
          by_cases z : b = d
          · rw [z, upd_same, ← eu, ← z, e]
          · rw [upd_ne z]
            exact sm _ _ (by rw [upd_ne z]; exact e)
      rcases hd with ⟨hd, rfl⟩ | ⟨rows, hd, hrt⟩
      · refine ⟨_, rfl, .inl ⟨_, _, _, _, true, rfl, .ty "dict", .base (.dK hd), kit_ty (by decide +kernel), _, rfl, ?_⟩⟩
        exact iteF (main _ [] hd True.intro (.inr ⟨rfl, rfl⟩) (fun o => .nil))
      · refine ⟨_, rfl, .inr ⟨d, rows, rfl, hd, _, rfl, ?_⟩⟩
        exact iteF (main _ rows hd True.intro (.inl rfl) (fun o => Paired.mapP hrt fun a b h => ⟨Th.lock hd h.1, Th.lock hd h.2⟩))
end
end My
namespace My
open PySem PySem.Spec PyProof.Rows L2
/-! ### the law's own words: texts, names, values -/
theorem scLText : FnScope ["_law_thing_here", "_law_least", "_law_sign"] ["_law_thing_here", "_law_least"] (defScope sLText) := ⟨rfl, rfl, rfl, by decide +kernel, rfl, by decide +kernel, by decide +kernel⟩
theorem scLName : FnScope ["_law_thing_here", "_law_sign"] ["_law_thing_here"] (defScope sLName) := ⟨rfl, rfl, rfl, by decide +kernel, rfl, by decide +kernel, by decide +kernel⟩
theorem scLValue : FnScope ["_law_thing_here", "_law_levels", "_law_one"] ["_law_thing_here", "_law_levels"] (defScope sLValue) := ⟨rfl, rfl, rfl, by decide +kernel, rfl, by decide +kernel, by decide +kernel⟩
/-- the signs of x that are not among cs -/
def offS (x cs : Str) : List Nat := x.cps.toList.filter fun c => !decide (c ∈ cs.cps.toList)
def ltext (t : T) (least : Nat) : Bool := match t with
  | .str x => (decide ((least : Int) ≤ (x.length : Int)) && decide ((x.length : Int) ≤ 60)) && (offS x ldS).isEmpty
  | _ => false
def lname (t : T) : Bool := match t with
  | .str x => (decide ((1 : Int) ≤ (x.length : Int)) && decide ((x.length : Int) ≤ 12)) && (offS x ltS).isEmpty
  | _ => false
structure TxtL (mg : Str → Option Value) : Prop where
  isi : mg "isinstance" = none
  len : mg "len" = none
  str : mg "str" = none
  int : mg "int" = none
  bool : mg "bool" = none
  tuple : mg "tuple" = none
  abs : mg "abs" = none
  sum : mg "sum" = none
  list : mg "list" = none
  dict : mg "dict" = none
def spLText : Sp := fun vs H Q _ => ∃ (t : T) (v : V) (least : Nat), vs = [v, .int least] ∧ Th H t v ∧ short t ∧ ∀ H', Same H H' → Q (.bl (ltext t least)) H'
def spLName : Sp := fun vs H Q _ => ∃ (t : T) (v : V), vs = [v] ∧ Th H t v ∧ short t ∧ ∀ H', Same H H' → Q (.bl (lname t)) H'
theorem lc_str {x : Str} {g : TG} {tt : TT} {te : TE} {vs : List Nat} {σ : L2.St} {H1 : Hp} {D : Addr} {Qd : Hp → Prop} (Pv : Nat → Hp → Prop) (h0 : Pv 0 (upd H1 D (.lst [])))
    (hs : ∀ i c H, x.cps[i]? = some c → Pv i H → g (.str ⟨#[c]⟩) (wipe σ vs) H fun σ2 H2 => wipe σ2 vs = wipe σ vs ∧ tt σ2 H2 fun b H3 =>
      if b = true then te σ2 H3 fun y H4 => ∃ acc, H4 D = some (.lst acc) ∧ acc.length < sizeLine ∧ Pv (i + 1) (upd H4 D (.lst (acc ++ [y]))) else Pv (i + 1) H3) (hd : ∀ H, Pv x.cps.size H → Qd H) :
    ∃ W : Nat → Nat → Hp → Prop, (∃ m, W 0 m (upd H1 D (.lst []))) ∧ ∀ i m H, W i m H →
      ((Its x).stop i H ∧ Qd H) ∨ ((Its x).go i H ∧ ∃ Nx : Hp → Prop, (∀ H', Nx H' → ∃ m', m' < m ∧ W (i + 1) m' H') ∧ ∀ v H', (Its x).yld i H v H' → g v (wipe σ vs) H' fun σ2 H2 => wipe σ2 vs = wipe σ vs ∧ tt σ2 H2 fun b H3 =>
        if b = true then te σ2 H3 fun y H4 => ∃ acc, H4 D = some (.lst acc) ∧ acc.length < sizeLine ∧ Nx (upd H4 D (.lst (acc ++ [y]))) else Nx H3) := by
  refine ⟨fun i m H => m = x.cps.size - i ∧ i ≤ x.cps.size ∧ Pv i H, ⟨x.cps.size, by simp, Nat.zero_le _, h0⟩, ?_⟩
  rintro i m H ⟨rfl, hi, p⟩
  by_cases hlt : i < x.cps.size
  · refine .inr ⟨hlt, Pv (i + 1), fun H' p' => ⟨x.cps.size - (i + 1), by omega, rfl, hlt, p'⟩, fun v H' y => ?_⟩
    obtain ⟨rfl, c, e, rfl⟩ := y
    exact hs i c _ e p
  · have e : i = x.cps.size := by omega
    subst e
    exact .inl ⟨Nat.le_refl _, hd H p⟩
/-- the invariant of the signs' comprehension -/
def signsP (x cs : Str) (D : Addr) (H : Hp) (i : Nat) (G : Hp) : Prop := G D = some (.lst (((x.cps.toList.take i).filter fun c => !decide (c ∈ cs.cps.toList)).map fun c => V.str ⟨#[c]⟩)) ∧ Same H G
theorem signs_take {x cs : Str} {i c : Nat} (e : x.cps[i]? = some c) : ((x.cps.toList.take (i + 1)).filter fun c => !decide (c ∈ cs.cps.toList)) = ((x.cps.toList.take i).filter fun c => !decide (c ∈ cs.cps.toList)) ++ (if (!decide (c ∈ cs.cps.toList)) = true then [c] else []) := by
  have e2 : x.cps.toList[i]? = some c := by simpa using e
  rw [List.take_add_one, e2, List.filter_append]
  congr 1
  simp only [Option.toList_some, List.filter_cons, List.filter_nil]
theorem signs_yes {x cs : Str} {D : Addr} {H G : Hp} {i c : Nat} (nD : H D = none) (hx : x.length ≤ 1000) (e : x.cps[i]? = some c) (h : signsP x cs D H i G) (hb : (!decide (c ∈ cs.cps.toList)) = true) :
    ∃ acc, G D = some (.lst acc) ∧ acc.length < sizeLine ∧ signsP x cs D H (i + 1) (upd G D (.lst (acc ++ [V.str ⟨#[c]⟩]))) := by
  obtain ⟨hD, sm⟩ := h
  refine ⟨_, hD, small1000 ?_, ?_, fun o w eo => ?_⟩
  · have h1 := List.length_filter_le (fun c => !decide (c ∈ cs.cps.toList)) (x.cps.toList.take i)
    rw [List.length_take] at h1
    have h2 : x.cps.toList.length = x.length := rfl
    rw [List.length_map]
    omega
  · rw [upd_same, signs_take e, if_pos hb, List.map_append]
    rfl
  · rw [upd_ne (ne_of_none eo nD)]
    exact sm _ _ eo
theorem signs_no {x cs : Str} {D : Addr} {H G : Hp} {i c : Nat} (e : x.cps[i]? = some c) (h : signsP x cs D H i G) (hb : (!decide (c ∈ cs.cps.toList)) = false) : signsP x cs D H (i + 1) G := by
  obtain ⟨hD, sm⟩ := h
  refine ⟨?_, sm⟩
  rw [signs_take e, hb, if_neg Bool.false_ne_true, List.append_nil]
  exact hD
theorem signs_end {x cs : Str} {D : Addr} {H G : Hp} (h : signsP x cs D H x.cps.size G) : G D = some (.lst ((offS x cs).map fun c => V.str ⟨#[c]⟩)) ∧ Same H G := by
  obtain ⟨hD, sm⟩ := h
  rw [List.take_of_length_le (by simp)] at hD
  exact ⟨hD, sm⟩
section
variable {P : Program} {w : World} {K : PySem.W.Frag} {mg : Str → Option Value} {base : Heap}
theorem ok_lText {f : Addr} {fd : FuncData} (F : Fun K "_law_text" "_law_text" sLText f fd) (TL : TxtL mg) : FnOk P w K mg base CX0 1 f fd ["_law_thing_here", "_law_least"] spLText := by
  refine F.ok scLText (fun vs H Q E h => ?_) (fun cdv A outer s H vs Q E hr h => ?_)
  · obtain ⟨t, v, n, rfl, _⟩ := h
    rfl
  · obtain ⟨t, v, n, rfl, ht, hs, q⟩ := h
    have ND := scLText.nd
    refine ⟨_, pss_cons (ps_if (PW.pt (pw_or (pt_not (pt_val (pe_callB call_isi (by rfl) TL.isi PyProof.Rows.boot_isinstance (pa_cons (pv 0) (pa_cons (pe_bltn (v := .ty "str") (by rfl) TL.str (by decide +kernel) rfl) pa_nil)))))
        (pw_or1 (pt_not (pt_chain op_le op_le (pv 1) (pe_callB call_len_str (by rfl) TL.len PySem.boot_len (pa_cons (pv 0) pa_nil)) pe_int))))) (pss_one (ps_ret pe_bl)) pss_nil)
      (pss_one (ps_ret (pe_cmpR (LQ.op_eqNil hr.units0)
        (pe_lc (own := [("_law_sign", 2)]) (g := gName 2) rfl ND (pi_str (pv 0)) (blkOk_by (own := [("_law_sign", 2)]) (N := ["_law_thing_here", "_law_least", "_law_sign"]) (sc := defScope sLText) (by decide +kernel))
          (fun _ _ _ _ _ => pg_name (i := 2) ND rfl (Or.inl rfl)) (fun _ _ _ _ _ => pts_one (pt_cmpR op_notInS (pv 2) pe_str rfl)) (fun _ _ _ _ _ => pv 2)) (pe_lst pa_nil) (nomark _)))), ?_⟩
    cases t with
    | str x =>
      simp only [Th] at ht
      subst ht
      have hx : x.length ≤ 1000 := hs
      refine ⟨_, rfl, _, _, _, _, true, rfl, .ty "str", .base (.str x), kit_ty (by decide +kernel), _, rfl, ?_⟩
      refine iteF ?_
      refine ⟨_, rfl, _, rfl, x, rfl, Nat.le_of_lt (small1000 hx), _, _, rfl, rfl, _, rfl, ?_⟩
      have no : (decide ((n : Int) ≤ (x.length : Int)) && decide ((x.length : Int) ≤ 60)) = false → Q (.bl false) H := fun e => by
        have q1 := q H (Same.refl H)
        rw [show ltext (.str x) n = false by simp only [ltext]; rw [e, Bool.false_and]] at q1
        exact q1
      refine ite2 (fun hc => ?_) (fun hc => ?_)
      · refine ⟨_, _, rfl, rfl, _, rfl, ?_⟩
        cases hc2 : decide ((x.length : Int) ≤ 60) with
        | false => exact iteT (no (by rw [hc2, Bool.and_false]))
        | true =>
          refine iteF ?_
          refine ⟨_, rfl, x, rfl, fun D nD => ?_⟩
          refine lc_str (signsP x ldS D H) ⟨upd_same, same_upd nD⟩ (fun i c G e hP => ?_) (fun G hP => ?_)
          · refine ⟨rfl, _, rfl, c, ldS, rfl, rfl, _, rfl, ?_⟩
            refine ite2 (fun hb => ?_) (fun hb => ?_)
            · exact ⟨_, rfl, signs_yes nD hx e hP hb⟩
            · exact signs_no e hP (Bool.eq_false_iff.mpr hb)
          · obtain ⟨hD, sm⟩ := signs_end hP
            refine ⟨by show 0 ≤ sizeLine; exact Nat.zero_le _, fun D2 nD2 => ?_⟩
            refine ⟨D, D2, _, rfl, rfl, by rw [upd_ne (ne_of_none hD nD2)]; exact hD, upd_same, ?_⟩
            have q1 := q _ (sm.trans (same_upd (o := .lst []) nD2))
            rw [show ltext (.str x) n = (offS x ldS).isEmpty by simp only [ltext]; rw [hc, hc2]; rfl] at q1
            rw [List.isEmpty_map]
            exact q1
      · exact ⟨_, rfl, iteT (no (by rw [Bool.eq_false_iff.mpr hc]; rfl))⟩
    | non =>
      simp only [Th] at ht
      subst ht
      refine ⟨_, rfl, _, _, _, _, false, rfl, .ty "str", .base .non, kit_ty (by decide +kernel), _, rfl, ?_⟩
      exact iteT (iteT (q H (Same.refl _)))
    | bl b =>
      simp only [Th] at ht
      subst ht
      refine ⟨_, rfl, _, _, _, _, false, rfl, .ty "str", .base (.bl b), kit_ty (by decide +kernel), _, rfl, ?_⟩
      exact iteT (iteT (q H (Same.refl _)))
    | int i =>
      simp only [Th] at ht
      subst ht
      refine ⟨_, rfl, _, _, _, _, false, rfl, .ty "str", .base (.int i), kit_ty (by decide +kernel), _, rfl, ?_⟩
      exact iteT (iteT (q H (Same.refl _)))
    | tup ts =>
      simp only [Th] at ht
      obtain ⟨a, xs, rfl, e, _, _⟩ := ht
      refine ⟨_, rfl, _, _, _, _, false, rfl, .ty "str", .base (.tup e), kit_ty (by decide +kernel), _, rfl, ?_⟩
      exact iteT (iteT (q H (Same.refl _)))
    | oth d =>
      simp only [Th] at ht
      obtain ⟨a, rfl, e⟩ := ht
      have ty : ∃ n, TyOf K H (.ref a) (.type n) ∧ (n = "list" ∨ n = "dict") := by
        cases d with
        | true => exact ⟨_, .dK e, .inr rfl⟩
        | false =>
          obtain ⟨xs, e⟩ := e
          exact ⟨_, .lst e, .inl rfl⟩
      obtain ⟨n, ty, hn⟩ := ty
      refine ⟨_, rfl, _, _, _, _, false, rfl, .ty "str", .base ty, kit_ty (by rcases hn with rfl | rfl <;> decide +kernel), _, rfl, ?_⟩
      exact iteT (iteT (q H (Same.refl _)))
theorem ok_lName {f : Addr} {fd : FuncData} (F : Fun K "_law_name" "_law_name" sLName f fd) (TL : TxtL mg) : FnOk P w K mg base CX0 1 f fd ["_law_thing_here"] spLName := by
  refine F.ok scLName (fun vs H Q E h => ?_) (fun cdv A outer s H vs Q E hr h => ?_)
  · obtain ⟨t, v, rfl, _⟩ := h
    rfl
  · obtain ⟨t, v, rfl, ht, hs, q⟩ := h
    have ND := scLName.nd
    refine ⟨_, pss_cons (ps_if (PW.pt (pw_or (pt_not (pt_val (pe_callB call_isi (by rfl) TL.isi PyProof.Rows.boot_isinstance (pa_cons (pv 0) (pa_cons (pe_bltn (v := .ty "str") (by rfl) TL.str (by decide +kernel) rfl) pa_nil)))))
        (pw_or1 (pt_not (pt_chain op_le op_le pe_int (pe_callB call_len_str (by rfl) TL.len PySem.boot_len (pa_cons (pv 0) pa_nil)) pe_int))))) (pss_one (ps_ret pe_bl)) pss_nil)
      (pss_one (ps_ret (pe_cmpR (LQ.op_eqNil hr.units0)
        (pe_lc (own := [("_law_sign", 1)]) (g := gName 1) rfl ND (pi_str (pv 0)) (blkOk_by (own := [("_law_sign", 1)]) (N := ["_law_thing_here", "_law_sign"]) (sc := defScope sLName) (by decide +kernel))
          (fun _ _ _ _ _ => pg_name (i := 1) ND rfl (Or.inl rfl)) (fun _ _ _ _ _ => pts_one (pt_cmpR op_notInS (pv 1) pe_str rfl)) (fun _ _ _ _ _ => pv 1)) (pe_lst pa_nil) (nomark _)))), ?_⟩
    cases t with
    | str x =>
      simp only [Th] at ht
      subst ht
      have hx : x.length ≤ 1000 := hs
      refine ⟨_, rfl, _, _, _, _, true, rfl, .ty "str", .base (.str x), kit_ty (by decide +kernel), _, rfl, ?_⟩
      refine iteF ?_
      refine ⟨_, rfl, x, rfl, Nat.le_of_lt (small1000 hx), _, _, rfl, rfl, _, rfl, ?_⟩
      have no : (decide ((1 : Int) ≤ (x.length : Int)) && decide ((x.length : Int) ≤ 12)) = false → Q (.bl false) H := fun e => by
        have q1 := q H (Same.refl H)
        rw [show lname (.str x) = false by simp only [lname]; rw [e, Bool.false_and]] at q1
        exact q1
      refine ite2 (fun hc => ?_) (fun hc => ?_)
      · refine ⟨_, _, rfl, rfl, _, rfl, ?_⟩
        cases hc2 : decide ((x.length : Int) ≤ 12) with
        | false => exact iteT (no (by rw [hc2, Bool.and_false]))
        | true =>
          refine iteF ?_
          refine ⟨_, rfl, x, rfl, fun D nD => ?_⟩
          refine lc_str (signsP x ltS D H) ⟨upd_same, same_upd nD⟩ (fun i c G e hP => ?_) (fun G hP => ?_)
          · refine ⟨rfl, _, rfl, c, ltS, rfl, rfl, _, rfl, ?_⟩
            refine ite2 (fun hb => ?_) (fun hb => ?_)
            · exact ⟨_, rfl, signs_yes nD hx e hP hb⟩
            · exact signs_no e hP (Bool.eq_false_iff.mpr hb)
          · obtain ⟨hD, sm⟩ := signs_end hP
            refine ⟨by show 0 ≤ sizeLine; exact Nat.zero_le _, fun D2 nD2 => ?_⟩
            refine ⟨D, D2, _, rfl, rfl, by rw [upd_ne (ne_of_none hD nD2)]; exact hD, upd_same, ?_⟩
            have q1 := q _ (sm.trans (same_upd (o := .lst []) nD2))
            rw [show lname (.str x) = (offS x ltS).isEmpty by simp only [lname]; rw [hc, hc2]; rfl] at q1
            rw [List.isEmpty_map]
            exact q1
      · exact ⟨_, rfl, iteT (no (by rw [Bool.eq_false_iff.mpr hc]; rfl))⟩
    | non =>
      simp only [Th] at ht
      subst ht
      refine ⟨_, rfl, _, _, _, _, false, rfl, .ty "str", .base .non, kit_ty (by decide +kernel), _, rfl, ?_⟩
      exact iteT (iteT (q H (Same.refl _)))
    | bl b =>
      simp only [Th] at ht
      subst ht
      refine ⟨_, rfl, _, _, _, _, false, rfl, .ty "str", .base (.bl b), kit_ty (by decide +kernel), _, rfl, ?_⟩
      exact iteT (iteT (q H (Same.refl _)))
    | int i =>
      simp only [Th] at ht
      subst ht
      refine ⟨_, rfl, _, _, _, _, false, rfl, .ty "str", .base (.int i), kit_ty (by decide +kernel), _, rfl, ?_⟩
      exact iteT (iteT (q H (Same.refl _)))
    | tup ts =>
      simp only [Th] at ht
      obtain ⟨a, xs, rfl, e, _, _⟩ := ht
      refine ⟨_, rfl, _, _, _, _, false, rfl, .ty "str", .base (.tup e), kit_ty (by decide +kernel), _, rfl, ?_⟩
      exact iteT (iteT (q H (Same.refl _)))
    | oth d =>
      simp only [Th] at ht
      obtain ⟨a, rfl, e⟩ := ht
      have ty : ∃ n, TyOf K H (.ref a) (.type n) ∧ (n = "list" ∨ n = "dict") := by
        cases d with
        | true => exact ⟨_, .dK e, .inr rfl⟩
        | false =>
          obtain ⟨xs, e⟩ := e
          exact ⟨_, .lst e, .inl rfl⟩
      obtain ⟨n, ty, hn⟩ := ty
      refine ⟨_, rfl, _, _, _, _, false, rfl, .ty "str", .base ty, kit_ty (by rcases hn with rfl | rfl <;> decide +kernel), _, rfl, ?_⟩
      exact iteT (iteT (q H (Same.refl _)))
end
end My
namespace My
open PySem PySem.Spec PyProof.Rows L2
mutual
def boundA : T → Prop
  | .int i => i.natAbs ≤ 10 ^ 60
  | .tup ts => boundAll ts
  | _ => True
def boundAll : List T → Prop
  | [] => True
  | t :: ts => boundA t ∧ boundAll ts
end
theorem boundAll_mem : ∀ {ts : List T}, boundAll ts ↔ ∀ t ∈ ts, boundA t
  | [] => by simp [boundAll]
  | t :: ts => by
    simp only [boundAll, List.mem_cons, forall_eq_or_imp]
    rw [boundAll_mem]
theorem boundA.kids {ts : List T} (h : boundA (.tup ts)) : ∀ u ∈ ts, boundA u := by
  simp only [boundA] at h
  exact boundAll_mem.mp h
def absI (i : Int) : Int := if i < 0 then -i else i
def digs (i : Int) : Nat := (Str.ofString (toString (absI i))).length
theorem absI_nat (i : Int) : absI i = ((i.natAbs : Nat) : Int) := by
  unfold absI
  split <;> omega
theorem digs_iff (i : Int) : digs i ≤ 60 ↔ i.natAbs < 10 ^ 60 := by
  unfold digs
  rw [PySem.ofString_length, absI_nat, show toString ((i.natAbs : Nat) : Int) = Nat.repr i.natAbs from rfl]
  exact Nat.length_repr_le_iff (by decide)
theorem absI_log {i : Int} (h : i.natAbs ≤ 10 ^ 60) : (absI i).natAbs.log2 < 1920 := by
  rw [absI_nat, Int.natAbs_natCast]
  by_cases h0 : i.natAbs = 0
  · rw [h0]
    decide
  · rw [Nat.log2_lt h0]
    refine Nat.lt_of_le_of_lt h (Nat.lt_of_lt_of_le (show (10 : Nat) ^ 60 < 2 ^ 200 by decide) (Nat.pow_le_pow_right (by decide) (by decide)))
def lval : Nat → T → Bool
  | 0, .tup _ => false
  | n + 1, .tup ts => !decide (50 < (ts.length : Int)) && ts.all (lval n)
  | _, .int i => decide ((digs i : Int) ≤ 60)
  | _, .non => ltext .non 0
  | _, .bl b => ltext (.bl b) 0
  | _, .str x => ltext (.str x) 0
  | _, .oth d => ltext (.oth d) 0
def spLVal : Nat → Sp
  | 0 => fun vs _ _ _ => vs.length = 2 ∧ False
  | n + 1 => fun vs H Q _ => ∃ (t : T) (v : V), vs = [v, .int n] ∧ Th H t v ∧ shortA t ∧ boundA t ∧ ∀ H', Same H H' → Q (.bl (lval n t)) H'
section
variable {P : Program} {w : World} {K : PySem.W.Frag} {mg : Str → Option Value} {base : Heap}
theorem ok_lVal {f fX : Addr} {fd fdX : FuncData} (F : Fun K "_law_value" "_law_value" sLValue f fd) (bF : Binds K fd ["_law_thing_here", "_law_levels"] []) (gF : mg "_law_value" = some (.ref f)) (TL : TxtL mg)
    (FX : Fun K "_law_text" "_law_text" sLText fX fdX) (bX : Binds K fdX ["_law_thing_here", "_law_least"] []) (gX : mg "_law_text" = some (.ref fX)) :
    ∀ n : Nat, FnOk P w K mg base CX0 (n + 2) f fd ["_law_thing_here", "_law_levels"] (spLVal n) := by
  have GX : FnOk P w K mg base CX0 1 fX fdX ["_law_thing_here", "_law_least"] spLText := ok_lText FX TL
  intro n
  induction n with
  | zero => exact F.ok scLValue (fun vs H Q E h => h.1) (fun cdv A outer s H vs Q E hr h => h.2.elim)
  | succ n GR =>
    refine F.ok scLValue (fun vs H Q E h => ?_) (fun cdv A outer s H vs Q E hr h => ?_)
    · obtain ⟨t, v, rfl, _⟩ := h
      rfl
    · obtain ⟨t, v, rfl, ht, hs, hb, q⟩ := h
      have ND := scLValue.nd
      have fin : ∀ b : Bool, lval n t = b → ∀ H', Same H H' → Q (.bl b) H' := fun b e H' sm => e ▸ q H' sm
      refine ⟨_, pss_cons (ps_if (pt_val (pe_callB call_isi (by rfl) TL.isi PyProof.Rows.boot_isinstance (pa_cons (pv 0) (pa_cons (pe_bltn (v := .ty "tuple") (by rfl) TL.tuple (by decide +kernel) rfl) pa_nil))))
          (pss_cons (ps_if (PW.pt (pw_or (pt_cmpR op_eq (pv 1) pe_int (nomark _)) (pw_or1 (pt_cmpR op_gt (pe_callB call_len_seq (by rfl) TL.len PySem.boot_len (pa_cons (pv 0) pa_nil)) pe_int (nomark _))))) (pss_one (ps_ret pe_bl)) pss_nil)
          (pss_one (ps_ret (pe_cmpR (LQ.op_eqNil hr.units0)
            (pe_lc (own := [("_law_one", 2)]) (g := gName 2) rfl ND (pi_tup (pv 0)) (blkOk_by (own := [("_law_one", 2)]) (N := ["_law_thing_here", "_law_levels", "_law_one"]) (sc := defScope sLValue) (by decide +kernel))
              (fun _ _ _ _ _ => pg_name (i := 2) ND rfl (Or.inl rfl)) (fun _ _ _ _ _ => pts_one (pt_not (pt_val (pe_call GR hr rfl gF F.kp bF .nil pass0 (pa_cons (pv 2) (pa_cons (pe_op op_sub (pv 1) pe_int) pa_nil)))))) (fun _ _ _ _ _ => pv 2))
            (pe_lst pa_nil) (nomark _))))) pss_nil)
        (pss_cons (ps_if (PW.pt (pw_and (pt_val (pe_callB call_isi (by rfl) TL.isi PyProof.Rows.boot_isinstance (pa_cons (pv 0) (pa_cons (pe_bltn (v := .ty "int") (by rfl) TL.int (by decide +kernel) rfl) pa_nil))))
            (pw_and1 (pt_not (pt_val (pe_callB call_isi (by rfl) TL.isi PyProof.Rows.boot_isinstance (pa_cons (pv 0) (pa_cons (pe_bltn (v := .ty "bool") (by rfl) TL.bool (by decide +kernel) rfl) pa_nil))))))))
          (pss_one (ps_ret (pe_cmpR op_le (pe_callB call_len_str (by rfl) TL.len PySem.boot_len (pa_cons (pe_callTy call_str_int (by rfl) TL.str (by decide +kernel) (pa_cons (pe_callB call_abs (by rfl) TL.abs (by decide +kernel) (pa_cons (pv 0) pa_nil)) pa_nil)) pa_nil)) pe_int (nomark _)))) pss_nil)
        (pss_one (ps_ret (pe_call GX (hr.mono (by omega)) rfl gX FX.kp bX .nil pass0 (pa_cons (pv 0) (pa_cons pe_int pa_nil)))))), ?_⟩
      cases t with
      | tup ts =>
        simp only [Th] at ht
        obtain ⟨a, xs, rfl, ha, hxl, hall⟩ := ht
        have lts := thAll_len hall
        refine ⟨_, rfl, _, _, _, _, true, rfl, .ty "tuple", .base (.tup ha), kit_ty (by decide +kernel), _, rfl, ?_⟩
        refine iteT ?_
        refine ⟨_, rfl, rfl, _, rfl, ?_⟩
        cases n with
        | zero => exact iteT (iteT (fin false rfl H (Same.refl _)))
        | succ k =>
          have e0 : decide ((V.int ((k + 1 : Nat) : Int)) = V.int 0) = false := decide_eq_false fun z => by
            have := V.int.inj z
            omega
          rw [e0]
          refine iteF ?_
          refine ⟨_, rfl, a, xs, rfl, .inr (.inl (.inl ha)), _, _, rfl, rfl, _, rfl, ?_⟩
          rw [← lts]
          refine ite2 (fun hc => ?_) (fun hc => ?_)
          · refine fin false ?_ H (Same.refl _)
            simp only [lval]
            rw [hc]
            rfl
          · refine ⟨_, rfl, a, rfl, ⟨xs, .inl (.inl ha)⟩, fun D nD => ?_⟩
            refine lc_tup (K := K) (a := a) (xs := xs) (fun i G => ∃ acc : List V, G D = some (.lst acc) ∧ acc.length ≤ i ∧ acc.isEmpty = (ts.take i).all (lval k) ∧ Same H G)
              ⟨[], upd_same, Nat.le_refl _, rfl, same_upd nD⟩ (fun i G _ ⟨_, _, _, _, sm⟩ => .inl (.inl (sm _ _ ha))) (fun i x G hx ⟨acc, hD, hal, hae, sm⟩ => ?_) (fun G ⟨acc, hD, hal, hae, sm⟩ => ?_)
            · have hi : i < ts.length := by
                have := (List.getElem?_eq_some_iff.mp hx).1
                omega
              obtain ⟨u, x', e1, e2, hu⟩ := thAll_get hall hi
              have ex : x' = x := Option.some.inj (e2.symm.trans hx)
              subst ex
              have hmem := List.mem_of_getElem? e1
              refine ⟨rfl, ?_⟩
              refine ⟨_, rfl, _, rfl, _, _, rfl, rfl, u, x', ?_, Th.same sm _ _ hu, hs.kids u hmem, hb.kids u hmem, fun G2 s2 => ?_⟩
              · exact congrArg (fun z => [x', V.int z]) (show ((k + 1 : Nat) : Int) - 1 = ((k : Nat) : Int) by omega)
              have tk : (ts.take (i + 1)).all (lval k) = ((ts.take i).all (lval k) && lval k u) := by
                rw [List.take_add_one, e1, List.all_append]
                simp
              refine ⟨_, rfl, ?_⟩
              cases hl : lval k u with
              | true =>
                refine ⟨acc, s2 _ _ hD, by omega, ?_, sm.trans s2⟩
                rw [tk, hl, Bool.and_true]
                exact hae
              | false =>
                refine ⟨_, rfl, acc, s2 _ _ hD, small1000 (by omega), acc ++ [x'], upd_same, ?_, ?_, fun o w eo => ?_⟩
                · rw [List.length_append, List.length_singleton]
                  omega
                · rw [tk, hl, Bool.and_false]
                  cases acc <;> rfl
                · rw [upd_ne (ne_of_none eo nD)]
                  exact s2 _ _ (sm _ _ eo)
            · refine ⟨by show 0 ≤ sizeLine; exact Nat.zero_le _, fun D2 nD2 => ?_⟩
              refine ⟨D, D2, _, rfl, rfl, by rw [upd_ne (ne_of_none hD nD2)]; exact hD, upd_same, ?_⟩
              rw [hae, List.take_of_length_le (by omega)]
              refine fin _ ?_ _ (sm.trans (same_upd (o := .lst []) nD2))
              simp only [lval]
              rw [Bool.eq_false_iff.mpr hc]
              rfl
      | int i =>
        simp only [Th] at ht
        subst ht
        refine ⟨_, rfl, _, _, _, _, false, rfl, .ty "tuple", .base (.int i), kit_ty (by decide +kernel), _, rfl, ?_⟩
        refine iteF ⟨_, rfl, _, _, _, _, true, rfl, .ty "int", .base (.int i), kit_ty (by decide +kernel), _, rfl, ?_⟩
        refine iteT ⟨_, rfl, _, _, _, _, false, rfl, .ty "bool", .base (.int i), kit_ty (by decide +kernel), _, rfl, ?_⟩
        refine iteT ⟨_, rfl, i, rfl, absI i, rfl, ?_, _, rfl, ?_, _, _, rfl, rfl, ?_⟩
        · exact absI_log hb
        · exact int_text_fits (absI_log hb)
        · exact fin _ (by cases n <;> rfl) H (Same.refl _)
      | non =>
        simp only [Th] at ht
        subst ht
        refine ⟨_, rfl, _, _, _, _, false, rfl, .ty "tuple", .base .non, kit_ty (by decide +kernel), _, rfl, ?_⟩
        refine iteF ⟨_, rfl, _, _, _, _, false, rfl, .ty "int", .base .non, kit_ty (by decide +kernel), _, rfl, ?_⟩
        exact iteF (iteF ⟨_, rfl, .non, _, 0, rfl, rfl, True.intro, fin _ (by cases n <;> rfl)⟩)
      | bl b =>
        simp only [Th] at ht
        subst ht
        refine ⟨_, rfl, _, _, _, _, false, rfl, .ty "tuple", .base (.bl b), kit_ty (by decide +kernel), _, rfl, ?_⟩
        refine iteF ⟨_, rfl, _, _, _, _, true, rfl, .ty "int", .base (.bl b), kit_ty (by decide +kernel), _, rfl, ?_⟩
        refine iteT ⟨_, rfl, _, _, _, _, true, rfl, .ty "bool", .base (.bl b), kit_ty (by decide +kernel), _, rfl, ?_⟩
        exact iteF ⟨_, rfl, .bl b, _, 0, rfl, rfl, True.intro, fin _ (by cases n <;> rfl)⟩
      | str x =>
        simp only [Th] at ht
        subst ht
        refine ⟨_, rfl, _, _, _, _, false, rfl, .ty "tuple", .base (.str x), kit_ty (by decide +kernel), _, rfl, ?_⟩
        refine iteF ⟨_, rfl, _, _, _, _, false, rfl, .ty "int", .base (.str x), kit_ty (by decide +kernel), _, rfl, ?_⟩
        exact iteF (iteF ⟨_, rfl, .str x, _, 0, rfl, rfl, hs.short, fin _ (by cases n <;> rfl)⟩)
      | oth d =>
        have hT := ht
        simp only [Th] at ht
        obtain ⟨a, rfl, e⟩ := ht
        have ty : ∃ n, TyOf K H (.ref a) (.type n) ∧ (n = "list" ∨ n = "dict") := by
          cases d with
          | true => exact ⟨_, .dK e, .inr rfl⟩
          | false =>
            obtain ⟨xs, e⟩ := e
            exact ⟨_, .lst e, .inl rfl⟩
        obtain ⟨tn, ty, hn⟩ := ty
        refine ⟨_, rfl, _, _, _, _, false, rfl, .ty "tuple", .base ty, kit_ty (by rcases hn with rfl | rfl <;> decide +kernel), _, rfl, ?_⟩
        refine iteF ⟨_, rfl, _, _, _, _, false, rfl, .ty "int", .base ty, kit_ty (by rcases hn with rfl | rfl <;> decide +kernel), _, rfl, ?_⟩
        exact iteF (iteF ⟨_, rfl, .oth d, _, 0, rfl, hT, True.intro, fin _ (by cases n <;> rfl)⟩)
end
end My
namespace My
open PySem PySem.Spec PyProof.Rows L2
/-! ### counts -/
theorem scCount : FnScope ["_law_thing_here", "_law_one"] ["_law_thing_here"] (defScope sCount) := ⟨rfl, rfl, rfl, by decide +kernel, rfl, by decide +kernel, by decide +kernel⟩
theorem scGood : FnScope ["_law_thing_here"] ["_law_thing_here"] (defScope sGood) := ⟨rfl, rfl, rfl, by decide +kernel, rfl, by decide +kernel, by decide +kernel⟩
mutual
def cnt : T → Nat
  | .tup ts => cntAll ts
  | _ => 0
def cntAll : List T → Nat
  | [] => 0
  | t :: ts => (1 + cnt t) + cntAll ts
end
mutual
def dep : T → Nat
  | .tup ts => depAll ts + 1
  | _ => 0
def depAll : List T → Nat
  | [] => 0
  | t :: ts => max (dep t) (depAll ts)
end
theorem dep_mem : ∀ {ts : List T} {t : T}, t ∈ ts → dep t ≤ depAll ts
  | [], _, h => nomatch h
  | u :: ts, t, h => by
    simp only [depAll]
    rcases List.mem_cons.mp h with rfl | h
    · exact Nat.le_max_left _ _
    · exact Nat.le_trans (dep_mem h) (Nat.le_max_right _ _)
theorem cntAll_sum : ∀ ts : List T, (ts.map fun u => ((1 : Int) + (cnt u : Int))).sum = (cntAll ts : Int)
  | [] => rfl
  | t :: ts => by
    rw [List.map_cons, List.sum_cons, cntAll_sum ts]
    simp only [cntAll]
    omega
def good (t : T) : Bool := lval 5 t && decide ((cnt t : Int) ≤ 50)
def spCnt : Nat → Sp
  | 0 => fun vs _ _ _ => vs.length = 1 ∧ False
  | n + 1 => fun vs H Q _ => ∃ (t : T) (v : V), vs = [v] ∧ Th H t v ∧ dep t ≤ n ∧ ∀ H', Same H H' → Q (.int (cnt t)) H'
def spGood : Sp := fun vs H Q _ => ∃ (t : T) (v : V), vs = [v] ∧ Th H t v ∧ shortA t ∧ boundA t ∧ dep t ≤ 8 ∧ ∀ H', Same H H' → Q (.bl (good t)) H'
/-- what kind_of's isinstance says of a thing that is no tuple -/
theorem th_noTup {K : PySem.W.Frag} {H : Hp} {t : T} {v : V} (hn : isTupT t = false) (ht : Th H t v) : ∃ n, TyOf K H v (.type n) ∧ kitB n "tuple" = some false := by
  cases t with
  | non => unfold Th at ht; subst ht; exact ⟨_, .non, by decide +kernel⟩
  | bl b => unfold Th at ht; subst ht; exact ⟨_, .bl b, by decide +kernel⟩
  | int i => unfold Th at ht; subst ht; exact ⟨_, .int i, by decide +kernel⟩
  | str x => unfold Th at ht; subst ht; exact ⟨_, .str x, by decide +kernel⟩
  | tup ts => exact absurd hn (by simp [isTupT])
  | oth d =>
    unfold Th at ht
    obtain ⟨a, rfl, e⟩ := ht
    cases d with
    | true => exact ⟨_, .dK e, by decide +kernel⟩
    | false =>
      obtain ⟨xs, e⟩ := e
      exact ⟨_, .lst e, by decide +kernel⟩
theorem cnt_noTup {t : T} (h : isTupT t = false) : cnt t = 0 := by
  cases t <;> first | rfl | (simp [isTupT] at h)
section
variable {P : Program} {w : World} {K : PySem.W.Frag} {mg : Str → Option Value} {base : Heap}
theorem ok_cnt {f : Addr} {fd : FuncData} (F : Fun K "_law_count" "_law_count" sCount f fd) (bF : Binds K fd ["_law_thing_here"] []) (gF : mg "_law_count" = some (.ref f)) (TL : TxtL mg) :
    ∀ n : Nat, FnOk P w K mg base CX0 (n + 1) f fd ["_law_thing_here"] (spCnt n) := by
  intro n
  induction n with
  | zero => exact F.ok scCount (fun vs H Q E h => h.1) (fun cdv A outer s H vs Q E hr h => h.2.elim)
  | succ n GR =>
    refine F.ok scCount (fun vs H Q E h => ?_) (fun cdv A outer s H vs Q E hr h => ?_)
    · obtain ⟨t, v, rfl, _⟩ := h
      rfl
    · obtain ⟨t, v, rfl, ht, hd, q⟩ := h
      have ND := scCount.nd
      refine ⟨_, pss_one (ps_ret (pe_ifExp (pt_val (pe_callB call_isi (by rfl) TL.isi PyProof.Rows.boot_isinstance (pa_cons (pv 0) (pa_cons (pe_bltn (v := .ty "tuple") (by rfl) TL.tuple (by decide +kernel) rfl) pa_nil))))
        (pe_callB (cr_sum rfl) (by rfl) TL.sum (by decide +kernel) (pa_cons
          (pe_lc (own := [("_law_one", 1)]) (g := gName 1) (tt := tYes) rfl ND (pi_tup (pv 0)) (blkOk_by (own := [("_law_one", 1)]) (N := ["_law_thing_here", "_law_one"]) (sc := defScope sCount) (by decide +kernel))
            (fun _ _ _ _ _ => pg_name (i := 1) ND rfl (Or.inl rfl)) (fun _ _ _ _ _ => pts_nil) (fun _ _ _ _ _ => pe_op op_add pe_int (pe_call GR hr rfl gF F.kp bF .nil pass0 (pa_cons (pv 1) pa_nil)))) pa_nil)) pe_int)), ?_⟩
      cases hT : isTupT t with
      | false =>
        obtain ⟨tn, ty, hk⟩ := th_noTup (K := K) hT ht
        refine ⟨_, rfl, _, _, _, _, false, rfl, .ty "tuple", .base ty, kit_ty hk, _, rfl, ?_⟩
        have q1 := q H (Same.refl _)
        rw [cnt_noTup hT] at q1
        exact iteF q1
      | true =>
        obtain ⟨a, xs, rfl, ha, hxl, hall⟩ := th_tup hT ht
        rw [tup_of hT] at hd q
        generalize kids t = ts at hd q hall
        have lts := thAll_len hall
        simp only [dep] at hd
        refine ⟨_, rfl, _, _, _, _, true, rfl, .ty "tuple", .base (.tup ha), kit_ty (by decide +kernel), _, rfl, ?_⟩
        refine iteT ?_
        refine ⟨_, rfl, a, rfl, ⟨xs, .inl (.inl ha)⟩, fun D nD => ?_⟩
        refine lc_tup (K := K) (a := a) (xs := xs) (fun i G => G D = some (.lst (((ts.take i).map fun u => ((1 : Int) + (cnt u : Int))).map V.int)) ∧ Same H G)
          ⟨upd_same, same_upd nD⟩ (fun i G _ ⟨_, sm⟩ => .inl (.inl (sm _ _ ha))) (fun i x G hx ⟨hD, sm⟩ => ?_) (fun G ⟨hD, sm⟩ => ?_)
        · have hi : i < ts.length := by
            have := (List.getElem?_eq_some_iff.mp hx).1
            omega
          obtain ⟨u, x', e1, e2, hu⟩ := thAll_get hall hi
          have ex : x' = x := Option.some.inj (e2.symm.trans hx)
          subst ex
          have hdu := dep_mem (List.mem_of_getElem? e1)
          obtain ⟨k, rfl⟩ : ∃ k, n = k + 1 := ⟨n - 1, by omega⟩
          refine ⟨rfl, tYes_if ?_⟩
          refine ⟨_, rfl, u, x', rfl, Th.same sm _ _ hu, by omega, fun G2 s2 => ?_⟩
          refine ⟨_, _, rfl, rfl, _, s2 _ _ hD, small1000 ?_, ?_, fun o w eo => ?_⟩
          · rw [List.length_map, List.length_map, List.length_take]
            omega
          · rw [upd_same, List.take_add_one, e1]
            simp
          · rw [upd_ne (ne_of_none eo nD)]
            exact s2 _ _ (sm _ _ eo)
        · refine ⟨D, _, rfl, .inl (.inl hD), ?_⟩
          rw [List.take_of_length_le (by omega), cntAll_sum]
          have q1 := q G sm
          simp only [cnt] at q1
          exact q1
theorem ok_good {f fV fC : Addr} {fd fdV fdC : FuncData} (F : Fun K "_law_good" "_law_good" sGood f fd) 
    (FV : Fun K "_law_value" "_law_value" sLValue fV fdV) (bV : Binds K fdV ["_law_thing_here", "_law_levels"] []) (gV : mg "_law_value" = some (.ref fV)) (GV : FnOk P w K mg base CX0 8 fV fdV ["_law_thing_here", "_law_levels"] (spLVal 6))
    (FC : Fun K "_law_count" "_law_count" sCount fC fdC) (bC : Binds K fdC ["_law_thing_here"] []) (gC : mg "_law_count" = some (.ref fC)) (GC : FnOk P w K mg base CX0 10 fC fdC ["_law_thing_here"] (spCnt 9)) :
    FnOk P w K mg base CX0 11 f fd ["_law_thing_here"] spGood := by
  refine F.ok scGood (fun vs H Q E h => ?_) (fun cdv A outer s H vs Q E hr h => ?_)
  · obtain ⟨t, v, rfl, _⟩ := h
    rfl
  · obtain ⟨t, v, rfl, ht, hs, hb, hd, q⟩ := h
    refine ⟨_, pss_one (ps_ret (pe_and (pe_call GV (hr.mono (by decide)) rfl gV FV.kp bV .nil pass0 (pa_cons (pv 0) (pa_cons pe_int pa_nil)))
      (pe_one (pe_cmpR op_le (pe_call GC hr rfl gC FC.kp bC .nil pass0 (pa_cons (pv 0) pa_nil)) pe_int (nomark _))))), ?_⟩
    refine ⟨_, rfl, t, v, rfl, ht, hs, hb, fun H' sm => ⟨_, rfl, ?_⟩⟩
    have fin : ∀ (b : Bool) (G : Hp), good t = b → Same H G → Q (.bl b) G := fun b G e sm => e ▸ q G sm
    cases hl : lval 5 t with
    | false => exact iteF (fin _ _ (by simp only [good]; rw [hl]; rfl) sm)
    | true =>
      refine iteT ⟨_, rfl, t, v, rfl, Th.same sm _ _ ht, hd, fun G s2 => ⟨_, _, rfl, rfl, ?_⟩⟩
      exact fin _ _ (by simp only [good]; rw [hl, Bool.true_and]) (sm.trans s2)
end
end My
/-! a text so many times -/
namespace LT
open PySem PySem.Spec PyProof.Rows L2
def rRepS : R2 := fun x y H Q => ∃ (z : Str) (k : Int) (r : Str), x = .str z ∧ y = .int k ∧ 2 ≤ k ∧ k ≤ 1000 ∧ 0 < z.length ∧ z.length ≤ 1000 ∧ r = ⟨(List.replicate k.toNat z.cps).foldl (· ++ ·) #[]⟩ ∧ r.length ≤ 1000 ∧ Q (.str r) H
theorem op_repS {X : Cx} : OpR X (binaryOp .Mult) rRepS := by
  intro pins s σ H x y v u Q I rx ry h
  obtain ⟨z, k, r, rfl, rfl, h1, h2, z0, hz, rfl, hr, q⟩ := h
  obtain ⟨t, rfl⟩ := rx
  obtain ⟨t', rfl⟩ := ry
  have e1 : ¬ k < 1 := by omega
  have e2 : (k == 1 || z.length == 0) = false := by
    rw [Bool.or_eq_false_iff, beq_eq_false_iff_ne, beq_eq_false_iff_ne]
    exact ⟨by omega, by omega⟩
  refine PySem.P.mul_str ?_ (fun _ _ => ?_) (fun _ _ => ?_) ?_
  · rw [Bool.or_eq_false_iff]
    exact ⟨decide_eq_false (by omega), decide_eq_false (by omega)⟩
  · have h3 : (1000 : Int) ≤ (2 ^ 63 - 1) / k := (Int.le_ediv_iff_mul_le (by omega)).mpr (by omega)
    omega
  · have h3 : z.length * k.toNat ≤ 1000 * 1000 := Nat.mul_le_mul hz (by omega)
    have h4 : ¬ z.length * k.toNat > sizeLine := by
      rw [sizeLine_eq]
      omega
    exact decide_eq_false h4
  · rw [if_neg e1, e2]
    refine ⟨?_, .str _, H, I.tok _, ⟨_, rfl⟩, q⟩
    rw [sizeLine_eq]
    omega
end LT
namespace My
open PySem PySem.Spec PyProof.Rows L2
/-! ### _law_thing -/
theorem scThing : FnScope ["_law_pool_here", "_law_depth", "_law_choice", "_law_many", "_law_turn"] ["_law_pool_here", "_law_depth"] (defScope sThing) := ⟨rfl, rfl, rfl, by decide +kernel, rfl, by decide +kernel, by decide +kernel⟩
structure TxtT (mg : Str → Option Value) : Prop where
  tuple : mg "tuple" = none
  range : mg "range" = none
  int : mg "int" = none
def GT (n : Nat) (t : T) : Prop := shortA t ∧ boundA t ∧ dep t ≤ n + 1
theorem GT.tup {n : Nat} {ts : List T} (h : ∀ t ∈ ts, GT n t) : GT (n + 1) (.tup ts) := by
  refine ⟨?_, ?_, ?_⟩
  · simp only [shortA]
    exact shortAll_mem.mpr fun t ht => (h t ht).1
  · simp only [boundA]
    exact boundAll_mem.mpr fun t ht => (h t ht).2.1
  · simp only [dep]
    have : depAll ts ≤ n + 1 := by
      induction ts with
      | nil => exact Nat.zero_le _
      | cons t ts ih =>
        simp only [depAll]
        exact Nat.max_le.mpr ⟨(h t List.mem_cons_self).2.2, ih fun u hu => h u (List.mem_cons_of_mem _ hu)⟩
    omega
def intsL : List T := [.int 0, .int (-5), .int (10 ^ 60 - 1), .int (10 ^ 60), .int (-10 ^ 60), .int (1 - 10 ^ 60)]
def texts : List T := [.str "", .str "a", .str "x7", .str "7", .str "A", .str "a b", .str "aaaaaaaaaaaa", .str "aaaaaaaaaaaaa", .str "bbbbbbbbbbbbbbbbbbbbbbbbbbbbbbbbbbbbbbbbbbbbbbbbbbbbbbbbbbbb", .str "bbbbbbbbbbbbbbbbbbbbbbbbbbbbbbbbbbbbbbbbbbbbbbbbbbbbbbbbbbbbb", .str "\n"]
def mixed : List T := [.non, .bl true, .bl false, .tup [], .oth false, .oth true, .tup [.int 1, .bl true]]
theorem gt_intsL {n : Nat} : ∀ t ∈ intsL, GT n t := by
  intro t h
  simp only [intsL, List.mem_cons, List.not_mem_nil, or_false] at h
  rcases h with rfl | rfl | rfl | rfl | rfl | rfl <;> exact ⟨True.intro, by simp only [boundA]; decide, Nat.zero_le _⟩
theorem gt_texts {n : Nat} : ∀ t ∈ texts, GT n t := by
  intro t h
  simp only [texts, List.mem_cons, List.not_mem_nil, or_false] at h
  rcases h with rfl | rfl | rfl | rfl | rfl | rfl | rfl | rfl | rfl | rfl | rfl <;> exact ⟨by simp only [shortA]; decide +kernel, True.intro, Nat.zero_le _⟩
theorem gt_mixed {n : Nat} : ∀ t ∈ mixed, GT n t := by
  intro t h
  simp only [mixed, List.mem_cons, List.not_mem_nil, or_false] at h
  rcases h with rfl | rfl | rfl | rfl | rfl | rfl | rfl <;> refine ⟨by simp [shortA, shortAll], by simp [boundA, boundAll], by simp [dep, depAll]⟩
theorem pool_upd {H : Hp} {p : Addr} {g m : Int} (h1 : 0 ≤ g) (h2 : 0 ≤ m) (h3 : m < 2147483647) : PoolAt (upd H p (.lst [.int g, .int m])) p := ⟨g, m, upd_same, h1, h2, h3⟩
def spThing : Nat → Sp
  | 0 => fun vs _ _ _ => vs.length = 2 ∧ False
  | n + 1 => fun vs H Q _ => ∃ (p : Addr) (d : Int), vs = [.ref p, .int d] ∧ d ≤ (n : Int) ∧ -5 ≤ d ∧ PoolAt H p ∧ ∀ (t : T) (v : V) (H' : Hp), GT n t → Th H' t v → Off p H H' → PoolAt H' p → Q v H'
section
variable {P : Program} {w : World} {K : PySem.W.Frag} {mg : Str → Option Value} {base : Heap}
theorem ok_thing {f fD : Addr} {fd fdD : FuncData} (F : Fun K "_law_thing" "_law_thing" sThing f fd) (bF : Binds K fd ["_law_pool_here", "_law_depth"] []) (gF : mg "_law_thing" = some (.ref f))
    (FD : Fun K "_law_draw" "_law_draw" sDraw fD fdD) (bD : Binds K fdD ["_law_pool_here", "_law_many"] []) (gD : mg "_law_draw" = some (.ref fD)) (TT : TxtT mg) :
    ∀ n : Nat, n ≤ 100 → FnOk P w K mg base CX0 (n + 2) f fd ["_law_pool_here", "_law_depth"] (spThing n) := by
  have GD : FnOk P w K mg base CX0 1 fD fdD ["_law_pool_here", "_law_many"] spDraw := ok_draw FD
  intro n
  induction n with
  | zero => exact fun _ => F.ok scThing (fun vs H Q E h => h.1) (fun cdv A outer s H vs Q E hr h => h.2.elim)
  | succ n GR0 =>
    intro hn
    have GR := GR0 (by omega)
    refine F.ok scThing (fun vs H Q E h => ?_) (fun cdv A outer s H vs Q E hr h => ?_)
    · obtain ⟨p, d, rfl, _⟩ := h
      rfl
    · obtain ⟨p, d, rfl, hd, hd5, hp, q⟩ := h
      have ND := scThing.nd
      have hr1 : Room 1 _ := hr.mono (by omega)
      refine ⟨_, pss_cons (ps_set (i := 2) ND rfl (.inl rfl) (pe_call GD hr1 rfl gD FD.kp bD .nil pass0 (pa_cons (pv 0) (pa_cons (pe_ifExp (pt_cmpR op_gt (pv 1) pe_int (nomark _)) pe_int pe_int) pa_nil))))
        (pss_cons (ps_if (pt_cmpR op_lt (pv 2) pe_int (nomark _)) (pss_one (ps_ret (pe_ix ix_list
          (pe_lst (pa_cons pe_int (pa_cons (pe_un un_neg pe_int) (pa_cons (pe_op op_sub (pe_op op_pow pe_int pe_int) pe_int) (pa_cons (pe_op op_pow pe_int pe_int) (pa_cons (pe_un un_neg (pe_op op_pow pe_int pe_int)) (pa_cons (pe_op op_sub pe_int (pe_op op_pow pe_int pe_int)) pa_nil)))))))
          (pe_call GD hr1 rfl gD FD.kp bD .nil pass0 (pa_cons (pv 0) (pa_cons pe_int pa_nil))) (fun _ _ => rfl)))) pss_nil)
        (pss_cons (ps_if (pt_cmpR op_lt (pv 2) pe_int (nomark _)) (pss_one (ps_ret (pe_ix ix_list
          (pe_lst (pa_cons pe_str (pa_cons pe_str (pa_cons pe_str (pa_cons pe_str (pa_cons pe_str (pa_cons pe_str (pa_cons (pe_op LT.op_repS pe_str pe_int) (pa_cons (pe_op LT.op_repS pe_str pe_int) (pa_cons (pe_op LT.op_repS pe_str pe_int) (pa_cons (pe_op LT.op_repS pe_str pe_int) (pa_cons pe_str pa_nil))))))))))))
          (pe_call GD hr1 rfl gD FD.kp bD .nil pass0 (pa_cons (pv 0) (pa_cons pe_int pa_nil))) (fun _ _ => rfl)))) pss_nil)
        (pss_cons (ps_if (pt_cmpR op_lt (pv 2) pe_int (nomark _)) (pss_one (ps_ret (pe_ix ix_list
          (pe_lst (pa_cons pe_non (pa_cons pe_bl (pa_cons pe_bl (pa_cons (pe_tup pa_nil) (pa_cons (pe_lst pa_nil) (pa_cons pe_dnewK (pa_cons (pe_tup (pa_cons pe_int (pa_cons pe_bl pa_nil))) pa_nil))))))))
          (pe_call GD hr1 rfl gD FD.kp bD .nil pass0 (pa_cons (pv 0) (pa_cons pe_int pa_nil))) (fun _ _ => rfl)))) pss_nil)
        (pss_cons (ps_set (i := 3) ND rfl (.inr rfl) (pe_ix ix_list (pe_lst (pa_cons pe_int (pa_cons pe_int (pa_cons pe_int (pa_cons pe_int (pa_cons pe_int (pa_cons pe_int pa_nil)))))))
          (pe_call GD hr1 rfl gD FD.kp bD .nil pass0 (pa_cons (pv 0) (pa_cons pe_int pa_nil))) (fun _ _ => rfl)))
        (pss_one (ps_ret (pe_callTy call_tuple_of (by rfl) TT.tuple PyProof.Rows.boot_tuple (pa_cons
            (pe_lc (own := [("_law_turn", 4)]) (g := gName 4) (tt := tYes) rfl ND (pi_range1 rfl TT.range (pa_cons (pv 3) pa_nil))
              (blkOk_by (own := [("_law_turn", 4)]) (N := ["_law_pool_here", "_law_depth", "_law_choice", "_law_many", "_law_turn"]) (sc := defScope sThing) (by decide +kernel)) (fun _ _ _ _ _ => pg_name (i := 4) ND rfl (Or.inl rfl)) (fun _ _ _ _ _ => pts_nil)
              (fun _ _ _ _ _ => pe_call GR hr rfl gF F.kp bF .nil pass0 (pa_cons (pv 0) (pa_cons (pe_op op_sub (pe_op op_sub (pv 1) pe_int) (pe_op op_mul (pe_callTy call_int1 (by rfl) TT.int (by decide +kernel) (pa_cons (pe_cmpR op_gt (pv 3) pe_int (nomark _)) pa_nil)) (pv 1))) pa_nil)))) pa_nil)))))))), ?_⟩
      have draw9 : ∀ (Qc : VK) (E' : XK), (∀ r g m : Int, 0 ≤ r → r < 9 → (d ≤ 0 → r < 6) → 0 ≤ g → 0 ≤ m → m < 2147483647 → Qc (.int r) (upd H p (.lst [.int g, .int m]))) →
          (if decide (0 < d) = true then spDraw [.ref p, .int 9] H Qc E' else spDraw [.ref p, .int 6] H Qc E') := by
        intro Qc E' h
        refine ite2 (fun hc => ?_) (fun hc => ?_)
        · have := of_decide_eq_true hc
          exact ⟨p, 9, rfl, by decide, by decide, hp, fun r g m h0 h9 => h r g m h0 h9 (by omega)⟩
        · exact ⟨p, 6, rfl, by decide, by decide, hp, fun r g m h0 h9 => h r g m h0 (by omega) (by omega)⟩
      refine ⟨_, rfl, _, rfl, _, _, rfl, rfl, _, rfl, ?_⟩
      dsimp only [tC, tNil]
      refine draw9 _ _ fun r g m h0 h9 h6 hg hm hm2 => ?_
      have hp1 : PoolAt (upd H p (.lst [V.int g, V.int m])) p := pool_upd hg hm hm2
      have o1 : Off p H (upd H p (.lst [V.int g, V.int m])) := Off.upd
      generalize upd H p (.lst [V.int g, V.int m]) = H1 at hp1 o1
      -- the leaf's choice
      have pick : ∀ (Hf : Hp) (ts : List T) (vs : List V) (n0 : Int), (∀ t ∈ ts, GT n t) → n0 = ts.length → ThAll Hf ts vs → Off p H Hf → PoolAt Hf p → ∀ r : Int, 0 ≤ r → r < n0 → ∃ v, atI vs r = some v ∧ Q v Hf := by
        intro Hf ts vs n0 hgt hn0 hth off hpf r h0 hr0
        obtain ⟨t, v, e1, e2, h3⟩ := thAll_get (i := r.toNat) hth (by omega)
        exact ⟨v, at_of (show r = ((r.toNat : Nat) : Int) by omega) e2, q t v Hf (hgt t (List.mem_of_getElem? e1)) h3 off hpf⟩
      refine ⟨_, rfl, _, _, rfl, rfl, _, rfl, ?_⟩
      refine ite2 (fun hc => ?_) (fun hc => ?_)
      · refine ⟨_, rfl, _, _, rfl, rfl, ⟨by decide, by decide, by decide⟩, _, _, rfl, rfl, _, _, rfl, rfl, ⟨by decide, by decide, by decide⟩, _, _, rfl, rfl, ⟨by decide, by decide, by decide⟩, _, rfl, _, _, rfl, rfl, ⟨by decide, by decide, by decide⟩, _, _, rfl, rfl, ?_⟩
        refine ⟨by show 6 ≤ sizeLine; decide, fun l hl => ?_⟩
        have hp2 := hp1.same (same_upd (o := .lst [V.int 0, .int (-5), .int (10 ^ 60 - 1), .int (10 ^ 60), .int (-10 ^ 60), .int (1 - 10 ^ 60)]) hl)
        have npl : l ≠ p := by
          obtain ⟨_, _, ep, _⟩ := hp1
          exact (ne_of_none ep hl).symm
        have off2 := o1.trans (Off.of_same (same_upd (o := .lst [V.int 0, .int (-5), .int (10 ^ 60 - 1), .int (10 ^ 60), .int (-10 ^ 60), .int (1 - 10 ^ 60)]) hl))
        refine ⟨_, rfl, p, 6, rfl, by decide, by decide, hp2, fun r g m h0 h12 hg hm hm2 => ?_⟩
        obtain ⟨v, hv, hq⟩ := pick (upd (upd H1 l (.lst [V.int 0, .int (-5), .int (10 ^ 60 - 1), .int (10 ^ 60), .int (-10 ^ 60), .int (1 - 10 ^ 60)])) p (.lst [.int g, .int m])) intsL [V.int 0, .int (-5), .int (10 ^ 60 - 1), .int (10 ^ 60), .int (-10 ^ 60), .int (1 - 10 ^ 60)] 6 gt_intsL rfl (by simp [intsL, ThAll, Th]) (off2.trans Off.upd) (pool_upd hg hm hm2) r h0 h12
        refine ⟨l, _, r, v, rfl, rfl, .inl (.inl ?_), hv, hq⟩
        rw [upd_ne npl, upd_same]
        rfl
      refine ⟨_, rfl, _, _, rfl, rfl, _, rfl, ?_⟩
      refine ite2 (fun hc2 => ?_) (fun hc2 => ?_)
      · refine ⟨_, 12, "aaaaaaaaaaaa", rfl, rfl, by decide, by decide, by decide, by decide, by decide +kernel, by decide +kernel, _, 13, "aaaaaaaaaaaaa", rfl, rfl, by decide, by decide, by decide, by decide, by decide +kernel, by decide +kernel, _, 60, "bbbbbbbbbbbbbbbbbbbbbbbbbbbbbbbbbbbbbbbbbbbbbbbbbbbbbbbbbbbb", rfl, rfl, by decide, by decide, by decide, by decide, by decide +kernel, by decide +kernel, _, 61, "bbbbbbbbbbbbbbbbbbbbbbbbbbbbbbbbbbbbbbbbbbbbbbbbbbbbbbbbbbbbb", rfl, rfl, by decide, by decide, by decide, by decide, by decide +kernel, by decide +kernel, ?_⟩
        refine ⟨by show 11 ≤ sizeLine; decide, fun l hl => ?_⟩
        have hp2 := hp1.same (same_upd (o := .lst [V.str "", .str "a", .str "x7", .str "7", .str "A", .str "a b", .str "aaaaaaaaaaaa", .str "aaaaaaaaaaaaa", .str "bbbbbbbbbbbbbbbbbbbbbbbbbbbbbbbbbbbbbbbbbbbbbbbbbbbbbbbbbbbb", .str "bbbbbbbbbbbbbbbbbbbbbbbbbbbbbbbbbbbbbbbbbbbbbbbbbbbbbbbbbbbbb", .str "\n"]) hl)
        have npl : l ≠ p := by
          obtain ⟨_, _, ep, _⟩ := hp1
          exact (ne_of_none ep hl).symm
        have off2 := o1.trans (Off.of_same (same_upd (o := .lst [V.str "", .str "a", .str "x7", .str "7", .str "A", .str "a b", .str "aaaaaaaaaaaa", .str "aaaaaaaaaaaaa", .str "bbbbbbbbbbbbbbbbbbbbbbbbbbbbbbbbbbbbbbbbbbbbbbbbbbbbbbbbbbbb", .str "bbbbbbbbbbbbbbbbbbbbbbbbbbbbbbbbbbbbbbbbbbbbbbbbbbbbbbbbbbbbb", .str "\n"]) hl))
        refine ⟨_, rfl, p, 11, rfl, by decide, by decide, hp2, fun r g m h0 h12 hg hm hm2 => ?_⟩
        obtain ⟨v, hv, hq⟩ := pick (upd (upd H1 l (.lst [V.str "", .str "a", .str "x7", .str "7", .str "A", .str "a b", .str "aaaaaaaaaaaa", .str "aaaaaaaaaaaaa", .str "bbbbbbbbbbbbbbbbbbbbbbbbbbbbbbbbbbbbbbbbbbbbbbbbbbbbbbbbbbbb", .str "bbbbbbbbbbbbbbbbbbbbbbbbbbbbbbbbbbbbbbbbbbbbbbbbbbbbbbbbbbbbb", .str "\n"])) p (.lst [.int g, .int m])) texts [V.str "", .str "a", .str "x7", .str "7", .str "A", .str "a b", .str "aaaaaaaaaaaa", .str "aaaaaaaaaaaaa", .str "bbbbbbbbbbbbbbbbbbbbbbbbbbbbbbbbbbbbbbbbbbbbbbbbbbbbbbbbbbbb", .str "bbbbbbbbbbbbbbbbbbbbbbbbbbbbbbbbbbbbbbbbbbbbbbbbbbbbbbbbbbbbb", .str "\n"] 11 gt_texts rfl (by simp [texts, ThAll, Th]) (off2.trans Off.upd) (pool_upd hg hm hm2) r h0 h12
        refine ⟨l, _, r, v, rfl, rfl, .inl (.inl ?_), hv, hq⟩
        rw [upd_ne npl, upd_same]
      refine ⟨_, rfl, _, _, rfl, rfl, _, rfl, ?_⟩
      refine ite2 (fun hc3 => ?_) (fun hc3 => ?_)
      · refine ⟨Nat.zero_le _, fun e0 n0 => ⟨Nat.zero_le _, fun e1 n1 => fun e2 n2 => ⟨by show 2 ≤ sizeLine; decide, fun e3 n3 => ?_⟩⟩⟩
        refine ⟨by show 7 ≤ sizeLine; decide, fun l hl => ?_⟩
        have s0 : Same H1 (upd H1 e0 (.tup [])) := same_upd n0
        generalize hA : upd H1 e0 (.tup []) = Ha at s0 n1 n2 n3 hl
        have a0 : Ha e0 = some (.tup []) := by rw [← hA]; exact upd_same
        clear hA
        have s1 : Same Ha (upd Ha e1 (.lst [])) := same_upd n1
        generalize hB : upd Ha e1 (.lst []) = Hb at s1 n2 n3 hl
        have b1 : Hb e1 = some (.lst []) := by rw [← hB]; exact upd_same
        clear hB
        have s2 : Same Hb (upd Hb e2 (.dK [])) := same_upd n2
        generalize hC : upd Hb e2 (.dK []) = Hc at s2 n3 hl
        have c2 : Hc e2 = some (.dK []) := by rw [← hC]; exact upd_same
        clear hC
        have s3 : Same Hc (upd Hc e3 (.tup [V.int 1, .bl true])) := same_upd n3
        generalize hD : upd Hc e3 (.tup [V.int 1, .bl true]) = Hd at s3 hl
        have d3 : Hd e3 = some (.tup [V.int 1, .bl true]) := by rw [← hD]; exact upd_same
        clear hD
        have s4 : Same Hd (upd Hd l (.lst [V.non, .bl true, .bl false, .ref e0, .ref e1, .ref e2, .ref e3])) := same_upd hl
        generalize hE : upd Hd l (.lst [V.non, .bl true, .bl false, .ref e0, .ref e1, .ref e2, .ref e3]) = He at s4
        have l4 : He l = some (.lst [V.non, .bl true, .bl false, .ref e0, .ref e1, .ref e2, .ref e3]) := by rw [← hE]; exact upd_same
        clear hE
        have sE : Same H1 He := (((s0.trans s1).trans s2).trans s3).trans s4
        have hpE : PoolAt He p := hp1.same sE
        have npl : l ≠ p := by
          obtain ⟨_, _, ep, _⟩ := hp1
          exact (ne_of_none ((((s0.trans s1).trans s2).trans s3) _ _ ep) hl).symm
        have np0 : e0 ≠ p := by
          obtain ⟨_, _, ep, _⟩ := hp1
          exact (ne_of_none ep n0).symm
        have np1 : e1 ≠ p := by
          obtain ⟨_, _, ep, _⟩ := hp1
          exact (ne_of_none (s0 _ _ ep) n1).symm
        have np2 : e2 ≠ p := by
          obtain ⟨_, _, ep, _⟩ := hp1
          exact (ne_of_none ((s0.trans s1) _ _ ep) n2).symm
        have np3 : e3 ≠ p := by
          obtain ⟨_, _, ep, _⟩ := hp1
          exact (ne_of_none (((s0.trans s1).trans s2) _ _ ep) n3).symm
        have off2 : Off p H He := o1.trans (Off.of_same sE)
        refine ⟨_, rfl, p, 7, rfl, by decide, by decide, hpE, fun r g m h0 h12 hg hm hm2 => ?_⟩
        have oE : Off p He (upd He p (.lst [.int g, .int m])) := Off.upd
        obtain ⟨v, hv, hq⟩ := pick (upd He p (.lst [.int g, .int m])) mixed [V.non, .bl true, .bl false, .ref e0, .ref e1, .ref e2, .ref e3] 7 gt_mixed rfl (by
          simp only [mixed, ThAll, Th]
          refine ⟨_, _, rfl, rfl, _, _, rfl, rfl, _, _, rfl, rfl, _, _, rfl, ⟨e0, [], rfl, oE _ _ np0 (s4 _ _ (s3 _ _ (s2 _ _ (s1 _ _ a0)))), by decide, rfl⟩, _, _, rfl, ⟨e1, rfl, ?_⟩, _, _, rfl, ⟨e2, rfl, ?_⟩, _, _, rfl, ⟨e3, _, rfl, oE _ _ np3 (s4 _ _ d3), by decide, _, _, rfl, rfl, _, _, rfl, rfl, rfl⟩, rfl⟩
          · rw [if_neg Bool.false_ne_true]
            exact ⟨[], oE _ _ np1 (s4 _ _ (s3 _ _ (s2 _ _ b1)))⟩
          · rw [if_pos True.intro]
            exact oE _ _ np2 (s4 _ _ (s3 _ _ c2))) (off2.trans oE) (pool_upd hg hm hm2) r h0 h12
        refine ⟨l, _, r, v, rfl, rfl, .inl (.inl ?_), hv, hq⟩
        rw [upd_ne npl, l4]
      have hr6 : 6 ≤ r := by
        have := of_decide_eq_false (Bool.eq_false_iff.mpr hc3)
        omega
      have hd0 : 0 < d := by
        by_cases h : 0 < d
        · exact h
        · have := h6 (by omega)
          omega
      obtain ⟨k, rfl⟩ : ∃ k, n = k + 1 := ⟨n - 1, by omega⟩
      refine ⟨by show 6 ≤ sizeLine; decide, fun l hl => ?_⟩
      have hp2 := hp1.same (same_upd (o := .lst [V.int 0, .int 1, .int 2, .int 3, .int 50, .int 51]) hl)
      have npl : l ≠ p := by
        obtain ⟨_, _, ep, _⟩ := hp1
        exact (ne_of_none ep hl).symm
      have off2 := o1.trans (Off.of_same (same_upd (o := .lst [V.int 0, .int 1, .int 2, .int 3, .int 50, .int 51]) hl))
      refine ⟨_, rfl, p, 6, rfl, by decide, by decide, hp2, fun r' g m h0' h6' hg hm hm2 => ?_⟩
      obtain ⟨many, hmany, hm51⟩ : ∃ many : Nat, atI [V.int 0, .int 1, .int 2, .int 3, .int 50, .int 51] r' = some (.int (many : Int)) ∧ many ≤ 51 := by
        rcases (by omega : r' = 0 ∨ r' = 1 ∨ r' = 2 ∨ r' = 3 ∨ r' = 4 ∨ r' = 5) with rfl | rfl | rfl | rfl | rfl | rfl
        · exact ⟨0, rfl, by decide⟩
        · exact ⟨1, rfl, by decide⟩
        · exact ⟨2, rfl, by decide⟩
        · exact ⟨3, rfl, by decide⟩
        · exact ⟨50, rfl, by decide⟩
        · exact ⟨51, rfl, by decide⟩
      refine ⟨l, _, r', _, rfl, rfl, .inl (.inl (by rw [upd_ne npl, upd_same])), hmany, ?_⟩
      have hp3 : PoolAt (upd (upd H1 l (.lst [V.int 0, .int 1, .int 2, .int 3, .int 50, .int 51])) p (.lst [V.int g, V.int m])) p := pool_upd hg hm hm2
      have o3 : Off p H (upd (upd H1 l (.lst [V.int 0, .int 1, .int 2, .int 3, .int 50, .int 51])) p (.lst [V.int g, V.int m])) := off2.trans Off.upd
      generalize upd (upd H1 l (.lst [V.int 0, .int 1, .int 2, .int 3, .int 50, .int 51])) p (.lst [V.int g, V.int m]) = H2 at hp3 o3
      refine ⟨_, rfl, many, rfl, by omega, by omega, fun D hD => ?_⟩
      have nDp : D ≠ p := by
        obtain ⟨_, _, ep, _⟩ := hp3
        exact (ne_of_none ep hD).symm
      refine lc_range (lo := 0) (n := ((many : Nat) : Int).toNat) (fun i H' => ∃ (acc : List V) (ts : List T), H' D = some (.lst acc) ∧ ThAll H' ts acc ∧ ts.length = i ∧ (∀ t ∈ ts, GT k t) ∧ Off p H H' ∧ PoolAt H' p)
        ⟨[], [], upd_same, by simp [ThAll], rfl, fun t ht => (nomatch ht), o3.trans (Off.of_same (same_upd hD)), hp3.same (same_upd hD)⟩ (fun i H' hi hPv => ?_) (fun H' hPv => ?_)
      · obtain ⟨acc, ts, hDl, hth, hts, hgd, off, hpp⟩ := hPv
        rw [Int.toNat_natCast] at hi
        refine ⟨rfl, tYes_if ?_⟩
        refine ⟨_, rfl, _, rfl, _, _, rfl, rfl, _, rfl, _, _, rfl, rfl, .inr ⟨_, rfl, _, rfl, _, _, rfl, rfl, .inl ?_, _, _, rfl, rfl, p, _, rfl, ?_, ?_, hpp, fun t v H3 ht hv o4 hp4 => ?_⟩⟩
        · split <;> exact ⟨by decide, by decide⟩
        · split <;> omega
        · split <;> omega
        have hD3 : H3 D = some (.lst acc) := o4 _ _ nDp hDl
        have ml : Mild H' H3 := Mild.off o4 hpp hp4
        have hacc := thAll_len hth
        refine ⟨acc, hD3, small1000 (by omega), acc ++ [v], ts ++ [t], upd_same, ?_, by rw [List.length_append, List.length_singleton, hts], ?_, ?_, ?_⟩
        · exact (Mild.updL hD3).thAll (thAll_snoc hv (ml.thAll hth))
        · intro u hu
          rcases List.mem_append.mp hu with hu | hu
          · exact hgd u hu
          · rw [List.mem_singleton.mp hu]
            exact ht
        · intro b o nb eb
          rw [upd_ne (ne_of_none (o3 b o nb eb) hD)]
          exact (off.trans o4) b o nb eb
        · obtain ⟨g3, m3, e3, r3⟩ := hp4
          exact ⟨g3, m3, by rw [upd_ne nDp.symm]; exact e3, r3⟩
      · obtain ⟨acc, ts, hDl, hth, hts, hgd, off, hpp⟩ := hPv
        rw [Int.toNat_natCast] at hts
        have hacc := thAll_len hth
        refine ⟨D, acc, rfl, .inl ⟨.inl (.inl hDl), fun l nl => ?_⟩⟩
        refine q (.tup ts) _ _ (.tup hgd) ?_ (off.trans (Off.of_same (same_upd nl))) (hpp.same (same_upd nl))
        simp only [Th]
        exact ⟨l, acc, rfl, upd_same, by omega, ThAll.same (same_upd nl) _ _ hth⟩
end
end My
namespace My
open PySem PySem.Spec PyProof.Rows L2
/-! ### what the program says is what the law says: texts, keys, names -/
theorem offS_nil {x cs : Str} : (offS x cs).isEmpty = true ↔ ∀ k, k < x.length → cs.cps.contains (x.cps.getD k 0) = true := by
  unfold offS
  rw [List.isEmpty_iff, List.filter_eq_nil_iff]
  constructor
  · intro h k hk
    have hk' : k < x.cps.size := hk
    have e : x.cps.getD k 0 = x.cps[k] := by simp [Array.getD, hk']
    have := h x.cps[k] (by simp)
    rw [e]
    simpa using this
  · intro h c hc
    obtain ⟨k, hk, rfl⟩ := List.mem_iff_getElem.mp hc
    have hk' : k < x.cps.size := by simpa using hk
    have := h k hk'
    have e : x.cps.getD k 0 = x.cps[k] := by simp [Array.getD, hk']
    rw [e] at this
    simpa using this
theorem onlyS_eq (x cs : Str) : onlyS x cs = (offS x cs).isEmpty := by
  unfold onlyS
  have hs : Txt.stripChars x cs = Builtin.Str.strSub x (stripLo cs.cps.contains true x) (stripHi cs.cps.contains true x (stripLo cs.cps.contains true x)) := PyProof.Rows.stripBy_eq cs.cps.contains true true x
  obtain ⟨l1, l2, l3⟩ := PyProof.Rows.lo_facts cs.cps.contains x
  obtain ⟨h1, h2, h3, h4⟩ := PyProof.Rows.hi_facts cs.cps.contains x _ l1
  rw [hs]
  generalize stripLo cs.cps.contains true x = lo at *
  generalize stripHi cs.cps.contains true x lo = hi at *
  by_cases h : (offS x cs).isEmpty = true
  · rw [h]
    rw [offS_nil] at h
    have e : lo = x.length := by
      rcases l3 with e | e
      · exact e
      · by_cases hl : lo < x.length
        · rw [h lo hl] at e
          exact absurd e (by decide)
        · omega
    have e2 : hi = x.length := by omega
    refine decide_eq_true ?_
    show Str.mk (x.cps.extract lo hi) = _
    have e3 : x.cps.extract lo hi = #[] := by
      apply Array.eq_empty_of_size_eq_zero
      rw [Array.size_extract]
      omega
    rw [e3]
    rfl
  · rw [Bool.eq_false_iff.mpr h]
    refine decide_eq_false fun z => h (offS_nil.mpr ?_)
    have z2 : (x.cps.extract lo hi).size = 0 := by
      have := congrArg (fun y : Str => y.cps.size) z
      exact this
    rw [Array.size_extract] at z2
    have hx : x.cps.size = x.length := rfl
    have e : hi = lo := by omega
    intro k hk
    by_cases hkl : k < lo
    · exact l2 k hkl
    · exact h3 k (by omega) hk
theorem key_eq (t : T) : isKey t = ltext t 1 := by
  cases t with
  | str x =>
    simp only [isKey, ltext, textS]
    rw [onlyS_eq]
    cases (offS x ldS).isEmpty with
    | false => simp
    | true =>
      rw [Bool.and_true, Bool.and_true]
      by_cases h1 : (60 : Int) < (x.length : Int)
      · rw [decide_eq_true h1, decide_eq_false (show ¬ ((x.length : Int) ≤ 60) by omega)]
        simp
      · rw [decide_eq_false h1, decide_eq_true (show (x.length : Int) ≤ 60 by omega)]
        simp
        omega
  | _ => rfl
theorem text_eq (t : T) : isText t = ltext t 0 := by
  cases t with
  | str x =>
    simp only [isText, ltext, textS]
    rw [onlyS_eq]
    cases (offS x ldS).isEmpty with
    | false => simp
    | true =>
      by_cases h1 : (60 : Int) < (x.length : Int)
      · rw [decide_eq_true h1, decide_eq_false (show ¬ ((x.length : Int) ≤ 60) by omega)]
        simp
      · rw [decide_eq_false h1, decide_eq_true (show (x.length : Int) ≤ 60 by omega)]
        simp
  | _ => rfl
theorem lt_ld {c : Nat} (h : c ∈ ltS.cps.toList) : c ∈ ldS.cps.toList := by
  have : ∀ c ∈ ltS.cps.toList, c ∈ ldS.cps.toList := by decide +kernel
  exact this c h
theorem name_eq (t : T) : isName t = lname t := by
  cases t with
  | str x =>
    simp only [isName, lname, textS]
    rw [onlyS_eq, onlyS_eq]
    cases h : (offS x ltS).isEmpty with
    | false => simp
    | true =>
      have h2 : (offS x ldS).isEmpty = true := by
        unfold offS at h ⊢
        rw [List.isEmpty_iff, List.filter_eq_nil_iff] at h ⊢
        intro c hc
        have := h c hc
        have h3 : c ∈ ltS.cps.toList := by simpa using this
        simpa using lt_ld h3
      rw [h2]
      rw [Bool.and_true, Bool.and_true, Bool.and_true]
      by_cases h1 : (x.length : Int) ≤ 12
      · rw [decide_eq_true h1, decide_eq_false (show ¬ ((60 : Int) < (x.length : Int)) by omega)]
        simp
        omega
      · rw [decide_eq_false h1]
        simp
  | _ => rfl
theorem plain_eq : ∀ {t : T} {n : Nat}, isTupT t = false → lval n t = isPlain t
  | .int i, n, _ => by
    have e : lval n (.int i) = decide ((digs i : Int) ≤ 60) := by cases n <;> rfl
    rw [e]
    simp only [isPlain]
    rw [← Bool.decide_and]
    apply decide_eq_decide.mpr
    have := digs_iff i
    constructor
    · intro h
      have h2 := this.mp (by omega)
      constructor <;> omega
    · intro ⟨h1, h2⟩
      have := this.mpr (by omega)
      omega
  | .str x, n, _ => by
    have e : lval n (.str x) = ltext (.str x) 0 := by cases n <;> rfl
    rw [e, ← text_eq]
    rfl
  | .non, n, _ => by cases n <;> rfl
  | .bl _, n, _ => by cases n <;> rfl
  | .oth _, n, _ => by cases n <;> rfl
  | .tup _, _, h => by simp [isTupT] at h
end My
namespace My
open PySem PySem.Spec PyProof.Rows L2
/-! ### levels and recursion say the same -/
theorem cntAll_len : ∀ ts : List T, cntAll ts = ts.length + (ts.map cnt).sum
  | [] => rfl
  | t :: ts => by
    simp only [cntAll, List.length_cons, List.map_cons, List.sum_cons]
    rw [cntAll_len ts]
    omega
theorem cnt_tup {l : T} (h : isTupT l = true) : cnt l = (kids l).length + ((kids l).map cnt).sum := by
  rw [← cntAll_len]
  conv => lhs; rw [tup_of h]
  simp only [cnt]
theorem cnt_flat : ∀ {ls : List T}, (∀ l ∈ ls, isTupT l = true) → (ls.map cnt).sum = (ls.map fun l => (kids l).length).sum + (((ls.map kids).flatten).map cnt).sum
  | [], _ => rfl
  | l :: ls, h => by
    simp only [List.map_cons, List.sum_cons, List.flatten_cons, List.map_append, List.sum_append]
    rw [cnt_flat fun u hu => h u (List.mem_cons_of_mem _ hu), cnt_tup (h l List.mem_cons_self)]
    omega
theorem cnt_filter : ∀ ts : List T, (ts.map cnt).sum = ((ts.filter isTupT).map cnt).sum
  | [] => rfl
  | t :: ts => by
    rw [List.map_cons, List.sum_cons, List.filter_cons, cnt_filter ts]
    cases h : isTupT t with
    | true => simp
    | false =>
      rw [cnt_noTup h]
      simp
theorem all_split (p : T → Bool) : ∀ ts : List T, ts.all p = ((ts.filter fun t => !isTupT t).all p && (ts.filter isTupT).all p)
  | [] => rfl
  | t :: ts => by
    rw [List.all_cons, all_split p ts, List.filter_cons, List.filter_cons]
    cases h : isTupT t with
    | true =>
      simp only [Bool.not_true, Bool.false_eq_true, if_false, if_true, List.all_cons]
      cases p t <;> simp
    | false =>
      simp only [Bool.not_false, Bool.false_eq_true, if_false, if_true, List.all_cons]
      cases p t <;> simp
theorem all_plain {n : Nat} {ts : List T} (h : ∀ t ∈ ts, isTupT t = false) : ts.all (lval n) = ts.all isPlain := by
  induction ts with
  | nil => rfl
  | cons t ts ih =>
    rw [List.all_cons, List.all_cons, ih fun u hu => h u (List.mem_cons_of_mem _ hu), plain_eq (h t List.mem_cons_self)]
theorem lval_succ {n : Nat} {l : T} (h : isTupT l = true) : lval (n + 1) l = (!decide (50 < ((kids l).length : Int)) && (kids l).all (lval n)) := by
  conv => lhs; rw [tup_of h]
  rfl
theorem all_kids {n : Nat} : ∀ {ls : List T}, (∀ l ∈ ls, isTupT l = true) → (∀ l ∈ ls, (kids l).length ≤ 50) → ls.all (lval (n + 1)) = ((ls.map kids).flatten).all (lval n)
  | [], _, _ => rfl
  | l :: ls, h, h2 => by
    rw [List.all_cons, List.map_cons, List.flatten_cons, List.all_append, all_kids (fun u hu => h u (List.mem_cons_of_mem _ hu)) fun u hu => h2 u (List.mem_cons_of_mem _ hu), lval_succ (h l List.mem_cons_self)]
    have := h2 l List.mem_cons_self
    rw [decide_eq_false (show ¬ (50 : Int) < ((kids l).length : Int) by omega)]
    simp
theorem le_sum : ∀ {ns : List Nat} {n : Nat}, n ∈ ns → n ≤ ns.sum
  | [], _, h => nomatch h
  | m :: ns, n, h => by
    rw [List.sum_cons]
    rcases List.mem_cons.mp h with rfl | h
    · omega
    · have := le_sum h
      omega
theorem lev_eq : ∀ (n : Nat) (ls : List T) (c : Nat), (∀ l ∈ ls, isTupT l = true) → c ≤ 50 → lev n ls c = (ls.all (lval n) && decide (c + (ls.map cnt).sum ≤ 50))
  | 0, [], c, _, hc => by
    simp only [lev, List.map_nil, List.sum_nil, Nat.add_zero]
    rw [decide_eq_true hc]
    rfl
  | 0, l :: ls, c, h, hc => by
    have e : lval 0 l = false := by
      rw [tup_of (h l List.mem_cons_self)]
      rfl
    rw [List.all_cons, e]
    rfl
  | n + 1, ls, c, h, hc => by
    have hs := cnt_flat h
    simp only [lev]
    by_cases hb : 50 < c + (ls.map fun l => (kids l).length).sum
    · rw [if_pos hb, decide_eq_false (show ¬ c + (ls.map cnt).sum ≤ 50 by omega), Bool.and_false]
    · rw [if_neg hb]
      have h2 : ∀ l ∈ ls, (kids l).length ≤ 50 := fun l hl => by
        have := le_sum (List.mem_map_of_mem (f := fun l => (kids l).length) hl)
        omega
      rw [all_kids h h2, hs]
      generalize (ls.map kids).flatten = I
      rw [all_split (lval n) I, all_plain (ts := I.filter fun t => !isTupT t) (fun t ht => by
        have := (List.mem_filter.mp ht).2
        simpa using this), cnt_filter I]
      rw [lev_eq n (I.filter isTupT) (c + (ls.map fun l => (kids l).length).sum) (fun l hl => (List.mem_filter.mp hl).2) (by omega)]
      rw [← Nat.add_assoc]
      cases (I.filter fun t => !isTupT t).all isPlain <;> simp
theorem val_eq (t : T) : isVal t = good t := by
  unfold isVal good
  cases h : isTupT t with
  | false =>
    rw [cnt_noTup h, plain_eq h]
    simp
  | true =>
    rw [if_pos rfl, lev_eq 5 [t] 0 (fun l hl => by rw [List.mem_singleton.mp hl]; exact h) (by decide)]
    simp only [List.all_cons, List.all_nil, Bool.and_true, List.map_cons, List.map_nil, List.sum_cons, List.sum_nil]
    congr 1
    apply decide_eq_decide.mpr
    omega
end My
namespace My
open PySem PySem.Spec PyProof.Rows L2
/-! ### _law_holds -/
theorem scHolds : FnScope ["_law_thing_here", "_law_pairs"] ["_law_thing_here"] (defScope sHolds) := ⟨rfl, rfl, rfl, by decide +kernel, rfl, by decide +kernel, by decide +kernel⟩
def tyN : T → String
  | .non => "NoneType"
  | .bl _ => "bool"
  | .int _ => "int"
  | .str _ => "str"
  | .tup _ => "tuple"
  | .oth true => "dict"
  | .oth false => "list"
def isD : T → Bool
  | .oth d => d
  | _ => false
def isL : T → Bool
  | .oth d => !d
  | _ => false
theorem th_ty {K : PySem.W.Frag} {H : Hp} {t : T} {v : V} (ht : Th H t v) : TyOf K H v (.type (tyN t)) := by
  cases t with
  | non => unfold Th at ht; subst ht; exact .non
  | bl b => unfold Th at ht; subst ht; exact .bl b
  | int i => unfold Th at ht; subst ht; exact .int i
  | str x => unfold Th at ht; subst ht; exact .str x
  | tup ts => unfold Th at ht; obtain ⟨a, xs, rfl, e, _, _⟩ := ht; exact .tup e
  | oth d =>
    unfold Th at ht
    obtain ⟨a, rfl, e⟩ := ht
    cases d with
    | true => exact .dK e
    | false =>
      obtain ⟨xs, e⟩ := e
      exact .lst e
theorem kit_dict (t : T) : kitB (tyN t) "dict" = some (isD t) := by
  cases t with
  | oth d => cases d <;> (simp only [tyN, isD]; decide +kernel)
  | _ => simp only [tyN, isD]; decide +kernel
theorem kit_list (t : T) : kitB (tyN t) "list" = some (isL t) := by
  cases t with
  | oth d => cases d <;> (simp only [tyN, isL]; decide +kernel)
  | _ => simp only [tyN, isL]; decide +kernel
theorem kit_tuple (t : T) : kitB (tyN t) "tuple" = some (isTupT t) := by
  cases t with
  | oth d => cases d <;> (simp only [tyN, isTupT]; decide +kernel)
  | _ => simp only [tyN, isTupT]; decide +kernel
theorem state_of {t : T} {v : V} {H : Hp} {Q : VK} {E : XK} (ht : Th H t v) (q : ∀ H', Same H H' → Q (.bl (isD t)) H') : spState [v] H Q E := by
  cases t with
  | oth d =>
    cases d with
    | true =>
      unfold Th at ht
      obtain ⟨a, rfl, e⟩ := ht
      rw [if_pos rfl] at e
      exact .inr ⟨a, [], rfl, .inl ⟨e, rfl⟩, by decide, fun p hp => (nomatch hp), q⟩
    | false => exact .inl ⟨_, v, rfl, ht, rfl, q H (Same.refl _)⟩
  | non => exact .inl ⟨_, v, rfl, ht, True.intro, q H (Same.refl _)⟩
  | bl b => exact .inl ⟨_, v, rfl, ht, True.intro, q H (Same.refl _)⟩
  | int i => exact .inl ⟨_, v, rfl, ht, True.intro, q H (Same.refl _)⟩
  | str x => exact .inl ⟨_, v, rfl, ht, True.intro, q H (Same.refl _)⟩
  | tup ts => exact .inl ⟨_, v, rfl, ht, True.intro, q H (Same.refl _)⟩
theorem eqE_of {t : T} {v : V} {H : Hp} {d : Addr} {Q : VK} (ht : Th H t v) (hd : H d = some (.dK [])) (q : Q (.bl (isD t)) H) : LQ.rEqE v (.ref d) H Q := by
  refine ⟨d, rfl, hd, ?_⟩
  cases t with
  | oth d =>
    unfold Th at ht
    obtain ⟨a, rfl, e⟩ := ht
    cases d with
    | true => exact .inr ⟨a, rfl, by rw [if_pos rfl] at e; exact e, q⟩
    | false =>
      obtain ⟨xs, e⟩ := e
      exact .inl ⟨.inr (.inr (.inr (.inr (.inl ⟨a, xs, rfl, e⟩)))), q⟩
  | non => unfold Th at ht; exact .inl ⟨.inl ht, q⟩
  | bl b => unfold Th at ht; exact .inl ⟨.inr (.inl ⟨b, ht⟩), q⟩
  | int i => unfold Th at ht; exact .inl ⟨.inr (.inr (.inl ⟨i, ht⟩)), q⟩
  | str x => unfold Th at ht; exact .inl ⟨.inr (.inr (.inr (.inl ⟨x, ht⟩))), q⟩
  | tup ts => unfold Th at ht; obtain ⟨a, xs, rfl, e, _, _⟩ := ht; exact .inl ⟨.inr (.inr (.inr (.inr (.inr ⟨a, xs, rfl, e⟩)))), q⟩
theorem ne_same {a b : Bool} (h : a = b) : (!decide (V.bl a = V.bl b)) = false := by
  subst h
  simp
theorem same_upd2 {H : Hp} {p : Addr} {o o' : HO} (h : H p = none) : Same H (upd (upd H p o) p o') := fun b x e => by
  have n := ne_of_none e h
  rw [upd_ne n, upd_ne n]
  exact e
def leafy (t : T) : Prop := isL t = false ∧ isD t = false ∧ (isTupT t = true → t = .tup [])
abbrev rdDisp (P : Program) (w : World) : TE := fun σ H Q => LR.tDispR P w [(tVar 0, tC (.int 1))] σ H Q ∨ LR.tDispT (tVar 0) (tC (.int 1)) σ H Q
abbrev rdLast (P : Program) (w : World) : TS := tRet (tOp rEq (tCall spState [] E0 (tCons (rdDisp P w) tNil)) (tCall spLText [] E0 (tCons (tVar 0) (tCons (tC (.int 1)) tNil))))
theorem plain1 : isVal (.int 1) = true := by decide +kernel
theorem mergeL1 (k : Leaf) (v : V) : LD.mergeL [] [(k, v)] = [(k, v)] := rfl
theorem last_reading {P : Program} {w : World} {t : T} {v : V} {H : Hp} {σ : L2.St} {D : Ends} (h0 : σ[0]? = some (some v)) (ht : Th H t v) (hs : shortA t) (hl : leafy t) (q : ∀ H', Same H H' → D.rt (.bl true) H') : rdLast P w D σ H := by
  have tv : ∀ {H1 : Hp} {Q : VK}, Q v H1 → tVar 0 σ H1 Q := fun hq => ⟨v, h0, hq⟩
  have fin : ∀ (b : Bool) (H1 : Hp), Same H H1 → b = isKey t → ∀ (Q : VK), (∀ H2, Same H H2 → Q (.bl true) H2) → tCall spLText [] E0 (tCons (tVar 0) (tCons (tC (.int 1)) tNil)) σ H1 fun y H2 => rEq (.bl b) y H2 Q := by
    intro b H1 s1 hb Q hq
    refine tv ?_
    refine ⟨t, v, 1, rfl, Th.same s1 _ _ ht, hs.short, fun H2 s2 => ⟨rfl, ?_⟩⟩
    rw [hb, key_eq]
    simp only [decide_true]
    exact hq _ (s1.trans s2)
  -- the rows of the display
  have rows1 : ∀ (p : Addr) (H1 : Hp) (x : V) (t' : T) (Q : VK), H1 p = some (LR.drO p [(x, .int 1)]) → Th H1 t' x → short t' → isKey t' = isKey t → Same H H1 → (∀ H2, Same H H2 → Q (.bl (isKey t)) H2) → spState [.ref p] H1 Q E0 := by
    intro p H1 x t' Q hp hx hst hk s1 hq
    refine .inr ⟨p, [(t', .int 1)], rfl, .inr ⟨_, hp, .cons ⟨hx, by simp [Th]⟩ .nil⟩, by simp, fun r hr => ?_, fun H2 s2 => ?_⟩
    · rw [List.mem_singleton.mp hr]
      exact ⟨hst, True.intro⟩
    · simp only [List.all_cons, List.all_nil, Bool.and_true]
      rw [plain1, Bool.and_true, hk]
      exact hq _ (s1.trans s2)
  have leafQ : ∀ (k : Leaf), LD.leafV k v → (∀ x, LD.leafV k x → ∃ t', (∀ G, Th G t' x) ∧ short t' ∧ isKey t' = isKey t) → rdLast P w D σ H := by
    intro k hk hx
    refine .inl fun p np => ?_
    refine tv ?_
    refine ⟨upd_same, [(k, .int 1)], .cons ⟨hk, rfl⟩ .nil, fun rows hr => ?_⟩
    rw [mergeL1] at hr
    cases hr with
    | @cons a _ as _ r tl =>
      cases tl
      obtain ⟨x, y⟩ := a
      obtain ⟨r1, r2⟩ := r
      obtain rfl : y = .int 1 := r2
      obtain ⟨t', ht', hst, hkk⟩ := hx x r1
      have s1 : Same H (upd (upd H p (LD.dlO P w p [])) p (LR.drO p [(x, .int 1)])) := same_upd2 np
      refine rows1 p _ x t' (fun x H1 => tCall spLText [] E0 (tCons (tVar 0) (tCons (tC (.int 1)) tNil)) σ H1 fun y H2 => rEq x y H2 D.rt) upd_same (ht' _) hst hkk s1 fun H2 s2 => ?_
      exact fin _ H2 s2 rfl _ fun H3 s3 => q H3 s3
  cases t with
  | non =>
    unfold Th at ht
    subst ht
    refine leafQ .none True.intro fun x hx => ⟨.non, fun G => ?_, True.intro, rfl⟩
    cases x <;> first | rfl | exact hx.elim
  | bl b =>
    unfold Th at ht
    subst ht
    refine leafQ (.num (if b = true then 1 else 0)) rfl fun x hx => ?_
    cases x with
    | int j => exact ⟨.int j, fun G => rfl, True.intro, rfl⟩
    | bl c => exact ⟨.bl c, fun G => rfl, True.intro, rfl⟩
    | _ => exact hx.elim
  | int i =>
    unfold Th at ht
    subst ht
    refine leafQ (.num i) rfl fun x hx => ?_
    cases x with
    | int j => exact ⟨.int j, fun G => rfl, True.intro, rfl⟩
    | bl c => exact ⟨.bl c, fun G => rfl, True.intro, rfl⟩
    | _ => exact hx.elim
  | str z =>
    unfold Th at ht
    subst ht
    refine leafQ (.text z) rfl fun x hx => ?_
    cases x with
    | str y =>
      obtain rfl : y = z := hx
      exact ⟨.str y, fun G => rfl, hs.short, rfl⟩
    | _ => exact hx.elim
  | tup ts =>
    cases hl.2.2 rfl
    unfold Th at ht
    obtain ⟨a, xs, rfl, ha, _, hx⟩ := ht
    simp only [ThAll] at hx
    subst hx
    refine .inr fun p np => ?_
    refine tv ?_
    have nap : a ≠ p := ne_of_none ha np
    refine ⟨a, [], .int 1, rfl, upd_same, by rw [upd_ne nap]; exact ha, ?_⟩
    have s1 : Same H (upd (upd H p (.dT [])) p (LR.drO p [(.ref a, .int 1)])) := same_upd2 np
    refine rows1 p _ (.ref a) (.tup []) (fun x H1 => tCall spLText [] E0 (tCons (tVar 0) (tCons (tC (.int 1)) tNil)) σ H1 fun y H2 => rEq x y H2 D.rt) upd_same ?_ True.intro rfl s1 fun H2 s2 => ?_
    · unfold Th
      exact ⟨a, [], rfl, s1 _ _ ha, by decide, rfl⟩
    · exact fin _ H2 s2 rfl _ fun H3 s3 => q H3 s3
  | oth d =>
    obtain ⟨h1, h2, _⟩ := hl
    cases d
    · exact absurd h1 (by decide)
    · exact absurd h2 (by decide)
end My
namespace My
open PySem PySem.Spec PyProof.Rows L2
def spHolds : Sp := fun vs H Q _ => ∃ (t : T) (v : V), vs = [v] ∧ Th H t v ∧ GT 3 t ∧ ∀ H', Same H H' → Q (.bl true) H'
theorem pairsOk {t : T} (h : GT 3 t) : ∀ p ∈ [((.str "a" : T), (.int 1 : T)), (.str "x", t)], short p.1 ∧ shortA p.2 := by
  intro p hp
  simp only [List.mem_cons, List.not_mem_nil, or_false] at hp
  rcases hp with rfl | rfl
  · exact ⟨by simp only [short]; decide +kernel, True.intro⟩
  · exact ⟨by simp only [short]; decide +kernel, h.1⟩
theorem pairsAll (t : T) : ([((.str "a" : T), (.int 1 : T)), (.str "x", t)].all fun p => isKey p.1 && isVal p.2) = isVal t := by
  have h1 : isKey (.str "a") = true := by decide +kernel
  have h2 : isKey (.str "x") = true := by decide +kernel
  simp only [List.all_cons, List.all_nil, Bool.and_true]
  rw [h1, h2, plain1]
  simp
theorem mergeL2 (v : V) : LD.mergeL [] [((.text "a" : Leaf), V.int 1), (.text "x", v)] = [(.text "a", .int 1), (.text "x", v)] := by
  have h : ¬ ((.text "a" : Leaf) = .text "x") := by decide
  simp [LD.mergeL, putK, h]
section
variable {P : Program} {w : World} {K : PySem.W.Frag} {mg : Str → Option Value} {base : Heap}
theorem ok_holds {f fV fG fY fT fN fM fS : Addr} {fd fdV fdG fdY fdT fdN fdM fdS : FuncData} (F : Fun K "_law_holds" "_law_holds" sHolds f fd) (TL : TxtL mg)
    (FV : Fun K "is_value" "is_value" sIsValue fV fdV) (bV : Binds K fdV ["value"] []) (gV : mg "is_value" = some (.ref fV)) (GV : FnOk P w K mg base CX0 5 fV fdV ["value"] spVal)
    (FG : Fun K "_law_good" "_law_good" sGood fG fdG) (bG : Binds K fdG ["_law_thing_here"] []) (gG : mg "_law_good" = some (.ref fG)) (GG : FnOk P w K mg base CX0 11 fG fdG ["_law_thing_here"] spGood)
    (FY : Fun K "is_key" "is_key" sIsKey fY fdY) (bY : Binds K fdY ["value"] []) (gY : mg "is_key" = some (.ref fY)) (GY : FnOk P w K mg base CX0 3 fY fdY ["value"] (spB isKey))
    (FT : Fun K "_law_text" "_law_text" sLText fT fdT) (bT : Binds K fdT ["_law_thing_here", "_law_least"] []) (gT : mg "_law_text" = some (.ref fT))
    (FN : Fun K "is_name" "is_name" sIsName fN fdN) (bN : Binds K fdN ["value"] []) (gN : mg "is_name" = some (.ref fN)) (GN : FnOk P w K mg base CX0 4 fN fdN ["value"] (spB isName))
    (FM : Fun K "_law_name" "_law_name" sLName fM fdM) (bM : Binds K fdM ["_law_thing_here"] []) (gM : mg "_law_name" = some (.ref fM))
    (FS : Fun K "is_state" "is_state" sIsState fS fdS) (bS : Binds K fdS ["value"] []) (gS : mg "is_state" = some (.ref fS)) (GS : FnOk P w K mg base CX0 6 fS fdS ["value"] spState) :
    FnOk P w K mg base CX0 12 f fd ["_law_thing_here"] spHolds := by
  have GT1 : FnOk P w K mg base CX0 1 fT fdT ["_law_thing_here", "_law_least"] spLText := ok_lText FT TL
  have GM : FnOk P w K mg base CX0 1 fM fdM ["_law_thing_here"] spLName := ok_lName FM TL
  refine F.ok scHolds (fun vs H Q E h => ?_) (fun cdv A outer s H vs Q E hr h => ?_)
  · obtain ⟨t, v, rfl, _⟩ := h
    rfl
  · obtain ⟨t, v, rfl, ht, hg, q⟩ := h
    have ND := scHolds.nd
    have hu : (A.deeper (envOfC "_law_holds" (defScope sHolds) s.heap.objs.size f cdv)).units + 1 < cLine := by
      have := hr.units
      omega
    refine ⟨_, pss_cons (ps_if (PW.pt (pw_or (pt_cmpR op_ne (pe_call GV (hr.mono (by decide)) rfl gV FV.kp bV .nil pass0 (pa_cons (pv 0) pa_nil)) (pe_call GG hr rfl gG FG.kp bG .nil pass0 (pa_cons (pv 0) pa_nil)) (nomark _))
        (pw_or1 (pt_cmpR op_ne (pe_call GY (hr.mono (by decide)) rfl gY FY.kp bY .nil pass0 (pa_cons (pv 0) pa_nil)) (pe_call GT1 (hr.mono (by decide)) rfl gT FT.kp bT .nil pass0 (pa_cons (pv 0) (pa_cons pe_int pa_nil))) (nomark _))))) (pss_one (ps_ret pe_bl)) pss_nil)
      (pss_cons (ps_if (pt_cmpR op_ne (pe_call GN (hr.mono (by decide)) rfl gN FN.kp bN .nil pass0 (pa_cons (pv 0) pa_nil)) (pe_call GM (hr.mono (by decide)) rfl gM FM.kp bM .nil pass0 (pa_cons (pv 0) pa_nil)) (nomark _)) (pss_one (ps_ret pe_bl)) pss_nil)
      (pss_cons (ps_set (i := 1) ND rfl (.inl rfl) (LR.pe_dispR (pps_cons pe_str pe_int (pps_cons pe_str (pv 0) pps_nil)) rfl rfl (fun z => nomatch z) (by decide)))
      (pss_cons (ps_if (PW.pt (pw_or (pt_cmpR op_ne (pe_call GS (hr.mono (by decide)) rfl gS FS.kp bS .nil pass0 (pa_cons (pv 1) pa_nil)) (pe_call GG hr rfl gG FG.kp bG .nil pass0 (pa_cons (pv 0) pa_nil)) (nomark _))
        (pw_or1 (pt_cmpR op_ne (pe_call GS (hr.mono (by decide)) rfl gS FS.kp bS .nil pass0 (pa_cons (pv 0) pa_nil))
          (pe_and (pe_cmpR (LQ.op_eqE hr.units0) (pv 0) pe_dnewK (nomark _)) (pe_one (pe_callB call_isi (by rfl) TL.isi PyProof.Rows.boot_isinstance (pa_cons (pv 0) (pa_cons (pe_bltn (v := .ty "dict") (by rfl) TL.dict (by decide +kernel) rfl) pa_nil))))) (nomark _))))) (pss_one (ps_ret pe_bl)) pss_nil)
      (pss_cons (ps_if (PW.pt (pw_or (pt_val (pe_callB call_isi (by rfl) TL.isi PyProof.Rows.boot_isinstance (pa_cons (pv 0) (pa_cons (pe_bltn (v := .ty "list") (by rfl) TL.list (by decide +kernel) rfl) pa_nil))))
        (pw_or (pt_val (pe_callB call_isi (by rfl) TL.isi PyProof.Rows.boot_isinstance (pa_cons (pv 0) (pa_cons (pe_bltn (v := .ty "dict") (by rfl) TL.dict (by decide +kernel) rfl) pa_nil))))
        (pw_or1 (PW.pt (pw_and (pt_val (pe_callB call_isi (by rfl) TL.isi PyProof.Rows.boot_isinstance (pa_cons (pv 0) (pa_cons (pe_bltn (v := .ty "tuple") (by rfl) TL.tuple (by decide +kernel) rfl) pa_nil))))
          (pw_and1 (pt_cmpR (LQ.op_neNilT hr.units0) (pv 0) (pe_tup pa_nil) (nomark _))))))))) (pss_one (ps_ret pe_bl)) pss_nil)
      (pss_one (ps_ret (pe_cmpR op_eq (pe_call GS (hr.mono (by decide)) rfl gS FS.kp bS .nil pass0 (pa_cons (LR.pe_or2 (LR.pe_dispR (pps_cons (pv 0) pe_int pps_nil) rfl rfl (fun z => nomatch z) (by decide)) (LR.pe_dispT hu (pv 0) pe_int)) pa_nil))
        (pe_call GT1 (hr.mono (by decide)) rfl gT FT.kp bT .nil pass0 (pa_cons (pv 0) (pa_cons pe_int pa_nil))) (nomark _)))))))), ?_⟩
    have hd8 : dep t ≤ 8 := by
      have := hg.2.2
      omega
    -- is_value(t) != good(t) or is_key(t) != text(t, 1)
    refine ⟨_, rfl, t, v, rfl, ht, hg.1, fun H1 s1 => ?_⟩
    refine ⟨_, rfl, t, v, rfl, Th.same s1 _ _ ht, hg.1, hg.2.1, hd8, fun H2 s2 => ⟨rfl, _, rfl, ?_⟩⟩
    rw [ne_same (val_eq t)]
    have s12 := s1.trans s2
    refine iteF ⟨_, rfl, t, v, rfl, Th.same s12 _ _ ht, hg.1.short, ?_⟩
    refine ⟨_, rfl, t, v, 1, rfl, Th.same s12 _ _ ht, hg.1.short, fun H3 s3 => ⟨rfl, _, rfl, ?_⟩⟩
    rw [ne_same (key_eq t)]
    have s13 := s12.trans s3
    refine iteF ?_
    -- is_name(t) != name(t)
    refine ⟨_, rfl, t, v, rfl, Th.same s13 _ _ ht, hg.1.short, ?_⟩
    refine ⟨_, rfl, t, v, rfl, Th.same s13 _ _ ht, hg.1.short, fun H4 s4 => ⟨rfl, _, rfl, ?_⟩⟩
    rw [ne_same (name_eq t)]
    have s14 := s13.trans s4
    refine iteF ?_
    -- {'a': 1, 'x': t}
    refine fun p np => ?_
    refine ⟨_, rfl, ?_⟩
    refine ⟨upd_same, [(.text "a", .int 1), (.text "x", v)], .cons ⟨rfl, rfl⟩ (.cons ⟨rfl, rfl⟩ .nil), fun rows hrows => ?_⟩
    rw [mergeL2] at hrows
    obtain rfl : rows = [(.str "a", .int 1), (.str "x", v)] := by
      cases hrows with
      | @cons a _ as _ r tl =>
        cases tl with
        | @cons b _ bs _ r' tl' =>
          cases tl'
          obtain ⟨x, y⟩ := a
          obtain ⟨x', y'⟩ := b
          obtain ⟨r1, r2⟩ := r
          obtain ⟨r1', r2'⟩ := r'
          obtain rfl : y = .int 1 := r2
          obtain rfl : y' = v := r2'
          have e1 : x = .str "a" := by
            cases x with
            | str z => exact congrArg V.str r1
            | _ => exact r1.elim
          have e2 : x' = .str "x" := by
            cases x' with
            | str z => exact congrArg V.str r1'
            | _ => exact r1'.elim
          rw [e1, e2]
    -- is_state(pairs) != good(t)
    refine ⟨_, rfl, .inr ⟨p, [(.str "a", .int 1), (.str "x", t)], rfl, .inr ⟨[(.str "a", .int 1), (.str "x", v)], upd_same, .cons ⟨by simp [Th], by simp [Th]⟩ (.cons ⟨by simp [Th], Th.same (s14.trans (same_upd2 np)) _ _ ht⟩ .nil)⟩, by simp, pairsOk hg, fun H6 s6 => ?_⟩⟩
    have s16 := (s14.trans (same_upd2 np)).trans s6
    refine ⟨_, rfl, t, v, rfl, Th.same s16 _ _ ht, hg.1, hg.2.1, hd8, fun H7 s7 => ⟨rfl, _, rfl, ?_⟩⟩
    rw [ne_same ((pairsAll t).trans (val_eq t))]
    have s17 := s16.trans s7
    refine iteF ?_
    -- is_state(t) != (t == {} and isinstance(t, dict))
    refine ⟨_, rfl, ?_⟩
    dsimp only [tNil]
    refine state_of (Th.same s17 _ _ ht) fun H8 s8 => ?_
    have s18 := s17.trans s8
    refine ⟨_, rfl, fun e ne => ?_⟩
    have s9 : Same H8 (upd H8 e (.dK [])) := same_upd ne
    refine eqE_of (Th.same (s18.trans s9) _ _ ht) upd_same ⟨_, rfl, ?_⟩
    have h9 : upd H8 e (.dK []) e = some (.dK []) := upd_same
    generalize upd H8 e (.dK []) = H9 at s9
    have s19 := s18.trans s9
    have t9 := Th.same s19 _ _ ht
    cases hD : isD t with
    | false =>
      refine iteF ⟨rfl, _, rfl, ?_⟩
      rw [ne_same rfl]
      refine iteF ?_
      refine ⟨_, rfl, _, _, _, _, isL t, rfl, .ty "list", .base (th_ty t9), kit_ty (kit_list t), _, rfl, ?_⟩
      cases hL : isL t with
      | true => exact iteT (iteT (q _ s19))
      | false =>
        refine iteF ?_
        refine ⟨_, rfl, _, _, _, _, false, rfl, .ty "dict", .base (th_ty t9), kit_ty (hD ▸ kit_dict t), _, rfl, ?_⟩
        refine iteF ?_
        refine ⟨_, rfl, _, _, _, _, isTupT t, rfl, .ty "tuple", .base (th_ty t9), kit_ty (kit_tuple t), _, rfl, ?_⟩
        cases hT : isTupT t with
        | false =>
          refine iteF (iteF ?_)
          exact last_reading (P := P) (w := w) rfl t9 hg.1 ⟨hL, hD, fun h => absurd (hT.symm.trans h) (by decide)⟩ fun H' sm => q H' (s19.trans sm)
        | true =>
          obtain ⟨a, xs, rfl, ha, hxl, hall⟩ := th_tup hT t9
          refine iteT ?_
          refine ⟨_, rfl, Nat.zero_le _, fun e2 ne2 => ?_⟩
          have s10 : Same H9 (upd H9 e2 (.tup [])) := same_upd ne2
          refine ⟨a, e2, xs, rfl, rfl, s10 _ _ ha, upd_same, _, rfl, ?_⟩
          cases xs with
          | cons x xs => exact iteT (q _ (s19.trans s10))
          | nil =>
            have e0 : t = .tup [] := by
              rw [tup_of hT]
              have := thAll_len hall
              rw [List.eq_nil_of_length_eq_zero this]
            refine iteF ?_
            exact last_reading (P := P) (w := w) rfl (Th.same s10 _ _ t9) hg.1 ⟨hL, hD, fun _ => e0⟩ fun H' sm => q H' ((s19.trans s10).trans sm)
    | true =>
      refine iteT ⟨_, rfl, _, _, _, _, true, rfl, .ty "dict", .base (th_ty t9), kit_ty (hD ▸ kit_dict t), ⟨rfl, _, rfl, ?_⟩⟩
      rw [ne_same rfl]
      refine iteF ?_
      have hL : isL t = false := by
        cases t <;> first | rfl | (simp only [isD] at hD; subst hD; rfl)
      refine ⟨_, rfl, _, _, _, _, false, rfl, .ty "list", .base (th_ty t9), kit_ty (hL ▸ kit_list t), _, rfl, ?_⟩
      refine iteF ?_
      refine ⟨_, rfl, _, _, _, _, true, rfl, .ty "dict", .base (th_ty t9), kit_ty (hD ▸ kit_dict t), _, rfl, ?_⟩
      exact iteT (iteT (q _ s19))
end
end My
namespace My
open PySem PySem.Spec PyProof.Rows L2
theorem scLaw : FnScope ["_law_script", "_law_deep", "_law_levels", "_law_many", "_law_some", "_law_k", "_law_pool_here", "_law_turn", "_law_thing_here"] ["_law_script"] (defScope sLaw) := ⟨rfl, rfl, rfl, by decide +kernel, rfl, by decide +kernel, by decide +kernel⟩
structure TxtW (mg : Str → Option Value) : Prop where
  range : mg "range" = none
  max : mg "max" = none
  min : mg "min" = none
  len : mg "len" = none
def spLaw (K : PySem.W.Frag) : Sp := fun vs H Q _ => ∃ (a : Addr) (ns : List Int), vs = [.ref a] ∧ SqL K H a (ns.map V.int) ∧ ns.length ≤ 63 ∧ ∀ H', Q (.bl true) H'
/-- 3 in so many lists -/
def deepT : Nat → T
  | 0 => .int 3
  | n + 1 => .tup [deepT n, .int ((1 : Int) + (n : Int))]
theorem deep_ok : ∀ i, i < 7 → isVal (deepT (i + 1)) = decide ((1 : Int) + (i : Int) ≤ 5) := by decide +kernel
theorem deep_short : ∀ n, shortA (deepT n)
  | 0 => True.intro
  | n + 1 => by
    simp only [deepT, shortA, shortAll]
    exact ⟨deep_short n, True.intro, True.intro⟩
theorem catA_of {K : PySem.W.Frag} {H : Hp} {Q : VK} {a b : Addr} {xs ys : List V} (ha : H a = some (.tup xs)) (hb : H b = some (.tup ys)) (hl : xs.length + ys.length ≤ 1000)
    (q : ∀ (r : Addr) (H' : Hp), Same H H' → H' r = some (.tup (xs ++ ys)) → Q (.ref r) H') : rCatA K (.ref a) (.ref b) H Q := by
  refine ⟨a, b, xs, ys, rfl, rfl, .inl (.inl ha), .inl (.inl hb), Nat.le_of_lt (small1000 hl), fun hx => ?_, fun _ hy => ?_, fun _ _ p np => q p _ (same_upd np) upd_same⟩
  · subst hx
    exact q b H (Same.refl _) hb
  · subst hy
    exact q a H (Same.refl _) (by rw [List.append_nil]; exact ha)
theorem rep_len (n : Nat) (x : V) : (List.replicate n [x]).flatten.length = n := by
  induction n with
  | zero => rfl
  | succ n ih => rw [List.replicate_succ, List.flatten_cons, List.length_append, ih, List.length_singleton]; omega
theorem thAll_rep {H : Hp} {t : T} {x : V} (hx : Th H t x) : ∀ n : Nat, ThAll H (List.replicate n t) (List.replicate n [x]).flatten
  | 0 => by simp [ThAll]
  | n + 1 => by
    rw [List.replicate_succ, List.replicate_succ, List.flatten_cons]
    simp only [ThAll]
    exact ⟨x, _, rfl, hx, thAll_rep hx n⟩
theorem thAll_app {H : Hp} : ∀ {ts us : List T} {xs ys : List V}, ThAll H ts xs → ThAll H us ys → ThAll H (ts ++ us) (xs ++ ys)
  | [], _, xs, _, h, h2 => by
    simp only [ThAll] at h
    subst h
    exact h2
  | t :: ts, us, xs, ys, h, h2 => by
    simp only [ThAll] at h
    obtain ⟨v, r, rfl, h1, h3⟩ := h
    simp only [List.cons_append, ThAll]
    exact ⟨v, r ++ ys, rfl, h1, thAll_app h3 h2⟩
theorem th_rep {H : Hp} {t : T} {x : V} {a : Addr} {n : Nat} (ha : H a = some (.tup (List.replicate n [x]).flatten)) (hn : n < 1000) (hx : Th H t x) : Th H (.tup (List.replicate n t)) (.ref a) := by
  simp only [Th]
  exact ⟨a, _, rfl, ha, by rw [rep_len]; exact hn, thAll_rep hx n⟩
def someT (m : Nat) : List T := [.tup (List.replicate m (.int 1)), .tup [.tup (List.replicate (m - 1) (.int 1))], .tup [.tup (List.replicate (m - 5) (.int 2)), .tup (List.replicate 3 (.int 3))], .tup (List.replicate (m - 2) (.str "a") ++ List.replicate 2 (.tup []))]
theorem some_ok : ∀ i, i < 8 → (someT (46 + i)).map isVal = List.replicate 4 (decide ((46 : Int) + (i : Int) ≤ 50)) := by decide +kernel
theorem short_rep {t : T} (h : shortA t) (n : Nat) : shortAll (List.replicate n t) := shortAll_mem.mpr fun u hu => by rw [(List.mem_replicate.mp hu).2]; exact h
theorem some_short (m : Nat) : ∀ t ∈ someT m, shortA t := by
  intro t h
  simp only [someT, List.mem_cons, List.not_mem_nil, or_false] at h
  rcases h with rfl | rfl | rfl | rfl
  · simp only [shortA]; exact short_rep (t := .int 1) (by simp only [shortA]) m
  · simp only [shortA, shortAll]; exact ⟨short_rep (t := .int 1) (by simp only [shortA]) _, True.intro⟩
  · simp only [shortA, shortAll]; exact ⟨short_rep (t := .int 2) (by simp only [shortA]) _, short_rep (t := .int 3) (by simp only [shortA]) 3, True.intro⟩
  · simp only [shortA]
    refine shortAll_mem.mpr fun u hu => ?_
    rcases List.mem_append.mp hu with hu | hu
    · rw [(List.mem_replicate.mp hu).2]; simp only [shortA]; decide +kernel
    · rw [(List.mem_replicate.mp hu).2]; simp only [shortA, shortAll]
section
variable {P : Program} {w : World} {K : PySem.W.Frag} {mg : Str → Option Value} {base : Heap}
theorem ok_law {f fV fP fT fH : Addr} {fd fdV fdP fdT fdH : FuncData} (F : Fun K "law" "law" sLaw f fd)
    (FV : Fun K "is_value" "is_value" sIsValue fV fdV) (bV : Binds K fdV ["value"] []) (gV : mg "is_value" = some (.ref fV)) (GV : FnOk P w K mg base CX0 5 fV fdV ["value"] spVal)
    (FP : Fun K "_law_pool" "_law_pool" sPool fP fdP) (bP : Binds K fdP ["_law_script", "_law_k"] []) (gP : mg "_law_pool" = some (.ref fP)) (GP : FnOk P w K mg base CX0 1 fP fdP ["_law_script", "_law_k"] (spPool K))
    (FT : Fun K "_law_thing" "_law_thing" sThing fT fdT) (bT : Binds K fdT ["_law_pool_here", "_law_depth"] []) (gT : mg "_law_thing" = some (.ref fT)) (GT3 : FnOk P w K mg base CX0 6 fT fdT ["_law_pool_here", "_law_depth"] (spThing 4))
    (FH : Fun K "_law_holds" "_law_holds" sHolds fH fdH) (bH : Binds K fdH ["_law_thing_here"] []) (gH : mg "_law_holds" = some (.ref fH)) (GH : FnOk P w K mg base CX0 12 fH fdH ["_law_thing_here"] spHolds)
    (TL : TxtW mg) : FnOk P w K mg base CX0 13 f fd ["_law_script"] (spLaw K) := by
  refine F.ok scLaw (fun vs H Q E h => ?_) (fun cdv A outer s H vs Q E hr h => ?_)
  · obtain ⟨a, ns, rfl, _⟩ := h
    rfl
  · obtain ⟨a, ns, rfl, hS, hlen, q⟩ := h
    have ND := scLaw.nd
    have hr1 : Room 1 _ := hr.mono (by decide)
    have hr5 : Room 5 _ := hr.mono (by decide)
    have hr6 : Room 6 _ := hr.mono (by decide)
    refine ⟨_, pss_cons (ps_set (i := 1) ND rfl (.inl rfl) pe_int)
      (pss_cons (ps_for PassesOwn.never rfl (pi_range2 rfl TL.range (pa_cons pe_int (pa_cons pe_int pa_nil))) (pg_name (i := 2) ND rfl (.inl rfl))
        (pss_cons (ps_set (i := 1) ND rfl (.inl rfl) (pe_tup (pa_cons (pv 1) (pa_cons (pv 2) pa_nil))))
        (pss_one (ps_if (pt_cmpR op_ne (pe_call GV hr5 rfl gV FV.kp bV .nil pass0 (pa_cons (pv 1) pa_nil)) (pe_cmpR op_le (pv 2) pe_int (nomark _)) (nomark _)) (pss_one (ps_ret pe_bl)) pss_nil))))
      (pss_cons (ps_for PassesOwn.never rfl (pi_range2 rfl TL.range (pa_cons pe_int (pa_cons pe_int pa_nil))) (pg_name (i := 3) ND rfl (.inl rfl))
        (pss_cons (ps_set (i := 4) ND rfl (.inl rfl) (pe_lst (pa_cons (pe_op op_repT (pe_tup (pa_cons pe_int pa_nil)) (pv 3))
          (pa_cons (pe_tup (pa_cons (pe_op op_repT (pe_tup (pa_cons pe_int pa_nil)) (pe_op op_sub (pv 3) pe_int)) pa_nil))
          (pa_cons (pe_tup (pa_cons (pe_op op_repT (pe_tup (pa_cons pe_int pa_nil)) (pe_op op_sub (pv 3) pe_int)) (pa_cons (pe_op op_repT (pe_tup (pa_cons pe_int pa_nil)) pe_int) pa_nil)))
          (pa_cons (pe_op op_catA (pe_op op_repT (pe_tup (pa_cons pe_str pa_nil)) (pe_op op_sub (pv 3) pe_int)) (pe_op op_repT (pe_tup (pa_cons (pe_tup pa_nil) pa_nil)) pe_int)) pa_nil))))))
        (pss_one (ps_if (pt_cmpR (op_neD hr.units)
          (pe_lc (own := [("_law_thing_here", 8)]) (g := gName 8) (tt := tYes) rfl ND (pi_list (pv 4)) (blkOk_by (own := [("_law_thing_here", 8)]) (N := ["_law_script", "_law_deep", "_law_levels", "_law_many", "_law_some", "_law_k", "_law_pool_here", "_law_turn", "_law_thing_here"]) (sc := defScope sLaw) (by decide +kernel))
            (fun _ _ _ _ _ => pg_name (i := 8) ND rfl (Or.inl rfl)) (fun _ _ _ _ _ => pts_nil) (fun _ _ _ _ _ => pe_call GV hr5 rfl gV FV.kp bV .nil pass0 (pa_cons (pv 8) pa_nil)))
          (pe_op op_rep (pe_lst (pa_cons (pe_cmpR op_le (pv 3) pe_int (nomark _)) pa_nil)) pe_int) (nomark _)) (pss_one (ps_ret pe_bl)) pss_nil))))
      (pss_cons (ps_for PassesOwn.never rfl (pi_range1 rfl TL.range (pa_cons (pe_callB (call_max2 rfl) (by rfl) TL.max PyProof.Rows.boot_max (pa_cons pe_int (pa_cons (pe_callB (call_min2 rfl) (by rfl) TL.min PyProof.Rows.boot_min
            (pa_cons (pe_callB call_len_seq (by rfl) TL.len PySem.boot_len (pa_cons (pv 0) pa_nil)) (pa_cons pe_int pa_nil))) pa_nil))) pa_nil)) (pg_name (i := 5) ND rfl (.inl rfl))
          (pss_cons (ps_set (i := 6) ND rfl (.inl rfl) (pe_call GP hr1 rfl gP FP.kp bP .nil pass0 (pa_cons (pv 0) (pa_cons (pv 5) pa_nil))))
          (pss_one (ps_for PassesOwn.never rfl (pi_range1 rfl TL.range (pa_cons pe_int pa_nil)) (pg_name (i := 7) ND rfl (.inl rfl))
            (pss_one (ps_if (pt_not (pt_val (pe_call GH hr rfl gH FH.kp bH .nil pass0 (pa_cons (pe_call GT3 hr6 rfl gT FT.kp bT .nil pass0 (pa_cons (pv 6) (pa_cons pe_int pa_nil))) pa_nil)))) (pss_one (ps_ret pe_bl)) pss_nil))))))
      (pss_one (ps_ret pe_bl))))), ?_⟩
    refine ⟨1, 8, rfl, ⟨by decide, by decide, by decide, by decide⟩, ?_⟩
    refine for_range (lo := 1) (n := 7) (fun i σ H' => ∃ (v : V) (z2 : Option V), σ = [some (.ref a), some v, z2, none, none, none, none, none, none] ∧ Th H' (deepT i) v ∧ Same H H') ⟨.int 3, none, rfl, rfl, Same.refl _⟩ (fun i σ H' hi hPv => ?_) (fun σ H' hPv => ?_)
    · obtain ⟨v, z2, rfl, hv, sm⟩ := hPv
      refine ⟨_, rfl, _, rfl, by show 2 ≤ sizeLine; decide, fun p np => ?_⟩
      have k1 := same_upd (o := .tup [v, .int ((1 : Int) + (i : Int))]) np
      have hT : Th (upd H' p (.tup [v, .int ((1 : Int) + (i : Int))])) (deepT (i + 1)) (.ref p) := by
        simp only [deepT, Th, ThAll]
        exact ⟨p, _, rfl, upd_same, by simp, v, _, rfl, Th.same k1 _ _ hv, _, _, rfl, rfl, rfl⟩
      refine ⟨_, rfl, deepT (i + 1), .ref p, rfl, hT, deep_short _, fun H1 s1 => ?_⟩
      refine ⟨_, rfl, _, _, rfl, rfl, rfl, _, rfl, ?_⟩
      rw [ne_same (deep_ok i hi)]
      exact iteF ⟨.ref p, _, rfl, Th.same s1 _ _ hT, (sm.trans k1).trans s1⟩
    obtain ⟨v, z2, rfl, hv, sm0⟩ := hPv
    refine ⟨46, 54, rfl, ⟨by decide, by decide, by decide, by decide⟩, ?_⟩
    refine for_range (lo := 46) (n := 8) (fun i σ H' => ∃ (z3 z4 : Option V), σ = [some (.ref a), some v, z2, z3, z4, none, none, none, none] ∧ Same H H') ⟨none, none, rfl, sm0⟩ (fun i σ H' hi hPv => ?_) (fun σ H' hPv => ?_)
    · obtain ⟨z3, z4, rfl, sm⟩ := hPv
      have em : ((46 : Int) + (i : Int)).toNat = 46 + i := by omega
      have em1 : ((46 : Int) + (i : Int) - 1).toNat = 46 + i - 1 := by omega
      have em5 : ((46 : Int) + (i : Int) - 5).toNat = 46 + i - 5 := by omega
      have em2 : ((46 : Int) + (i : Int) - 2).toNat = 46 + i - 2 := by omega
      -- (1,) * many
      refine ⟨by show 1 ≤ sizeLine; decide, fun p1 np1 => ?_⟩
      have k1 := same_upd (o := .tup [V.int 1]) np1
      refine ⟨_, rfl, p1, (46 : Int) + (i : Int), [V.int 1], rfl, rfl, .inl (.inl upd_same), by simp, by omega, by omega, by simp, fun r1 nr1 => ?_⟩
      have k2 := same_upd (o := .tup (List.replicate ((46 : Int) + (i : Int)).toNat [V.int 1]).flatten) nr1
      -- ((1,) * (many - 1),)
      refine ⟨by show 1 ≤ sizeLine; decide, fun p2 np2 => ?_⟩
      have k3 := same_upd (o := .tup [V.int 1]) np2
      refine ⟨_, rfl, _, _, rfl, rfl, p2, (46 : Int) + (i : Int) - 1, [V.int 1], rfl, rfl, .inl (.inl upd_same), by simp, by omega, by omega, by simp, fun r2 nr2 => ?_⟩
      have k4 := same_upd (o := .tup (List.replicate ((46 : Int) + (i : Int) - 1).toNat [V.int 1]).flatten) nr2
      refine ⟨by show 1 ≤ sizeLine; decide, fun q2 nq2 => ?_⟩
      have k5 := same_upd (o := .tup [V.ref r2]) nq2
      -- ((2,) * (many - 5), (3,) * 3)
      refine ⟨by show 1 ≤ sizeLine; decide, fun p3 np3 => ?_⟩
      have k6 := same_upd (o := .tup [V.int 2]) np3
      refine ⟨_, rfl, _, _, rfl, rfl, p3, (46 : Int) + (i : Int) - 5, [V.int 2], rfl, rfl, .inl (.inl upd_same), by simp, by omega, by omega, by simp, fun r3 nr3 => ?_⟩
      have k7 := same_upd (o := .tup (List.replicate ((46 : Int) + (i : Int) - 5).toNat [V.int 2]).flatten) nr3
      refine ⟨by show 1 ≤ sizeLine; decide, fun p4 np4 => ?_⟩
      have k8 := same_upd (o := .tup [V.int 3]) np4
      refine ⟨p4, 3, [V.int 3], rfl, rfl, .inl (.inl upd_same), by simp, by omega, by omega, by simp, fun r4 nr4 => ?_⟩
      have k9 := same_upd (o := .tup (List.replicate ((3 : Int)).toNat [V.int 3]).flatten) nr4
      refine ⟨by show 2 ≤ sizeLine; decide, fun q3 nq3 => ?_⟩
      have k10 := same_upd (o := .tup [V.ref r3, .ref r4]) nq3
      -- ('a',) * (many - 2) + ((),) * 2
      refine ⟨by show 1 ≤ sizeLine; decide, fun p5 np5 => ?_⟩
      have k11 := same_upd (o := .tup [V.str "a"]) np5
      refine ⟨_, rfl, _, _, rfl, rfl, p5, (46 : Int) + (i : Int) - 2, [V.str "a"], rfl, rfl, .inl (.inl upd_same), by simp, by omega, by omega, by simp, fun r5 nr5 => ?_⟩
      have k12 := same_upd (o := .tup (List.replicate ((46 : Int) + (i : Int) - 2).toNat [V.str "a"]).flatten) nr5
      refine ⟨Nat.zero_le _, fun e0 ne0 => ?_⟩
      have k13 := same_upd (o := .tup []) ne0
      refine ⟨by show 1 ≤ sizeLine; decide, fun p6 np6 => ?_⟩
      have k14 := same_upd (o := .tup [V.ref e0]) np6
      refine ⟨p6, 2, [V.ref e0], rfl, rfl, .inl (.inl upd_same), by simp, by omega, by omega, by simp, fun r6 nr6 => ?_⟩
      have k15 := same_upd (o := .tup (List.replicate ((2 : Int)).toNat [V.ref e0]).flatten) nr6
      refine catA_of ((((k13.trans k14).trans k15) r5 _ upd_same)) upd_same (by rw [rep_len, rep_len]; omega) fun r7 G k16 e7 => ?_
      refine ⟨by show 4 ≤ sizeLine; decide, fun L nL => ?_⟩
      have k17 := same_upd (o := .lst [V.ref r1, .ref q2, .ref q3, .ref r7]) nL
      have eL : upd G L (.lst [V.ref r1, .ref q2, .ref q3, .ref r7]) L = some (.lst [V.ref r1, .ref q2, .ref q3, .ref r7]) := upd_same
      have kt := k16.trans k17
      have ka := (k13.trans k14).trans (k15.trans kt)
      have kb := (k11.trans k12).trans ka
      have kc := (((k6.trans k7).trans k8).trans (k9.trans k10)).trans kb
      have kd := ((k3.trans k4).trans k5).trans kc
      have ke := (k1.trans k2).trans kd
      have t1 : Th (upd G L (.lst [V.ref r1, .ref q2, .ref q3, .ref r7])) (.tup (List.replicate (46 + i) (.int 1))) (.ref r1) := th_rep (x := .int 1) (by rw [← em]; exact kd _ _ upd_same) (by omega) rfl
      have t2 : Th (upd G L (.lst [V.ref r1, .ref q2, .ref q3, .ref r7])) (.tup (List.replicate (46 + i - 1) (.int 1))) (.ref r2) := th_rep (x := .int 1) (by rw [← em1]; exact (k5.trans kc) _ _ upd_same) (by omega) rfl
      have u2 : Th (upd G L (.lst [V.ref r1, .ref q2, .ref q3, .ref r7])) (.tup [.tup (List.replicate (46 + i - 1) (.int 1))]) (.ref q2) := by
        simp only [Th, ThAll] at t2 ⊢
        exact ⟨q2, _, rfl, kc _ _ upd_same, by simp, _, [], rfl, t2, rfl⟩
      have t3 : Th (upd G L (.lst [V.ref r1, .ref q2, .ref q3, .ref r7])) (.tup (List.replicate (46 + i - 5) (.int 2))) (.ref r3) := th_rep (x := .int 2) (by rw [← em5]; exact ((k8.trans (k9.trans k10)).trans kb) _ _ upd_same) (by omega) rfl
      have t4 : Th (upd G L (.lst [V.ref r1, .ref q2, .ref q3, .ref r7])) (.tup (List.replicate 3 (.int 3))) (.ref r4) := th_rep (x := .int 3) (n := 3) ((k10.trans kb) _ _ upd_same) (by omega) rfl
      have u3 : Th (upd G L (.lst [V.ref r1, .ref q2, .ref q3, .ref r7])) (.tup [.tup (List.replicate (46 + i - 5) (.int 2)), .tup (List.replicate 3 (.int 3))]) (.ref q3) := by
        unfold Th
        refine ⟨q3, [.ref r3, .ref r4], rfl, kb _ _ upd_same, by simp, ?_⟩
        unfold ThAll
        refine ⟨_, _, rfl, t3, ?_⟩
        unfold ThAll
        refine ⟨_, _, rfl, t4, ?_⟩
        unfold ThAll
        rfl
      have w0 : Th (upd G L (.lst [V.ref r1, .ref q2, .ref q3, .ref r7])) (.tup []) (.ref e0) := by
        simp only [Th, ThAll]
        exact ⟨e0, [], rfl, (k14.trans (k15.trans kt)) _ _ upd_same, by decide, rfl⟩
      have u4 : Th (upd G L (.lst [V.ref r1, .ref q2, .ref q3, .ref r7])) (.tup (List.replicate (46 + i - 2) (.str "a") ++ List.replicate 2 (.tup []))) (.ref r7) := by
        unfold Th
        refine ⟨r7, _, rfl, k17 _ _ e7, ?_, ?_⟩
        · rw [List.length_append, rep_len, rep_len]
          omega
        · rw [em2]
          exact thAll_app (thAll_rep (t := .str "a") (x := .str "a") rfl _) (thAll_rep w0 2)
      have hall : ThAll (upd G L (.lst [V.ref r1, .ref q2, .ref q3, .ref r7])) (someT (46 + i)) [V.ref r1, .ref q2, .ref q3, .ref r7] := by
        unfold someT ThAll
        refine ⟨_, _, rfl, t1, ?_⟩
        unfold ThAll
        refine ⟨_, _, rfl, u2, ?_⟩
        unfold ThAll
        refine ⟨_, _, rfl, u3, ?_⟩
        unfold ThAll
        refine ⟨_, _, rfl, u4, ?_⟩
        unfold ThAll
        rfl
      have smL := sm.trans ke
      clear t1 t2 u2 t3 t4 u3 w0 u4 ka kb kc kd ke kt k1 k2 k3 k4 k5 k6 k7 k8 k9 k10 k11 k12 k13 k14 k15 k16 e7
      -- [is_value(thing) for thing in some] != [many <= 50] * 4
      refine ⟨_, rfl, L, rfl, ⟨_, .inl (.inl eL)⟩, fun D nD => ?_⟩
      refine lc_list (K := K) (a := L) (xs := [V.ref r1, .ref q2, .ref q3, .ref r7]) (fun j G' => G' D = some (.lst ((((someT (46 + i)).take j).map isVal).map V.bl)) ∧ Same (upd G L (.lst [V.ref r1, .ref q2, .ref q3, .ref r7])) G') ⟨upd_same, same_upd nD⟩ (fun j G' _ ⟨_, s2⟩ => .inl (.inl (s2 _ _ eL))) (fun j x G' hx ⟨hD, s2⟩ => ?_) (fun G' ⟨hD, s2⟩ => ?_)
      · have hj : j < (someT (46 + i)).length := (List.getElem?_eq_some_iff.mp hx).1
        obtain ⟨t, x', e1, e2, hx'⟩ := thAll_get hall hj
        have ex : x' = x := Option.some.inj (e2.symm.trans hx)
        subst ex
        refine ⟨rfl, tYes_if ?_⟩
        refine ⟨_, rfl, t, x', rfl, Th.same s2 _ _ hx', some_short _ t (List.mem_of_getElem? e1), fun G2 s3 => ?_⟩
        refine ⟨_, s3 _ _ hD, small1000 ?_, ?_, fun o u eo => ?_⟩
        · rw [List.length_map, List.length_map, List.length_take]
          have : (someT (46 + i)).length = 4 := rfl
          omega
        · rw [upd_same, List.take_add_one, e1]
          simp
        · rw [upd_ne (ne_of_none eo nD)]
          exact s3 _ _ (s2 _ _ eo)
      · rw [show ((someT (46 + i)).take [V.ref r1, .ref q2, .ref q3, .ref r7].length).map isVal = List.replicate 4 (decide ((46 : Int) + (i : Int) ≤ 50)) from some_ok i hi] at hD
        refine ⟨_, rfl, _, _, rfl, rfl, by show 1 ≤ sizeLine; decide, fun p8 np8 => ?_⟩
        have k18 := same_upd (o := .lst [V.bl (decide ((46 : Int) + (i : Int) ≤ 50))]) np8
        refine ⟨p8, 4, [V.bl (decide ((46 : Int) + (i : Int) ≤ 50))], rfl, rfl, upd_same, by decide, by decide, by show 1 * 4 ≤ sizeLine; decide, fun p9 np9 => ?_⟩
        have k19 := same_upd (o := .lst [V.bl (decide ((46 : Int) + (i : Int) ≤ 50)), .bl (decide ((46 : Int) + (i : Int) ≤ 50)), .bl (decide ((46 : Int) + (i : Int) ≤ 50)), .bl (decide ((46 : Int) + (i : Int) ≤ 50))]) np9
        refine ⟨.list [.bool (decide ((46 : Int) + (i : Int) ≤ 50)), .bool (decide ((46 : Int) + (i : Int) ≤ 50)), .bool (decide ((46 : Int) + (i : Int) ≤ 50)), .bool (decide ((46 : Int) + (i : Int) ≤ 50))], .list [.bool (decide ((46 : Int) + (i : Int) ≤ 50)), .bool (decide ((46 : Int) + (i : Int) ≤ 50)), .bool (decide ((46 : Int) + (i : Int) ≤ 50)), .bool (decide ((46 : Int) + (i : Int) ≤ 50))], .lst (.inl (.inl (k19 _ _ (k18 _ _ hD)))) (.cons (.bl _) (.cons (.bl _) (.cons (.bl _) (.cons (.bl _) .nil)))), .lst (.inl (.inl upd_same)) (.cons (.bl _) (.cons (.bl _) (.cons (.bl _) (.cons (.bl _) .nil)))), ?_, ?_, _, rfl, ?_⟩
        · generalize (decide ((46 : Int) + (i : Int) ≤ 50)) = b
          cases b <;> decide +kernel
        · generalize (decide ((46 : Int) + (i : Int) ≤ 50)) = b
          cases b <;> decide +kernel
        have eN2 : (!PyData.eqv (.list [.bool (decide ((46 : Int) + (i : Int) ≤ 50)), .bool (decide ((46 : Int) + (i : Int) ≤ 50)), .bool (decide ((46 : Int) + (i : Int) ≤ 50)), .bool (decide ((46 : Int) + (i : Int) ≤ 50))]) (.list [.bool (decide ((46 : Int) + (i : Int) ≤ 50)), .bool (decide ((46 : Int) + (i : Int) ≤ 50)), .bool (decide ((46 : Int) + (i : Int) ≤ 50)), .bool (decide ((46 : Int) + (i : Int) ≤ 50))])) = false := by
          generalize (decide ((46 : Int) + (i : Int) ≤ 50)) = b
          cases b <;> simp [PyData.eqv, PyData.eqvAll]
        rw [eN2]
        exact iteF ⟨_, _, rfl, ((smL.trans s2).trans k18).trans k19⟩
    obtain ⟨z3, z4, rfl, sm1⟩ := hPv
    have hS7 := sm1.seq hS
    refine ⟨_, rfl, a, _, rfl, .inl hS7, _, _, rfl, _, _, rfl, _, rfl, ?_⟩
    have hN : ∃ N : Nat, (if (if (8 : Int) < ((ns.map V.int).length : Nat) then (8 : Int) else ((ns.map V.int).length : Nat)) > 1 then (if (8 : Int) < ((ns.map V.int).length : Nat) then (8 : Int) else ((ns.map V.int).length : Nat)) else 1) = (N : Int) ∧ N ≤ 8 := by
      refine ⟨(if (if (8 : Int) < ((ns.map V.int).length : Nat) then (8 : Int) else ((ns.map V.int).length : Nat)) > 1 then (if (8 : Int) < ((ns.map V.int).length : Nat) then (8 : Int) else ((ns.map V.int).length : Nat)) else 1).toNat, ?_, ?_⟩
      · split <;> split <;> omega
      · split <;> split <;> omega
    obtain ⟨N, eN, hN8⟩ := hN
    rw [eN]
    refine ⟨by omega, by omega, ?_⟩
    refine for_range (lo := 0) (n := N) (fun i σ H' => ∃ z5 z6 z7 : Option V, σ = [some (.ref a), some v, z2, z3, z4, z5, z6, z7, none] ∧ SqL K H' a (ns.map V.int)) ⟨_, _, _, rfl, hS7⟩ (fun i σ Hk hi hPv => ?_) (fun σ Hk _ => q _)
    obtain ⟨z5, z6, z7, rfl, hSk⟩ := hPv
    refine ⟨_, rfl, _, rfl, a, ns, i, congrArg (fun z => [V.ref a, V.int z]) (show (0 : Int) + (i : Int) = (i : Int) by omega), hSk, hlen, by omega, fun Hp p smp np hp => ?_⟩
    refine ⟨20, rfl, by decide, by decide, ?_⟩
    refine for_range (lo := 0) (n := 20) (fun j σ H' => ∃ z7 : Option V, σ = [some (.ref a), some v, z2, z3, z4, some (.int (0 + (i : Int))), some (.ref p), z7, none] ∧ Same Hk H' ∧ PoolAt H' p) ⟨_, rfl, smp, hp⟩ (fun j σ Hj hj hPv => ?_) (fun σ Hj hPv => ?_)
    · obtain ⟨z7, rfl, smj, hpj⟩ := hPv
      refine ⟨_, rfl, p, 3, rfl, by decide, by decide, hpj, fun t v1 G1 gd1 th1 off1 hp1 => ?_⟩
      refine ⟨t, v1, rfl, th1, gd1, fun G2 s2 => ⟨_, rfl, ?_⟩⟩
      refine ⟨_, rfl, fun b o eb => ?_, hp1.same s2⟩
      exact s2 _ _ (off1 _ _ (ne_of_none eb np) (smj _ _ eb))
    · obtain ⟨z7, rfl, smj, hpj⟩ := hPv
      exact ⟨_, _, _, rfl, smj.seq hSk⟩
end
end My
namespace My
open PySem PySem.Spec PyProof.Rows L2
theorem ltS_eq : ltS = ⟨#[97, 98, 99, 100, 101, 102, 103, 104, 105, 106, 107, 108, 109, 110, 111, 112, 113, 114, 115, 116, 117, 118, 119, 120, 121, 122]⟩ := by decide +kernel
theorem ldS_eq : ldS = ⟨#[97, 98, 99, 100, 101, 102, 103, 104, 105, 106, 107, 108, 109, 110, 111, 112, 113, 114, 115, 116, 117, 118, 119, 120, 121, 122, 48, 49, 50, 51, 52, 53, 54, 55, 56, 57]⟩ := by decide +kernel
theorem bound_eq : (10 : Int) ^ 60 = 1000000000000000000000000000000000000000000000000000000000000 := by decide +kernel
theorem all_mk {l : PySem.W.OpenLaw} {w : World} {K : PySem.W.Frag} {h : Heap} {mg : Str → Option Value} {fa f1 f2 f3 f4 f5 f6 f7 f8 f9 f10 f11 f12 f13 f14 f15 f16 f17 f18 f19 : Addr} (X : K.In h) (G : h.Ns mainGlobals mg) (hfa : mg "law" = some (.ref fa))
    {od1 an1 od2 an2 od3 an3 od4 an4 od5 an5 od6 an6 od7 an7 od8 an8 od9 an9 od10 an10 od11 an11 od12 an12 od13 an13 od14 an14 od15 an15 od16 an16 od17 an17 od18 an18 od19 an19 : Option Addr} {sl1 sl2 sl3 sl4 sl5 sl6 sl7 sl8 sl9 sl10 sl11 sl12 sl13 sl14 sl15 sl16 sl17 sl18 sl19 : Array (Option Value)} {oc1 kV1 dc1 pm1 cd1 ct1 oc2 kV2 dc2 pm2 cd2 ct2 oc3 kV3 dc3 pm3 cd3 ct3 oc4 kV4 dc4 pm4 cd4 ct4 oc5 kV5 dc5 pm5 cd5 ct5 oc6 kV6 dc6 pm6 cd6 ct6 oc7 kV7 dc7 pm7 cd7 ct7 oc8 kV8 dc8 pm8 cd8 ct8 oc9 kV9 dc9 pm9 cd9 ct9 oc10 kV10 dc10 pm10 cd10 ct10 oc11 kV11 dc11 pm11 cd11 ct11 oc12 kV12 dc12 pm12 cd12 ct12 oc13 kV13 dc13 pm13 cd13 ct13 oc14 kV14 dc14 pm14 cd14 ct14 oc15 kV15 dc15 pm15 cd15 ct15 oc16 kV16 dc16 pm16 cd16 ct16 oc17 kV17 dc17 pm17 cd17 ct17 oc18 kV18 dc18 pm18 cd18 ct18 oc19 kV19 dc19 pm19 cd19 ct19 : Value}
    {tk0 tk1 tk2 tk3 tk4 tk5 tk6 : Tok}
    (a1 : PySem.W.nsIn K mainGlobals "kind_of" = some (some (.ref f1))) (l1 : K.lookup f1 = some ⟨oc1, od1, .func (PySem.W.fnOf "kind_of" "kind_of" (defArgs sKind) (defBody sKind) (defScope sKind) .none kV1 dc1 pm1 an1 cd1 ct1), sl1⟩) (c1 : PySem.W.codeIn K cd1 "kind_of" = true) (k1 : PySem.W.keepIn K (.ref f1) = true)
    (a2 : PySem.W.nsIn K mainGlobals "is_value" = some (some (.ref f2))) (l2 : K.lookup f2 = some ⟨oc2, od2, .func (PySem.W.fnOf "is_value" "is_value" (defArgs sIsValue) (defBody sIsValue) (defScope sIsValue) .none kV2 dc2 pm2 an2 cd2 ct2), sl2⟩) (c2 : PySem.W.codeIn K cd2 "is_value" = true) (k2 : PySem.W.keepIn K (.ref f2) = true)
    (a3 : PySem.W.nsIn K mainGlobals "is_plain_value" = some (some (.ref f3))) (l3 : K.lookup f3 = some ⟨oc3, od3, .func (PySem.W.fnOf "is_plain_value" "is_plain_value" (defArgs sIsPlain) (defBody sIsPlain) (defScope sIsPlain) .none kV3 dc3 pm3 an3 cd3 ct3), sl3⟩) (c3 : PySem.W.codeIn K cd3 "is_plain_value" = true) (k3 : PySem.W.keepIn K (.ref f3) = true)
    (a4 : PySem.W.nsIn K mainGlobals "is_text" = some (some (.ref f4))) (l4 : K.lookup f4 = some ⟨oc4, od4, .func (PySem.W.fnOf "is_text" "is_text" (defArgs sIsText) (defBody sIsText) (defScope sIsText) .none kV4 dc4 pm4 an4 cd4 ct4), sl4⟩) (c4 : PySem.W.codeIn K cd4 "is_text" = true) (k4 : PySem.W.keepIn K (.ref f4) = true)
    (a5 : PySem.W.nsIn K mainGlobals "has_only" = some (some (.ref f5))) (l5 : K.lookup f5 = some ⟨oc5, od5, .func (PySem.W.fnOf "has_only" "has_only" (defArgs sHasOnly) (defBody sHasOnly) (defScope sHasOnly) .none kV5 dc5 pm5 an5 cd5 ct5), sl5⟩) (c5 : PySem.W.codeIn K cd5 "has_only" = true) (k5 : PySem.W.keepIn K (.ref f5) = true)
    (a6 : PySem.W.nsIn K mainGlobals "is_list" = some (some (.ref f6))) (l6 : K.lookup f6 = some ⟨oc6, od6, .func (PySem.W.fnOf "is_list" "is_list" (defArgs sIsList) (defBody sIsList) (defScope sIsList) .none kV6 dc6 pm6 an6 cd6 ct6), sl6⟩) (c6 : PySem.W.codeIn K cd6 "is_list" = true) (k6 : PySem.W.keepIn K (.ref f6) = true)
    (a7 : PySem.W.nsIn K mainGlobals "is_key" = some (some (.ref f7))) (l7 : K.lookup f7 = some ⟨oc7, od7, .func (PySem.W.fnOf "is_key" "is_key" (defArgs sIsKey) (defBody sIsKey) (defScope sIsKey) .none kV7 dc7 pm7 an7 cd7 ct7), sl7⟩) (c7 : PySem.W.codeIn K cd7 "is_key" = true) (k7 : PySem.W.keepIn K (.ref f7) = true)
    (a8 : PySem.W.nsIn K mainGlobals "is_name" = some (some (.ref f8))) (l8 : K.lookup f8 = some ⟨oc8, od8, .func (PySem.W.fnOf "is_name" "is_name" (defArgs sIsName) (defBody sIsName) (defScope sIsName) .none kV8 dc8 pm8 an8 cd8 ct8), sl8⟩) (c8 : PySem.W.codeIn K cd8 "is_name" = true) (k8 : PySem.W.keepIn K (.ref f8) = true)
    (a9 : PySem.W.nsIn K mainGlobals "is_state" = some (some (.ref f9))) (l9 : K.lookup f9 = some ⟨oc9, od9, .func (PySem.W.fnOf "is_state" "is_state" (defArgs sIsState) (defBody sIsState) (defScope sIsState) .none kV9 dc9 pm9 an9 cd9 ct9), sl9⟩) (c9 : PySem.W.codeIn K cd9 "is_state" = true) (k9 : PySem.W.keepIn K (.ref f9) = true)
    (a10 : PySem.W.nsIn K mainGlobals "_law_pool" = some (some (.ref f10))) (l10 : K.lookup f10 = some ⟨oc10, od10, .func (PySem.W.fnOf "_law_pool" "_law_pool" (defArgs sPool) (defBody sPool) (defScope sPool) .none kV10 dc10 pm10 an10 cd10 ct10), sl10⟩) (c10 : PySem.W.codeIn K cd10 "_law_pool" = true) (k10 : PySem.W.keepIn K (.ref f10) = true)
    (a11 : PySem.W.nsIn K mainGlobals "_law_draw" = some (some (.ref f11))) (l11 : K.lookup f11 = some ⟨oc11, od11, .func (PySem.W.fnOf "_law_draw" "_law_draw" (defArgs sDraw) (defBody sDraw) (defScope sDraw) .none kV11 dc11 pm11 an11 cd11 ct11), sl11⟩) (c11 : PySem.W.codeIn K cd11 "_law_draw" = true) (k11 : PySem.W.keepIn K (.ref f11) = true)
    (a12 : PySem.W.nsIn K mainGlobals "_law_value" = some (some (.ref f12))) (l12 : K.lookup f12 = some ⟨oc12, od12, .func (PySem.W.fnOf "_law_value" "_law_value" (defArgs sLValue) (defBody sLValue) (defScope sLValue) .none kV12 dc12 pm12 an12 cd12 ct12), sl12⟩) (c12 : PySem.W.codeIn K cd12 "_law_value" = true) (k12 : PySem.W.keepIn K (.ref f12) = true)
    (a13 : PySem.W.nsIn K mainGlobals "_law_text" = some (some (.ref f13))) (l13 : K.lookup f13 = some ⟨oc13, od13, .func (PySem.W.fnOf "_law_text" "_law_text" (defArgs sLText) (defBody sLText) (defScope sLText) .none kV13 dc13 pm13 an13 cd13 ct13), sl13⟩) (c13 : PySem.W.codeIn K cd13 "_law_text" = true) (k13 : PySem.W.keepIn K (.ref f13) = true)
    (a14 : PySem.W.nsIn K mainGlobals "_law_name" = some (some (.ref f14))) (l14 : K.lookup f14 = some ⟨oc14, od14, .func (PySem.W.fnOf "_law_name" "_law_name" (defArgs sLName) (defBody sLName) (defScope sLName) .none kV14 dc14 pm14 an14 cd14 ct14), sl14⟩) (c14 : PySem.W.codeIn K cd14 "_law_name" = true) (k14 : PySem.W.keepIn K (.ref f14) = true)
    (a15 : PySem.W.nsIn K mainGlobals "_law_thing" = some (some (.ref f15))) (l15 : K.lookup f15 = some ⟨oc15, od15, .func (PySem.W.fnOf "_law_thing" "_law_thing" (defArgs sThing) (defBody sThing) (defScope sThing) .none kV15 dc15 pm15 an15 cd15 ct15), sl15⟩) (c15 : PySem.W.codeIn K cd15 "_law_thing" = true) (k15 : PySem.W.keepIn K (.ref f15) = true)
    (a16 : PySem.W.nsIn K mainGlobals "_law_count" = some (some (.ref f16))) (l16 : K.lookup f16 = some ⟨oc16, od16, .func (PySem.W.fnOf "_law_count" "_law_count" (defArgs sCount) (defBody sCount) (defScope sCount) .none kV16 dc16 pm16 an16 cd16 ct16), sl16⟩) (c16 : PySem.W.codeIn K cd16 "_law_count" = true) (k16 : PySem.W.keepIn K (.ref f16) = true)
    (a17 : PySem.W.nsIn K mainGlobals "_law_good" = some (some (.ref f17))) (l17 : K.lookup f17 = some ⟨oc17, od17, .func (PySem.W.fnOf "_law_good" "_law_good" (defArgs sGood) (defBody sGood) (defScope sGood) .none kV17 dc17 pm17 an17 cd17 ct17), sl17⟩) (c17 : PySem.W.codeIn K cd17 "_law_good" = true) (k17 : PySem.W.keepIn K (.ref f17) = true)
    (a18 : PySem.W.nsIn K mainGlobals "_law_holds" = some (some (.ref f18))) (l18 : K.lookup f18 = some ⟨oc18, od18, .func (PySem.W.fnOf "_law_holds" "_law_holds" (defArgs sHolds) (defBody sHolds) (defScope sHolds) .none kV18 dc18 pm18 an18 cd18 ct18), sl18⟩) (c18 : PySem.W.codeIn K cd18 "_law_holds" = true) (k18 : PySem.W.keepIn K (.ref f18) = true)
    (a19 : PySem.W.nsIn K mainGlobals "law" = some (some (.ref f19))) (l19 : K.lookup f19 = some ⟨oc19, od19, .func (PySem.W.fnOf "law" "law" (defArgs sLaw) (defBody sLaw) (defScope sLaw) .none kV19 dc19 pm19 an19 cd19 ct19), sl19⟩) (c19 : PySem.W.codeIn K cd19 "law" = true) (k19 : PySem.W.keepIn K (.ref f19) = true)
    (z_sum : PySem.W.nsIn K mainGlobals "sum" = some none)
    (z_len : PySem.W.nsIn K mainGlobals "len" = some none)
    (z_abs : PySem.W.nsIn K mainGlobals "abs" = some none)
    (z_int : PySem.W.nsIn K mainGlobals "int" = some none)
    (z_isinstance : PySem.W.nsIn K mainGlobals "isinstance" = some none)
    (z_bool : PySem.W.nsIn K mainGlobals "bool" = some none)
    (z_str : PySem.W.nsIn K mainGlobals "str" = some none)
    (z_tuple : PySem.W.nsIn K mainGlobals "tuple" = some none)
    (z_list : PySem.W.nsIn K mainGlobals "list" = some none)
    (z_dict : PySem.W.nsIn K mainGlobals "dict" = some none)
    (z_range : PySem.W.nsIn K mainGlobals "range" = some none)
    (z_all : PySem.W.nsIn K mainGlobals "all" = some none)
    (z_max : PySem.W.nsIn K mainGlobals "max" = some none)
    (z_min : PySem.W.nsIn K mainGlobals "min" = some none)
    (v_LETTERS : PySem.W.nsIn K mainGlobals "LETTERS" = some (some (.str ⟨#[97, 98, 99, 100, 101, 102, 103, 104, 105, 106, 107, 108, 109, 110, 111, 112, 113, 114, 115, 116, 117, 118, 119, 120, 121, 122]⟩ tk0)))
    (v_LETTERS_AND_DIGITS : PySem.W.nsIn K mainGlobals "LETTERS_AND_DIGITS" = some (some (.str ⟨#[97, 98, 99, 100, 101, 102, 103, 104, 105, 106, 107, 108, 109, 110, 111, 112, 113, 114, 115, 116, 117, 118, 119, 120, 121, 122, 48, 49, 50, 51, 52, 53, 54, 55, 56, 57]⟩ tk1)))
    (v_INTEGER_BOUND : PySem.W.nsIn K mainGlobals "INTEGER_BOUND" = some (some (.int 1000000000000000000000000000000000000000000000000000000000000 tk2)))
    (v_LONGEST_TEXT : PySem.W.nsIn K mainGlobals "LONGEST_TEXT" = some (some (.int 60 tk3)))
    (v_LONGEST_NAME : PySem.W.nsIn K mainGlobals "LONGEST_NAME" = some (some (.int 12 tk4)))
    (v_DEEPEST_LIST : PySem.W.nsIn K mainGlobals "DEEPEST_LIST" = some (some (.int 5 tk5)))
    (v_MOST_VALUES : PySem.W.nsIn K mainGlobals "MOST_VALUES" = some (some (.int 50 tk6)))
    : ∃ fd : FuncData, (∀ (s : Shared) (v : Value), BindsTo s fd ⟨[v], []⟩ [("_law_script", v)]) ∧ ∀ base : Heap, K.In base → base.Ns mainGlobals mg → FnOk l.prog w K mg base CX0 13 fa fd ["_law_script"] (spLaw K) := by
  have e := hfa.symm.trans (PySem.W.mg_of X G a19)
  cases e
  have F1 := fun_mk (st := sKind) l1 c1 k1
  have g1 := PySem.W.mg_of X G a1
  have b1 := F1.binds (ps := ["value"]) fun _ _ _ _ _ _ us hl => match us, hl with | [_], _ => rfl
  have F2 := fun_mk (st := sIsValue) l2 c2 k2
  have g2 := PySem.W.mg_of X G a2
  have b2 := F2.binds (ps := ["value"]) fun _ _ _ _ _ _ us hl => match us, hl with | [_], _ => rfl
  have F3 := fun_mk (st := sIsPlain) l3 c3 k3
  have g3 := PySem.W.mg_of X G a3
  have b3 := F3.binds (ps := ["value"]) fun _ _ _ _ _ _ us hl => match us, hl with | [_], _ => rfl
  have F4 := fun_mk (st := sIsText) l4 c4 k4
  have g4 := PySem.W.mg_of X G a4
  have b4 := F4.binds (ps := ["value"]) fun _ _ _ _ _ _ us hl => match us, hl with | [_], _ => rfl
  have F5 := fun_mk (st := sHasOnly) l5 c5 k5
  have g5 := PySem.W.mg_of X G a5
  have b5 := F5.binds (ps := ["text", "characters"]) fun _ _ _ _ _ _ us hl => match us, hl with | [_, _], _ => rfl
  have F6 := fun_mk (st := sIsList) l6 c6 k6
  have g6 := PySem.W.mg_of X G a6
  have b6 := F6.binds (ps := ["value"]) fun _ _ _ _ _ _ us hl => match us, hl with | [_], _ => rfl
  have F7 := fun_mk (st := sIsKey) l7 c7 k7
  have g7 := PySem.W.mg_of X G a7
  have b7 := F7.binds (ps := ["value"]) fun _ _ _ _ _ _ us hl => match us, hl with | [_], _ => rfl
  have F8 := fun_mk (st := sIsName) l8 c8 k8
  have g8 := PySem.W.mg_of X G a8
  have b8 := F8.binds (ps := ["value"]) fun _ _ _ _ _ _ us hl => match us, hl with | [_], _ => rfl
  have F9 := fun_mk (st := sIsState) l9 c9 k9
  have g9 := PySem.W.mg_of X G a9
  have b9 := F9.binds (ps := ["value"]) fun _ _ _ _ _ _ us hl => match us, hl with | [_], _ => rfl
  have F10 := fun_mk (st := sPool) l10 c10 k10
  have g10 := PySem.W.mg_of X G a10
  have b10 := F10.binds (ps := ["_law_script", "_law_k"]) fun _ _ _ _ _ _ us hl => match us, hl with | [_, _], _ => rfl
  have F11 := fun_mk (st := sDraw) l11 c11 k11
  have g11 := PySem.W.mg_of X G a11
  have b11 := F11.binds (ps := ["_law_pool_here", "_law_many"]) fun _ _ _ _ _ _ us hl => match us, hl with | [_, _], _ => rfl
  have F12 := fun_mk (st := sLValue) l12 c12 k12
  have g12 := PySem.W.mg_of X G a12
  have b12 := F12.binds (ps := ["_law_thing_here", "_law_levels"]) fun _ _ _ _ _ _ us hl => match us, hl with | [_, _], _ => rfl
  have F13 := fun_mk (st := sLText) l13 c13 k13
  have g13 := PySem.W.mg_of X G a13
  have b13 := F13.binds (ps := ["_law_thing_here", "_law_least"]) fun _ _ _ _ _ _ us hl => match us, hl with | [_, _], _ => rfl
  have F14 := fun_mk (st := sLName) l14 c14 k14
  have g14 := PySem.W.mg_of X G a14
  have b14 := F14.binds (ps := ["_law_thing_here"]) fun _ _ _ _ _ _ us hl => match us, hl with | [_], _ => rfl
  have F15 := fun_mk (st := sThing) l15 c15 k15
  have g15 := PySem.W.mg_of X G a15
  have b15 := F15.binds (ps := ["_law_pool_here", "_law_depth"]) fun _ _ _ _ _ _ us hl => match us, hl with | [_, _], _ => rfl
  have F16 := fun_mk (st := sCount) l16 c16 k16
  have g16 := PySem.W.mg_of X G a16
  have b16 := F16.binds (ps := ["_law_thing_here"]) fun _ _ _ _ _ _ us hl => match us, hl with | [_], _ => rfl
  have F17 := fun_mk (st := sGood) l17 c17 k17
  have g17 := PySem.W.mg_of X G a17
  have b17 := F17.binds (ps := ["_law_thing_here"]) fun _ _ _ _ _ _ us hl => match us, hl with | [_], _ => rfl
  have F18 := fun_mk (st := sHolds) l18 c18 k18
  have g18 := PySem.W.mg_of X G a18
  have b18 := F18.binds (ps := ["_law_thing_here"]) fun _ _ _ _ _ _ us hl => match us, hl with | [_], _ => rfl
  have F19 := fun_mk (st := sLaw) l19 c19 k19
  have m_sum := PySem.W.mg_none_of X G z_sum
  have m_len := PySem.W.mg_none_of X G z_len
  have m_abs := PySem.W.mg_none_of X G z_abs
  have m_int := PySem.W.mg_none_of X G z_int
  have m_isinstance := PySem.W.mg_none_of X G z_isinstance
  have m_bool := PySem.W.mg_none_of X G z_bool
  have m_str := PySem.W.mg_none_of X G z_str
  have m_tuple := PySem.W.mg_none_of X G z_tuple
  have m_list := PySem.W.mg_none_of X G z_list
  have m_dict := PySem.W.mg_none_of X G z_dict
  have m_range := PySem.W.mg_none_of X G z_range
  have m_all := PySem.W.mg_none_of X G z_all
  have m_max := PySem.W.mg_none_of X G z_max
  have m_min := PySem.W.mg_none_of X G z_min
  have v1 : ∃ t, mg "LETTERS" = some (.str ltS t) := ⟨_, by rw [ltS_eq]; exact PySem.W.mg_of X G v_LETTERS⟩
  have v2 : ∃ t, mg "LETTERS_AND_DIGITS" = some (.str ldS t) := ⟨_, by rw [ldS_eq]; exact PySem.W.mg_of X G v_LETTERS_AND_DIGITS⟩
  have v3 : ∃ t, mg "INTEGER_BOUND" = some (.int (10 ^ 60) t) := ⟨_, by rw [bound_eq]; exact PySem.W.mg_of X G v_INTEGER_BOUND⟩
  have v4 : ∃ t, mg "LONGEST_TEXT" = some (.int 60 t) := ⟨_, PySem.W.mg_of X G v_LONGEST_TEXT⟩
  have v5 : ∃ t, mg "LONGEST_NAME" = some (.int 12 t) := ⟨_, PySem.W.mg_of X G v_LONGEST_NAME⟩
  have v6 : ∃ t, mg "DEEPEST_LIST" = some (.int 5 t) := ⟨_, PySem.W.mg_of X G v_DEEPEST_LIST⟩
  have v7 : ∃ t, mg "MOST_VALUES" = some (.int 50 t) := ⟨_, PySem.W.mg_of X G v_MOST_VALUES⟩
  have TKx : TxtK mg := ⟨m_isinstance, m_bool, m_int, m_str, m_tuple⟩
  have TVx : TxtV mg := ⟨m_len, v1, v2, v3, v4, v5⟩
  have TIx : TxtI mg := ⟨m_sum, m_range, m_all, m_len, v6, v7⟩
  have TSx : TxtS mg := ⟨m_isinstance, m_all, m_dict⟩
  have TLx : TxtL mg := ⟨m_isinstance, m_len, m_str, m_int, m_bool, m_tuple, m_abs, m_sum, m_list, m_dict⟩
  exact ⟨_, fun s v => .of_eq rfl, fun base _ _ =>
    have GT : FnOk l.prog w K mg base CX0 2 f4 _ ["value"] (spB isText) := ok_isText F4 F1 b1 g1 TKx F5 b5 g5 TVx
    have GX : FnOk l.prog w K mg base CX0 3 f3 _ ["value"] (spB isPlain) := ok_isPlain F3 F1 b1 g1 TKx F4 b4 g4 GT TVx
    have GY : FnOk l.prog w K mg base CX0 3 f7 _ ["value"] (spB isKey) := ok_isKey F7 F4 b4 g4 GT TVx
    have GL : FnOk l.prog w K mg base CX0 4 f6 _ ["value"] spIsList := ok_isList F6 F1 b1 g1 TKx F3 b3 g3 GX TIx
    have GV : FnOk l.prog w K mg base CX0 5 f2 _ ["value"] spVal := ok_isVal F2 F1 b1 g1 TKx F6 b6 g6 GL F3 b3 g3 GX
    ok_law F19 F2 b2 g2 GV F10 b10 g10 (ok_pool F10 ⟨m_sum, m_len, m_abs, m_int⟩) F15 b15 g15 (ok_thing F15 b15 g15 F11 b11 g11 ⟨m_tuple, m_range, m_int⟩ 4 (by decide))
      F18 b18 g18 (ok_holds F18 TLx F2 b2 g2 GV F17 b17 g17 (ok_good F17 F12 b12 g12 (ok_lVal F12 b12 g12 TLx F13 b13 g13 6) F16 b16 g16 (ok_cnt F16 b16 g16 TLx 9)) F7 b7 g7 GY F13 b13 g13 F8 b8 g8 (ok_isName F8 F7 b7 g7 GY F5 b5 g5 TVx) F14 b14 g14
        F9 b9 g9 (ok_isState F9 F7 b7 g7 GY F2 b2 g2 GV TSx)) ⟨m_range, m_max, m_min, m_len⟩⟩
theorem walk {l : PySem.W.OpenLaw} {q : Program} {loose : List Str} {XP : (Str → Option Value) → Heap → Prop} {YP : World → Heap → Prop} {d : DefRec} {K : Params → PySem.W.Frag} (hn : l.most = some 63) (hdf : d.params.defaults = [])
    (hY : ∀ (w : World) (h : Heap), YP w h → (K w.params).In h)
    (F : ∀ (w : World) (mg : Str → Option Value) (fa : Addr) (h : Heap), (K w.params).In h → h.Ns mainGlobals mg → mg d.name = some (.ref fa) →
      ∃ fd : FuncData, (∀ (s : Shared) (u : Value), BindsTo s fd ⟨[u], []⟩ [("_law_script", u)]) ∧ ∀ base : Heap, (K w.params).In base → base.Ns mainGlobals mg → FnOk l.prog w (K w.params) mg base CX0 13 fa fd ["_law_script"] (spLaw (K w.params))) :
    PySem.W.WalkO q loose XP YP l.row.toRowW d [] (fun f vs => PySem.call f vs) :=
  L2.walk_of (n := 63) (k := 13) (x := "_law_script") (CX := fun _ => CX0) (sp := fun w => spLaw (K w.params)) hn (by decide) hdf ⟨rfl, by decide, by decide⟩ hY F (fun _ _ a ns hl _ hS => ⟨a, ns, rfl, hS, hl, fun _ => rfl⟩) fun _ _ _ _ _ z => z
end My

open PySem PySem.W PyProof.Rows in
set_option maxRecDepth 100000 in
set_option maxHeartbeats 0 in
theorem PySem.Challenge.cw_mendedruns_k01_values_keys_and_names_holds : PySem.Challenge.rw_mendedruns_k01_values_keys_and_names.Holds := by
  w_on; o_law; k_head; (case hw => w_witness2)
  k_fill
  refine My.walk (l := PySem.Challenge.rw_mendedruns_k01_values_keys_and_names) rfl rfl (fun w h Y => PySem.W.kIn_of Y) ?F
  case F =>
    intro w mg fa h KX G hmg
    refine' My.all_mk KX G hmg ?a1 ?l1 ?c1 ?k1 ?a2 ?l2 ?c2 ?k2 ?a3 ?l3 ?c3 ?k3 ?a4 ?l4 ?c4 ?k4 ?a5 ?l5 ?c5 ?k5 ?a6 ?l6 ?c6 ?k6 ?a7 ?l7 ?c7 ?k7 ?a8 ?l8 ?c8 ?k8 ?a9 ?l9 ?c9 ?k9 ?a10 ?l10 ?c10 ?k10 ?a11 ?l11 ?c11 ?k11 ?a12 ?l12 ?c12 ?k12 ?a13 ?l13 ?c13 ?k13 ?a14 ?l14 ?c14 ?k14 ?a15 ?l15 ?c15 ?k15 ?a16 ?l16 ?c16 ?k16 ?a17 ?l17 ?c17 ?k17 ?a18 ?l18 ?c18 ?k18 ?a19 ?l19 ?c19 ?k19 ?z_sum ?z_len ?z_abs ?z_int ?z_isinstance ?z_bool ?z_str ?z_tuple ?z_list ?z_dict ?z_range ?z_all ?z_max ?z_min ?v_LETTERS ?v_LETTERS_AND_DIGITS ?v_INTEGER_BOUND ?v_LONGEST_TEXT ?v_LONGEST_NAME ?v_DEEPEST_LIST ?v_MOST_VALUES
    (case a1 => k_is)
    (case l1 => k_is)
    (case c1 => k_is)
    (case k1 => k_is)
    (case a2 => k_is)
    (case l2 => k_is)
    (case c2 => k_is)
    (case k2 => k_is)
    (case a3 => k_is)
    (case l3 => k_is)
    (case c3 => k_is)
    (case k3 => k_is)
    (case a4 => k_is)
    (case l4 => k_is)
    (case c4 => k_is)
    (case k4 => k_is)
    (case a5 => k_is)
    (case l5 => k_is)
    (case c5 => k_is)
    (case k5 => k_is)
    (case a6 => k_is)
    (case l6 => k_is)
    (case c6 => k_is)
    (case k6 => k_is)
    (case a7 => k_is)
    (case l7 => k_is)
    (case c7 => k_is)
    (case k7 => k_is)
    (case a8 => k_is)
    (case l8 => k_is)
    (case c8 => k_is)
    (case k8 => k_is)
    (case a9 => k_is)
    (case l9 => k_is)
    (case c9 => k_is)
    (case k9 => k_is)
    (case a10 => k_is)
    (case l10 => k_is)
    (case c10 => k_is)
    (case k10 => k_is)
    (case a11 => k_is)
    (case l11 => k_is)
    (case c11 => k_is)
    (case k11 => k_is)
    (case a12 => k_is)
    (case l12 => k_is)
    (case c12 => k_is)
    (case k12 => k_is)
    (case a13 => k_is)
    (case l13 => k_is)
    (case c13 => k_is)
    (case k13 => k_is)
    (case a14 => k_is)
    (case l14 => k_is)
    (case c14 => k_is)
    (case k14 => k_is)
    (case a15 => k_is)
    (case l15 => k_is)
    (case c15 => k_is)
    (case k15 => k_is)
    (case a16 => k_is)
    (case l16 => k_is)
    (case c16 => k_is)
    (case k16 => k_is)
    (case a17 => k_is)
    (case l17 => k_is)
    (case c17 => k_is)
    (case k17 => k_is)
    (case a18 => k_is)
    (case l18 => k_is)
    (case c18 => k_is)
    (case k18 => k_is)
    (case a19 => k_is)
    (case l19 => k_is)
    (case c19 => k_is)
    (case k19 => k_is)
    (case z_sum => k_is)
    (case z_len => k_is)
    (case z_abs => k_is)
    (case z_int => k_is)
    (case z_isinstance => k_is)
    (case z_bool => k_is)
    (case z_str => k_is)
    (case z_tuple => k_is)
    (case z_list => k_is)
    (case z_dict => k_is)
    (case z_range => k_is)
    (case z_all => k_is)
    (case z_max => k_is)
    (case z_min => k_is)
    (case v_LETTERS => k_is)
    (case v_LETTERS_AND_DIGITS => k_is)
    (case v_INTEGER_BOUND => k_is)
    (case v_LONGEST_TEXT => k_is)
    (case v_LONGEST_NAME => k_is)
    (case v_DEEPEST_LIST => k_is)
    (case v_MOST_VALUES => k_is)

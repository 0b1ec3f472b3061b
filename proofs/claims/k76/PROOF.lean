import PyProof.Rows.All
import Wide.All
import OpenK.AllK
import Wide.FinOn
import HandS.ForMost
import HandS.IsInst
import HandS.Codes
import HandS.TupAny
import HandS.TupLe
import HandS.Zip
import HandS.RaiseMore
import HandS.StrMore
import HandS.DictTup
import HandS.Wide
import HandS.Replace
import HandS.ReplaceList
import HandS.ReplaceLit
import HandS.Text
import HandS.Conv
import KE.KDictDisplayH
import KE.KDictCopyH
import HandS.ReplaceDef
import HandS.Base
import HandS.Call
import HandS.List
import HandS.Dict
import HandS.More
import PyProof.FitsBits
import PyProof.EqAt
import PyProof.EqKinds
import KE.KEqDict
import PyProof.NeKinds
import KE.IntTextLaws
import KE.KExcSuper
import HandS.Exc
import HandS.ExcSuper
import KE.KExcIs
import HandS.WordsExc
import PyProof.ReprRoads
import HandS.ExcField
import HandS.TryMany
import HandS.ExcOwn
import HandS.Lambda
import HandS.EndTab
import HandS.EndOwn
import PyProof.ReprLen
import HandS.TupMul
import HandS.HeadHook3
import PySem.Challenge.RW_mendedruns_k76_texts_of_values
set_option Elab.async false
set_option linter.all false
set_option maxRecDepth 100000
set_option maxHeartbeats 4000000
namespace My
open PySem PySem.Spec PyProof.Rows L2
/-! ### the text -/
def top (i : Nat) : Stmt := PySem.Challenge.pw_mendedruns_k76_texts_of_values.main.body.getD i (.Pass ⟨0, 0, 0, 0⟩)
abbrev sKind : Stmt := top 12
abbrev sIsValue : Stmt := top 13
abbrev sIsPlain : Stmt := top 14
abbrev sIsText : Stmt := top 15
abbrev sHasOnly : Stmt := top 16
abbrev sIsList : Stmt := top 17
abbrev sCheckString : Stmt := top 19
abbrev sFormatValue : Stmt := top 25
abbrev sParseValue : Stmt := top 26
abbrev sReadValue : Stmt := top 27
abbrev sTextOf : Stmt := top 28
abbrev sNodesOf : Stmt := top 29
abbrev sWordsOf : Stmt := top 30
abbrev sItemsBehind : Stmt := top 31
abbrev sValueOf : Stmt := top 32
abbrev sValueOfWord : Stmt := top 33
abbrev sPool : Stmt := top 35
abbrev sDraw : Stmt := top 36
abbrev sLText : Stmt := top 37
abbrev sRandom : Stmt := top 38
abbrev sLItems : Stmt := top 39
abbrev sTold : Stmt := top 40
abbrev sSpoilt : Stmt := top 41
abbrev sLaw : Stmt := top 42
theorem scPool : FnScope ["_law_script", "_law_k", "_law_cell", "_law_great", "_law_mixed"] ["_law_script", "_law_k"] (defScope sPool) := ⟨rfl, rfl, rfl, by decide +kernel, rfl, by decide +kernel, by decide +kernel⟩
theorem scDraw : FnScope ["_law_pool_here", "_law_many", "_law_found"] ["_law_pool_here", "_law_many"] (defScope sDraw) := ⟨rfl, rfl, rfl, by decide +kernel, rfl, by decide +kernel, by decide +kernel⟩

theorem smallB {n : Nat} (h : n ≤ 4000000) : n < sizeLine := Nat.lt_of_le_of_lt h (by decide)
theorem div60 {g n : Int} (h : 0 < n) (h2 : n ≤ 10 ^ 60) : CDivW g n := wide_div h (b := 200) (by
  have h3 : (10 : Nat) ^ 60 < 2 ^ 200 := by decide
  have h4 : n.natAbs ≤ 10 ^ 60 := by omega
  exact Nat.lt_of_le_of_lt h4 h3) (by decide) (by decide)
/-! ### heaps -/
theorem same_upd {H : Hp} {p : Addr} {o : HO} (h : H p = none) : Same H (upd H p o) := fun b x e => by
  rw [upd_ne (ne_of_none e h)]
  exact e
/-- all that stands elsewhere than at p stays -/
def Off (p : Addr) (H H' : Hp) : Prop := ∀ b o, b ≠ p → H b = some o → H' b = some o
theorem Off.refl (p : Addr) (H : Hp) : Off p H H := fun _ _ _ e => e
theorem Off.trans {p : Addr} {H H1 H2 : Hp} (a : Off p H H1) (b : Off p H1 H2) : Off p H H2 := fun c o n e => b c o n (a c o n e)
theorem Off.of_same {p : Addr} {H H' : Hp} (s : Same H H') : Off p H H' := fun b o _ e => s b o e
theorem Off.upd {p : Addr} {H : Hp} {o : HO} : Off p H (upd H p o) := fun b u n e => by
  rw [upd_ne n]
  exact e
/-- a pool: two numbers -/
def PoolAt (H : Hp) (p : Addr) : Prop := ∃ g m : Int, H p = some (.lst [.int g, .int m]) ∧ 0 ≤ g ∧ 0 ≤ m ∧ m < 2147483647
theorem PoolAt.same {H H' : Hp} {p : Addr} (P : PoolAt H p) (s : Same H H') : PoolAt H' p := by
  obtain ⟨g, m, e, h⟩ := P
  exact ⟨g, m, s _ _ e, h⟩
theorem cut63 {ns : List Int} (h : ns.length ≤ 63) : cutV (ns.map V.int) none (some 63) = ns.map V.int := by
  unfold cutV
  rw [HT.sIx_none, show HT.sIx (ns.map V.int).length (ns.map V.int).length (some 63) = min 63 (ns.map V.int).length from HT.sIx_nat _ _ 63]
  rw [List.drop_zero, List.length_map, Nat.min_eq_right h, Nat.sub_zero]
  exact List.take_of_length_le (by rw [List.length_map]; exact Nat.le_refl _)

structure TxtP (mg : Str → Option Value) : Prop where
  sum : mg "sum" = none
  len : mg "len" = none
  abs : mg "abs" = none
  int : mg "int" = none

def spPool (K : PySem.W.Frag) : Sp := fun vs H Q _ => ∃ (a : Addr) (ns : List Int) (k : Nat), vs = [.ref a, .int (k : Int)] ∧ SqL K H a (ns.map V.int) ∧ ns.length ≤ 63 ∧ k < 64 ∧
  ∀ H' p, Same H H' → H p = none → PoolAt H' p → Q (.ref p) H'
def spDraw : Sp := fun vs H Q _ => ∃ (p : Addr) (n : Int), vs = [.ref p, .int n] ∧ 0 < n ∧ n ≤ 10 ^ 60 ∧ PoolAt H p ∧
  ∀ (r : Int) (g m : Int), 0 ≤ r → r < n → 0 ≤ g → 0 ≤ m → m < 2147483647 → Q (.int r) (upd H p (.lst [.int g, .int m]))
section
variable {P : Program} {w : World} {K : PySem.W.Frag} {mg : Str → Option Value} {base : Heap}
theorem ok_pool {f : Addr} {fd : FuncData} (F : Fun K "_law_pool" "_law_pool" sPool f fd) (T : TxtP mg) : FnOk P w K mg base CX0 1 f fd ["_law_script", "_law_k"] (spPool K) := by
  refine F.ok scPool (fun vs H Q E h => ?_) (fun cdv A outer s H vs Q E hr h => ?_)
  · obtain ⟨a, ns, k, rfl, _⟩ := h
    rfl
  · obtain ⟨a, ns, k, rfl, hS, hlen, hk, q⟩ := h
    refine ⟨_, pss_cons (ps_set (i := 2) scPool.nd rfl (.inl rfl) (pe_op op_add (pe_op op_mul pe_int (pe_callB (cr_sum rfl) (by rfl) T.sum (by decide +kernel) (pa_cons (pe_slice sl_list (pv 0) po_none (po_some pe_int)) pa_nil))) (pv 1)))
      (C8.pss_cut (ps_if (pt_cmpR op_lt (pv 1) (pe_callB call_len_seq (by rfl) T.len PySem.boot_len (pa_cons (pv 0) pa_nil)) (nomark _)) (pss_one (ps_set (i := 2) scPool.nd rfl (.inl rfl) (pe_ix ix_list (pv 0) (pv 1) (fun _ _ => rfl)))) pss_nil)
      (pss_cons (ps_set (i := 3) scPool.nd rfl (.inl rfl) (pe_callB call_abs (by rfl) T.abs (by decide +kernel) (pa_cons (pv 2) pa_nil)))
      (pss_cons (ps_set (i := 4) scPool.nd rfl (.inl rfl) (pe_op op_mod (pe_op op_mul (pe_op op_add (pe_op op_add (pe_op op_add (pe_op op_mod (pv 3) pe_int) (pe_op op_mul (pe_op op_mul pe_int (pv 1)) (pv 1))) (pe_op op_mul pe_int (pv 1))) pe_int) pe_int) pe_int))
      (pss_one (ps_ret (pe_lst (pa_cons (pe_op op_mul (pv 3) (pe_callTy call_int1 (by rfl) T.int (by decide +kernel) (pa_cons (pe_cmpR op_ge (pv 3) (pe_op op_pow pe_int pe_int) (nomark _)) pa_nil))) (pa_cons (pe_op op_mod (pe_op op_mul (pv 4) (pv 4)) pe_int) pa_nil)))))))), ?_⟩
    refine ⟨.ref a, rfl, 63, rfl, a, _, rfl, hS, fun p np => ?_⟩
    rw [cut63 hlen]
    have s1 : Same H (upd H p (.lst (ns.map V.int))) := same_upd np
    refine ⟨p, ns, rfl, .inl (.inl upd_same), _, _, rfl, rfl, .inl ⟨by decide, by decide⟩, _, rfl, _, _, rfl, rfl, ?_⟩
    refine ⟨fun σ H' => H' = upd H p (.lst (ns.map V.int)) ∧ ∃ c : Int, σ = [some (.ref a), some (.int k), some (.int c), none, none], ?_, ?_⟩
    · refine ⟨_, rfl, _, rfl, a, _, rfl, .inl (s1.seq hS), _, _, rfl, rfl, _, rfl, ?_⟩
      refine ite2 (fun hc => ?_) (fun _ => ?_)
      · have hc' := of_decide_eq_true hc
        rw [List.length_map] at hc'
        have hkn : k < ns.length := by omega
        refine ⟨_, rfl, _, rfl, a, _, _, .int ns[k], rfl, rfl, s1.seq hS, atI_nat ?_, ?_⟩
        · rw [List.getElem?_map, List.getElem?_eq_getElem hkn]
          rfl
        · exact ⟨rfl, ns[k], rfl⟩
      · exact ⟨rfl, _, rfl⟩
    · rintro σ' H' ⟨rfl, c, rfl⟩
      refine ⟨_, rfl, c, rfl, ?_⟩
      have hg : ∃ g : Int, (if c < 0 then -c else c) = g ∧ 0 ≤ g := ⟨_, rfl, by split <;> omega⟩
      obtain ⟨g, eg, hg⟩ := hg
      rw [eg]
      refine ⟨_, rfl, _, _, rfl, rfl, by show (0 : Int) < 2147483629; decide, ?_⟩
      refine ⟨_, rfl, _, _, rfl, rfl, .inl ⟨by decide, by decide⟩, _, rfl, _, _, rfl, rfl, .inr ⟨by omega, by omega⟩, _, _, rfl, rfl, ?_⟩
      refine ⟨_, rfl, _, _, rfl, rfl, .inl ⟨by decide, by decide⟩, _, _, rfl, rfl, _, _, rfl, rfl, _, _, rfl, rfl, .inr ⟨by decide, by decide⟩, _, _, rfl, rfl, by show (0 : Int) < 2147483647; decide, ?_⟩
      have hm := Int.emod_nonneg ((g % 2147483629 + 7919 * (k : Int) * (k : Int) + 31 * (k : Int) + 17) * 48271) (show (2147483647 : Int) ≠ 0 by decide)
      have hm2 := Int.emod_lt_of_pos ((g % 2147483629 + 7919 * (k : Int) * (k : Int) + 31 * (k : Int) + 17) * 48271) (show (0 : Int) < 2147483647 by decide)
      generalize em : (g % 2147483629 + 7919 * (k : Int) * (k : Int) + 31 * (k : Int) + 17) * 48271 % 2147483647 = m at hm hm2
      refine ⟨_, rfl, _, rfl, _, _, rfl, rfl, ⟨by decide, by decide, by decide⟩, _, _, rfl, rfl, .inr ⟨_, rfl, _, _, rfl, rfl, .inr ?_, ?_⟩⟩
      · split <;> exact ⟨by decide, by decide⟩
      refine ⟨_, rfl, _, rfl, _, _, rfl, rfl, .inl ⟨by omega, by omega⟩, _, _, rfl, rfl, by show (0 : Int) < 2147483629; decide, ?_⟩
      refine ⟨by show 2 ≤ sizeLine; decide, fun p2 np2 => ?_⟩
      have np2' : H p2 = none := s1.free np2
      refine q _ p2 (s1.trans (same_upd np2)) np2' ⟨_, _, upd_same, ?_, Int.emod_nonneg _ (by decide), ?_⟩
      · exact Int.mul_nonneg hg (by split <;> decide)
      · have h3 := Int.emod_lt_of_pos (m * m) (show (0 : Int) < 2147483629 by decide)
        omega
theorem ok_draw {f : Addr} {fd : FuncData} (F : Fun K "_law_draw" "_law_draw" sDraw f fd) : FnOk P w K mg base CX0 1 f fd ["_law_pool_here", "_law_many"] spDraw := by
  refine F.ok scDraw (fun vs H Q E h => ?_) (fun cdv A outer s H vs Q E hr h => ?_)
  · obtain ⟨p, n, rfl, _⟩ := h
    rfl
  · obtain ⟨p, n, rfl, hn, hn2, ⟨g, m, hp, hg, hm, hm2⟩, q⟩ := h
    refine ⟨_, pss_cons (ps_if (pt_cmpR op_gt (pe_ix ix_list (pv 0) pe_int (fun _ _ => rfl)) pe_int (nomark _))
        (pss_cons (ps_set (i := 2) scDraw.nd rfl (.inl rfl) (pe_op op_mod (pe_ix ix_list (pv 0) pe_int (fun _ _ => rfl)) (pv 1)))
        (pss_cons (ps_asg (pe_op op_fdivW (pe_ix ix_list (pv 0) pe_int (fun _ _ => rfl)) (pv 1)) (pg_sub (pv 0) pe_int set_list))
        (pss_one (ps_ret (pv 2))))) pss_nil)
      (pss_cons (ps_asg (pe_op op_mod (pe_op op_add (pe_op op_mul (pe_ix ix_list (pv 0) pe_int (fun _ _ => rfl)) pe_int) pe_int) pe_int) (pg_sub (pv 0) pe_int set_list))
      (pss_one (ps_ret (pe_op op_mod (pe_op op_fdiv (pe_op op_mod (pe_op op_mul (pe_ix ix_list (pv 0) pe_int (fun _ _ => rfl)) (pe_ix ix_list (pv 0) pe_int (fun _ _ => rfl))) pe_int) pe_int) (pv 1))))), ?_⟩
    have at0 : atI [V.int g, V.int m] 0 = some (.int g) := rfl
    have at1 : atI [V.int g, V.int m] 1 = some (.int m) := rfl
    have hS : SqL K H p [V.int g, V.int m] := SqL.of hp
    refine ⟨_, rfl, p, _, _, _, rfl, rfl, hS, at0, _, _, rfl, rfl, _, rfl, ?_⟩
    refine ite2 (fun hc => ?_) (fun _ => ?_)
    · refine ⟨_, rfl, p, _, _, _, rfl, rfl, hS, at0, _, rfl, _, _, rfl, rfl, hn, ?_⟩
      refine ⟨_, rfl, p, _, _, _, rfl, rfl, hS, at0, _, rfl, _, _, rfl, rfl, div60 hn hn2, ?_⟩
      refine ⟨_, rfl, p, _, _, 0, rfl, rfl, hp, rfl, ?_⟩
      refine ⟨_, rfl, ?_⟩
      exact q _ _ _ (Int.emod_nonneg _ (by omega)) (Int.emod_lt_of_pos _ hn) (Int.ediv_nonneg hg (by omega)) hm hm2
    · refine ⟨_, rfl, p, _, _, _, rfl, rfl, hS, at1, _, _, rfl, rfl, .inr ⟨by decide, by decide⟩, _, _, rfl, rfl, _, _, rfl, rfl, by show (0 : Int) < 2147483647; decide, ?_⟩
      refine ⟨_, rfl, p, _, _, 1, rfl, rfl, hp, rfl, ?_⟩
      have hy := Int.emod_nonneg (m * 48271 + 11) (show (2147483647 : Int) ≠ 0 by decide)
      have hy2 := Int.emod_lt_of_pos (m * 48271 + 11) (show (0 : Int) < 2147483647 by decide)
      have hS2 : SqL K (upd H p (.lst [V.int g, V.int ((m * 48271 + 11) % 2147483647)])) p [V.int g, V.int ((m * 48271 + 11) % 2147483647)] := SqL.of upd_same
      have at2 : atI [V.int g, V.int ((m * 48271 + 11) % 2147483647)] 1 = some (.int ((m * 48271 + 11) % 2147483647)) := rfl
      refine ⟨_, rfl, p, _, _, _, rfl, rfl, hS2, at2, _, rfl, p, _, _, _, rfl, rfl, hS2, at2, _, _, rfl, rfl, .inl ⟨by omega, by omega⟩, _, _, rfl, rfl, by show (0 : Int) < 2147483629; decide, _, _, rfl, rfl, ⟨by decide, by decide⟩, _, rfl, _, _, rfl, rfl, hn, ?_⟩
      exact q _ _ _ (Int.emod_nonneg _ (by omega)) (Int.emod_lt_of_pos _ hn) hg hy hy2
end
end My
namespace My
open PySem PySem.Spec PyProof.Rows L2
/-! ### things -/
inductive T where
  | non | bl (b : Bool) | int (i : Int) | str (x : Str) | oth (d : Bool) | tup (ts : List T)
mutual
/-- the thing t is the value v at the heap -/
def Th (H : Hp) : T → V → Prop
  | .non, v => v = .non
  | .bl b, v => v = .bl b
  | .int i, v => v = .int i
  | .str x, v => v = .str x
  | .oth d, v => ∃ a, v = .ref a ∧ if d = true then H a = some (.dK []) else ∃ xs, H a = some (.lst xs)
  | .tup ts, v => ∃ a xs, v = .ref a ∧ H a = some (.tup xs) ∧ xs.length < 4000000 ∧ ThAll H ts xs
def ThAll (H : Hp) : List T → List V → Prop
  | [], vs => vs = []
  | t :: ts, vs => ∃ v r, vs = v :: r ∧ Th H t v ∧ ThAll H ts r
end
theorem thAll_len {H : Hp} : ∀ {ts : List T} {vs : List V}, ThAll H ts vs → ts.length = vs.length
  | [], _, h => by
    unfold ThAll at h
    rw [h]
    rfl
  | t :: ts, _, h => by
    unfold ThAll at h
    obtain ⟨v, r, rfl, _, h2⟩ := h
    rw [List.length_cons, List.length_cons, thAll_len h2]
mutual
theorem Th.keep {H H' : Hp} (k : ∀ b o, (∀ l, o ≠ .lst l) → H b = some o → H' b = some o) (kl : ∀ b l, H b = some (.lst l) → ∃ l', H' b = some (.lst l')) : ∀ (t : T) (v : V), Th H t v → Th H' t v
  | .non, _, h => h
  | .bl _, _, h => h
  | .int _, _, h => h
  | .str _, _, h => h
  | .oth d, _, h => by
    unfold Th at h ⊢
    obtain ⟨a, e, h⟩ := h
    refine ⟨a, e, ?_⟩
    cases d with
    | true => exact k _ _ (fun l q => nomatch q) h
    | false =>
      obtain ⟨xs, h⟩ := h
      exact kl _ _ h
  | .tup ts, _, h => by
    unfold Th at h ⊢
    obtain ⟨a, xs, e, h1, h2, h3⟩ := h
    exact ⟨a, xs, e, k _ _ (fun l q => nomatch q) h1, h2, ThAll.keep k kl ts xs h3⟩
theorem ThAll.keep {H H' : Hp} (k : ∀ b o, (∀ l, o ≠ .lst l) → H b = some o → H' b = some o) (kl : ∀ b l, H b = some (.lst l) → ∃ l', H' b = some (.lst l')) : ∀ (ts : List T) (vs : List V), ThAll H ts vs → ThAll H' ts vs
  | [], _, h => h
  | t :: ts, _, h => by
    unfold ThAll at h ⊢
    obtain ⟨v, r, e, h1, h2⟩ := h
    exact ⟨v, r, e, Th.keep k kl t v h1, ThAll.keep k kl ts r h2⟩
end
theorem Th.same {H H' : Hp} (s : Same H H') (t : T) (v : V) (h : Th H t v) : Th H' t v := Th.keep (fun b o _ e => s b o e) (fun b l e => ⟨l, s b _ e⟩) t v h
theorem ThAll.same {H H' : Hp} (s : Same H H') (ts : List T) (vs : List V) (h : ThAll H ts vs) : ThAll H' ts vs := ThAll.keep (fun b o _ e => s b o e) (fun b l e => ⟨l, s b _ e⟩) ts vs h

/-! ### heaps that change mildly: lists stay lists, all else stays -/
structure Mild (H H' : Hp) : Prop where
  oth : ∀ b o, (∀ l, o ≠ .lst l) → H b = some o → H' b = some o
  lst : ∀ b l, H b = some (.lst l) → ∃ l', H' b = some (.lst l')
theorem Mild.refl (H : Hp) : Mild H H := ⟨fun _ _ _ e => e, fun _ l e => ⟨l, e⟩⟩
theorem Mild.of_same {H H' : Hp} (s : Same H H') : Mild H H' := ⟨fun b o _ e => s b o e, fun b l e => ⟨l, s b _ e⟩⟩
theorem Mild.trans {H H1 H2 : Hp} (a : Mild H H1) (b : Mild H1 H2) : Mild H H2 := ⟨fun c o n e => b.oth c o n (a.oth c o n e), fun c l e => by
  obtain ⟨l1, e1⟩ := a.lst c l e
  exact b.lst c l1 e1⟩
theorem Mild.updL {H : Hp} {D : Addr} {l l' : List V} (h : H D = some (.lst l)) : Mild H (upd H D (.lst l')) := ⟨fun b o n e => by
    rw [upd_ne (fun z => by rw [z, h] at e; cases e; exact n _ rfl)]
    exact e, fun b m e => by
    by_cases z : b = D
    · exact ⟨l', by rw [z, upd_same]⟩
    · exact ⟨m, by rw [upd_ne z]; exact e⟩⟩
theorem Mild.off {p : Addr} {H H' : Hp} (o : Off p H H') (h : PoolAt H p) (h' : PoolAt H' p) : Mild H H' := by
  obtain ⟨g, m, e, _⟩ := h
  obtain ⟨g', m', e', _⟩ := h'
  refine ⟨fun b u n eb => o b u (fun z => by rw [z, e] at eb; cases eb; exact n _ rfl) eb, fun b l eb => ?_⟩
  by_cases z : b = p
  · exact ⟨_, by rw [z]; exact e'⟩
  · exact ⟨l, o b _ z eb⟩
theorem Mild.th {H H' : Hp} (m : Mild H H') {t : T} {v : V} (h : Th H t v) : Th H' t v := Th.keep m.oth m.lst t v h
theorem Mild.thAll {H H' : Hp} (m : Mild H H') {ts : List T} {vs : List V} (h : ThAll H ts vs) : ThAll H' ts vs := ThAll.keep m.oth m.lst ts vs h
theorem thAll_snoc {H : Hp} {t : T} {v : V} (h : Th H t v) : ∀ {ts : List T} {vs : List V}, ThAll H ts vs → ThAll H (ts ++ [t]) (vs ++ [v])
  | [], vs, hs => by
    simp only [ThAll] at hs
    subst hs
    simp only [List.nil_append, ThAll]
    exact ⟨v, [], rfl, h, rfl⟩
  | t' :: ts, vs, hs => by
    simp only [ThAll] at hs
    obtain ⟨v', r, rfl, h1, h2⟩ := hs
    simp only [List.cons_append, ThAll]
    exact ⟨v', r ++ [v], rfl, h1, thAll_snoc h h2⟩
theorem thAll_get {H : Hp} : ∀ {ts : List T} {vs : List V} {i : Nat} (_ : ThAll H ts vs) (_ : i < ts.length), ∃ t v, ts[i]? = some t ∧ vs[i]? = some v ∧ Th H t v
  | [], _, _, _, h => by simp at h
  | t :: ts, vs, 0, hs, _ => by
    simp only [ThAll] at hs
    obtain ⟨v, r, rfl, h1, _⟩ := hs
    exact ⟨t, v, rfl, rfl, h1⟩
  | t :: ts, vs, i + 1, hs, h => by
    simp only [ThAll] at hs
    obtain ⟨v, r, rfl, _, h2⟩ := hs
    obtain ⟨t', v', e1, e2, h3⟩ := thAll_get (i := i) h2 (by simpa using h)
    exact ⟨t', v', by simpa using e1, by simpa using e2, h3⟩

theorem tYes_if {σ : L2.St} {H : Hp} {A B : Hp → Prop} (h : A H) : tYes σ H (fun b H3 => if b = true then A H3 else B H3) := by
  show (if true = true then A H else B H)
  rw [if_pos rfl]
  exact h
/-! ### kind_of -/
def kindS : T → Str
  | .non => "none"
  | .bl _ => "truth"
  | .int _ => "integer"
  | .str _ => "text"
  | .tup _ => "list"
  | .oth _ => "other"
structure TxtK (mg : Str → Option Value) : Prop where
  isi : mg "isinstance" = none
  bool : mg "bool" = none
  int : mg "int" = none
  str : mg "str" = none
  tuple : mg "tuple" = none
theorem scKind : FnScope ["value"] ["value"] (defScope sKind) := ⟨rfl, rfl, rfl, by decide +kernel, rfl, by decide +kernel, by decide +kernel⟩
def spKind : Sp := fun vs H Q _ => ∃ (t : T) (v : V), vs = [v] ∧ Th H t v ∧ Q (.str (kindS t)) H
section
variable {P : Program} {w : World} {K : PySem.W.Frag} {mg : Str → Option Value} {base : Heap}
theorem ok_kind {f : Addr} {fd : FuncData} (F : Fun K "kind_of" "kind_of" sKind f fd) (T : TxtK mg) : FnOk P w K mg base CX0 1 f fd ["value"] spKind := by
  refine F.ok scKind (fun vs H Q E h => ?_) (fun cdv A outer s H vs Q E hr h => ?_)
  · obtain ⟨t, v, rfl, _⟩ := h
    rfl
  · obtain ⟨t, v, rfl, ht, q⟩ := h
    refine ⟨_, pss_cons (ps_if (pt_cmpR op_isN (pv 0) pe_non (nomark _)) (pss_one (ps_ret pe_str)) pss_nil)
      (pss_cons (ps_if (pt_val (pe_callB call_isi (by rfl) T.isi PyProof.Rows.boot_isinstance (pa_cons (pv 0) (pa_cons (pe_bltn (v := .ty "bool") (by rfl) T.bool (by decide +kernel) rfl) pa_nil)))) (pss_one (ps_ret pe_str)) pss_nil)
      (pss_cons (ps_if (pt_val (pe_callB call_isi (by rfl) T.isi PyProof.Rows.boot_isinstance (pa_cons (pv 0) (pa_cons (pe_bltn (v := .ty "int") (by rfl) T.int (by decide +kernel) rfl) pa_nil)))) (pss_one (ps_ret pe_str)) pss_nil)
      (pss_cons (ps_if (pt_val (pe_callB call_isi (by rfl) T.isi PyProof.Rows.boot_isinstance (pa_cons (pv 0) (pa_cons (pe_bltn (v := .ty "str") (by rfl) T.str (by decide +kernel) rfl) pa_nil)))) (pss_one (ps_ret pe_str)) pss_nil)
      (pss_cons (ps_if (pt_val (pe_callB call_isi (by rfl) T.isi PyProof.Rows.boot_isinstance (pa_cons (pv 0) (pa_cons (pe_bltn (v := .ty "tuple") (by rfl) T.tuple (by decide +kernel) rfl) pa_nil)))) (pss_one (ps_ret pe_str)) pss_nil)
      (pss_one (ps_ret pe_str)))))), ?_⟩
    cases t with
    | non =>
      unfold Th at ht
      subst ht
      refine ⟨_, rfl, rfl, _, rfl, ?_⟩
      exact iteT q
    | bl b =>
      unfold Th at ht
      subst ht
      refine ⟨_, rfl, rfl, _, rfl, ?_⟩
      refine iteF ⟨_, rfl, _, _, _, _, true, rfl, .ty "bool", .base (.bl b), kit_ty (by decide +kernel), _, rfl, ?_⟩
      exact iteT q
    | int i =>
      unfold Th at ht
      subst ht
      refine ⟨_, rfl, rfl, _, rfl, ?_⟩
      refine iteF ⟨_, rfl, _, _, _, _, false, rfl, .ty "bool", .base (.int i), kit_ty (by decide +kernel), _, rfl, ?_⟩
      refine iteF ⟨_, rfl, _, _, _, _, true, rfl, .ty "int", .base (.int i), kit_ty (by decide +kernel), _, rfl, ?_⟩
      exact iteT q
    | str x =>
      unfold Th at ht
      subst ht
      refine ⟨_, rfl, rfl, _, rfl, ?_⟩
      refine iteF ⟨_, rfl, _, _, _, _, false, rfl, .ty "bool", .base (.str x), kit_ty (by decide +kernel), _, rfl, ?_⟩
      refine iteF ⟨_, rfl, _, _, _, _, false, rfl, .ty "int", .base (.str x), kit_ty (by decide +kernel), _, rfl, ?_⟩
      refine iteF ⟨_, rfl, _, _, _, _, true, rfl, .ty "str", .base (.str x), kit_ty (by decide +kernel), _, rfl, ?_⟩
      exact iteT q
    | tup ts =>
      unfold Th at ht
      obtain ⟨a, xs, rfl, e, _, _⟩ := ht
      refine ⟨_, rfl, rfl, _, rfl, ?_⟩
      refine iteF ⟨_, rfl, _, _, _, _, false, rfl, .ty "bool", .base (.tup e), kit_ty (by decide +kernel), _, rfl, ?_⟩
      refine iteF ⟨_, rfl, _, _, _, _, false, rfl, .ty "int", .base (.tup e), kit_ty (by decide +kernel), _, rfl, ?_⟩
      refine iteF ⟨_, rfl, _, _, _, _, false, rfl, .ty "str", .base (.tup e), kit_ty (by decide +kernel), _, rfl, ?_⟩
      refine iteF ⟨_, rfl, _, _, _, _, true, rfl, .ty "tuple", .base (.tup e), kit_ty (by decide +kernel), _, rfl, ?_⟩
      exact iteT q
    | oth d =>
      unfold Th at ht
      obtain ⟨a, rfl, e⟩ := ht
      have ty : ∃ n, TyOf K H (.ref a) (.type n) ∧ (n = "list" ∨ n = "dict") := by
        cases d with
        | true => exact ⟨_, .dK e, .inr rfl⟩
        | false =>
          obtain ⟨xs, e⟩ := e
          exact ⟨_, .lst e, .inl rfl⟩
      obtain ⟨n, ty, hn⟩ := ty
      refine ⟨_, rfl, rfl, _, rfl, ?_⟩
      refine iteF ⟨_, rfl, _, _, _, _, false, rfl, .ty "bool", .base ty, kit_ty (by rcases hn with rfl | rfl <;> decide +kernel), _, rfl, ?_⟩
      refine iteF ⟨_, rfl, _, _, _, _, false, rfl, .ty "int", .base ty, kit_ty (by rcases hn with rfl | rfl <;> decide +kernel), _, rfl, ?_⟩
      refine iteF ⟨_, rfl, _, _, _, _, false, rfl, .ty "str", .base ty, kit_ty (by rcases hn with rfl | rfl <;> decide +kernel), _, rfl, ?_⟩
      refine iteF ⟨_, rfl, _, _, _, _, false, rfl, .ty "tuple", .base ty, kit_ty (by rcases hn with rfl | rfl <;> decide +kernel), _, rfl, ?_⟩
      exact iteF q
end
end My
namespace My
open PySem PySem.Spec PyProof.Rows L2
/-! ### what the program's functions say -/
def ltS : Str := "abcdefghijklmnopqrstuvwxyz"
def ldS : Str := "abcdefghijklmnopqrstuvwxyz0123456789"
def onlyS (x cs : Str) : Bool := decide (Txt.stripChars x cs = "")
def textS (x : Str) : Bool := !decide (60 < (x.length : Int)) && onlyS x ldS
def isText : T → Bool
  | .str x => textS x
  | _ => false
def isPlain : T → Bool
  | .int i => decide (-(10 ^ 60) < i) && decide (i < 10 ^ 60)
  | .str x => textS x
  | _ => false
def isTupT : T → Bool
  | .tup _ => true
  | _ => false
def kids : T → List T
  | .tup ts => ts
  | _ => []
def lev : Nat → List T → Nat → Bool
  | 0, ls, _ => ls.isEmpty
  | n + 1, ls, c =>
    let c' := c + (ls.map fun l => (kids l).length).sum
    if 50 < c' then false else
      let items := (ls.map kids).flatten
      if (items.filter fun t => !isTupT t).all isPlain then lev n (items.filter isTupT) c' else false
def isVal (t : T) : Bool := if isTupT t then lev 5 [t] 0 else isPlain t
def isKey (t : T) : Bool := match t with
  | .str x => textS x && decide (0 < (x.length : Int))
  | _ => false
def isName (t : T) : Bool := match t with
  | .str x => (textS x && decide (0 < (x.length : Int))) && (decide ((x.length : Int) ≤ 12) && onlyS x ltS)
  | _ => false
/-- texts are not too long -/
def short : T → Prop
  | .str x => x.length ≤ 4000000
  | _ => True
structure TxtV (mg : Str → Option Value) : Prop where
  len : mg "len" = none
  ld : ∃ t, mg "LETTERS_AND_DIGITS" = some (.str ldS t)
  ib : ∃ t, mg "INTEGER_BOUND" = some (.int (10 ^ 60) t)
  mt : ∃ t, mg "LONGEST_TEXT" = some (.int 60 t)
theorem scHasOnly : FnScope ["text", "characters"] ["text", "characters"] (defScope sHasOnly) := ⟨rfl, rfl, rfl, by decide +kernel, rfl, by decide +kernel, by decide +kernel⟩
theorem scIsText : FnScope ["value"] ["value"] (defScope sIsText) := ⟨rfl, rfl, rfl, by decide +kernel, rfl, by decide +kernel, by decide +kernel⟩
theorem scIsPlain : FnScope ["value"] ["value"] (defScope sIsPlain) := ⟨rfl, rfl, rfl, by decide +kernel, rfl, by decide +kernel, by decide +kernel⟩
def spHasOnly : Sp := fun vs H Q _ => ∃ x cs : Str, vs = [.str x, .str cs] ∧ x.length ≤ 4000000 ∧ Q (.bl (onlyS x cs)) H
def spB (g : T → Bool) : Sp := fun vs H Q _ => ∃ (t : T) (v : V), vs = [v] ∧ Th H t v ∧ short t ∧ Q (.bl (g t)) H
theorem dec_str (a b : Str) : decide (V.str a = V.str b) = decide (a = b) := by
  by_cases e : a = b
  · rw [e]
    simp
  · rw [decide_eq_false e, decide_eq_false fun q => e (V.str.inj q)]
theorem dec_ne {a b : Str} (h : ¬ a = b) : decide (V.str a = V.str b) = false := decide_eq_false fun q => h (V.str.inj q)
def isStrT : T → Bool
  | .str _ => true
  | _ => false
def isIntT : T → Bool
  | .int _ => true
  | _ => false
theorem kindS_text : ∀ t : T, decide (V.str (kindS t) = V.str "text") = isStrT t
  | .non => dec_ne (by simp only [kindS]; decide +kernel)
  | .bl _ => dec_ne (by simp only [kindS]; decide +kernel)
  | .int _ => dec_ne (by simp only [kindS]; decide +kernel)
  | .str _ => by simp [kindS, isStrT]
  | .oth _ => dec_ne (by simp only [kindS]; decide +kernel)
  | .tup _ => dec_ne (by simp only [kindS]; decide +kernel)
theorem kindS_int : ∀ t : T, decide (V.str (kindS t) = V.str "integer") = isIntT t
  | .non => dec_ne (by simp only [kindS]; decide +kernel)
  | .bl _ => dec_ne (by simp only [kindS]; decide +kernel)
  | .int _ => by simp [kindS, isIntT]
  | .str _ => dec_ne (by simp only [kindS]; decide +kernel)
  | .oth _ => dec_ne (by simp only [kindS]; decide +kernel)
  | .tup _ => dec_ne (by simp only [kindS]; decide +kernel)
theorem kindS_list : ∀ t : T, decide (V.str (kindS t) = V.str "list") = isTupT t
  | .non => dec_ne (by simp only [kindS]; decide +kernel)
  | .bl _ => dec_ne (by simp only [kindS]; decide +kernel)
  | .int _ => dec_ne (by simp only [kindS]; decide +kernel)
  | .str _ => dec_ne (by simp only [kindS]; decide +kernel)
  | .oth _ => dec_ne (by simp only [kindS]; decide +kernel)
  | .tup _ => by simp [kindS, isTupT]
section
variable {P : Program} {w : World} {K : PySem.W.Frag} {mg : Str → Option Value} {base : Heap}
theorem ok_hasOnly {f : Addr} {fd : FuncData} (F : Fun K "has_only" "has_only" sHasOnly f fd) : FnOk P w K mg base CX0 1 f fd ["text", "characters"] spHasOnly := by
  refine F.ok scHasOnly (fun vs H Q E h => ?_) (fun cdv A outer s H vs Q E hr h => ?_)
  · obtain ⟨x, cs, rfl, _⟩ := h
    rfl
  · obtain ⟨x, cs, rfl, hx, q⟩ := h
    refine ⟨_, pss_one (ps_ret (pe_cmpR op_eq (pe_m1 PySem.F.slot_str_strip PySem.F.type_str_strip mt_stripChars (pv 0) (pv 1)) pe_str (nomark _))), ?_⟩
    refine ⟨_, rfl, ⟨_, rfl⟩, _, rfl, x, cs, rfl, rfl, Nat.le_of_lt (smallB hx), rfl, ?_⟩
    show Q (.bl (decide (V.str (Txt.stripChars x cs) = V.str ""))) H
    rw [dec_str]
    exact q
theorem ok_isText {f fK fO : Addr} {fd fdK fdO : FuncData} (F : Fun K "is_text" "is_text" sIsText f fd) (FK : Fun K "kind_of" "kind_of" sKind fK fdK) (bK : Binds K fdK ["value"] []) (gK : mg "kind_of" = some (.ref fK)) (TK : TxtK mg)
    (FO : Fun K "has_only" "has_only" sHasOnly fO fdO) (bO : Binds K fdO ["text", "characters"] []) (gO : mg "has_only" = some (.ref fO)) (T : TxtV mg) : FnOk P w K mg base CX0 2 f fd ["value"] (spB isText) := by
  have GK : FnOk P w K mg base CX0 1 fK fdK ["value"] spKind := ok_kind FK TK
  have GO : FnOk P w K mg base CX0 1 fO fdO ["text", "characters"] spHasOnly := ok_hasOnly FO
  obtain ⟨t1, m1⟩ := T.mt
  obtain ⟨t2, m2⟩ := T.ld
  refine F.ok scIsText (fun vs H Q E h => ?_) (fun cdv A outer s H vs Q E hr h => ?_)
  · obtain ⟨t, v, rfl, _⟩ := h
    rfl
  · obtain ⟨t, v, rfl, ht, hs, q⟩ := h
    refine ⟨_, pss_cons (ps_if (PW.pt (pw_or (pt_cmpR op_ne (pe_call GK hr rfl gK FK.kp bK .nil pass0 (pa_cons (pv 0) pa_nil)) pe_str (nomark _))
        (pw_or1 (pt_cmpR op_gt (pe_callB call_len_str (by rfl) T.len PySem.boot_len (pa_cons (pv 0) pa_nil)) (pe_glob (v := .int 60) rfl m1 ⟨_, rfl⟩) (nomark _))))) (pss_one (ps_ret pe_bl)) pss_nil)
      (pss_one (ps_ret (pe_call GO hr rfl gO FO.kp bO .nil pass0 (pa_cons (pv 0) (pa_cons (pe_glob (v := .str ldS) rfl m2 ⟨_, rfl⟩) pa_nil))))), ?_⟩
    refine ⟨_, rfl, t, v, rfl, ht, rfl, _, rfl, ?_⟩
    rw [kindS_text]
    cases t with
    | str x =>
      simp only [Th] at ht
      subst ht
      refine iteF ⟨_, rfl, x, rfl, Nat.le_of_lt (smallB hs), _, _, rfl, rfl, _, rfl, ?_⟩
      refine ite2 (fun hc => ?_) (fun hc => ?_)
      · have e : isText (.str x) = false := by
          simp only [isText, textS]
          rw [hc]
          rfl
        rw [e] at q
        exact q
      · have e : isText (.str x) = onlyS x ldS := by
          simp only [isText, textS]
          rw [Bool.eq_false_iff.mpr hc]
          rfl
        rw [e] at q
        exact ⟨_, rfl, x, ldS, rfl, hs, q⟩
    | non => exact iteT q
    | bl b => exact iteT q
    | int i => exact iteT q
    | oth d => exact iteT q
    | tup ts => exact iteT q
theorem ok_isPlain {f fK fX : Addr} {fd fdK fdX : FuncData} (F : Fun K "is_plain_value" "is_plain_value" sIsPlain f fd) (FK : Fun K "kind_of" "kind_of" sKind fK fdK) (bK : Binds K fdK ["value"] []) (gK : mg "kind_of" = some (.ref fK)) (TK : TxtK mg)
    (FX : Fun K "is_text" "is_text" sIsText fX fdX) (bX : Binds K fdX ["value"] []) (gX : mg "is_text" = some (.ref fX)) (GX : FnOk P w K mg base CX0 2 fX fdX ["value"] (spB isText)) (T : TxtV mg) :
    FnOk P w K mg base CX0 3 f fd ["value"] (spB isPlain) := by
  have GK : FnOk P w K mg base CX0 1 fK fdK ["value"] spKind := ok_kind FK TK
  obtain ⟨t1, m1⟩ := T.ib
  refine F.ok scIsPlain (fun vs H Q E h => ?_) (fun cdv A outer s H vs Q E hr h => ?_)
  · obtain ⟨t, v, rfl, _⟩ := h
    rfl
  · obtain ⟨t, v, rfl, ht, hs, q⟩ := h
    refine ⟨_, pss_cons (ps_if (pt_cmpR op_eq (pe_call GK (hr.mono (by decide)) rfl gK FK.kp bK .nil pass0 (pa_cons (pv 0) pa_nil)) pe_str (nomark _))
        (pss_one (ps_ret (pe_chain op_lt op_lt (pe_un un_neg (pe_glob (v := .int (10 ^ 60)) rfl m1 ⟨_, rfl⟩)) (pv 0) (pe_glob (v := .int (10 ^ 60)) rfl m1 ⟨_, rfl⟩)))) pss_nil)
      (pss_one (ps_ret (pe_call GX hr rfl gX FX.kp bX .nil pass0 (pa_cons (pv 0) pa_nil)))), ?_⟩
    refine ⟨_, rfl, t, v, rfl, ht, rfl, _, rfl, ?_⟩
    rw [kindS_int]
    cases t with
    | int i =>
      simp only [Th] at ht
      subst ht
      refine iteT ⟨_, rfl, _, rfl, _, _, rfl, rfl, _, rfl, ?_⟩
      refine ite2 (fun hc => ?_) (fun hc => ?_)
      · refine ⟨_, _, rfl, rfl, ?_⟩
        have e : isPlain (.int i) = decide (i < 10 ^ 60) := by
          simp only [isPlain]
          rw [hc, Bool.true_and]
        rw [e] at q
        exact q
      · have e : isPlain (.int i) = false := by
          simp only [isPlain]
          rw [Bool.eq_false_iff.mpr hc, Bool.false_and]
        rw [e] at q
        exact q
    | str x => exact iteF ⟨_, rfl, .str x, v, rfl, ht, hs, q⟩
    | non => exact iteF ⟨_, rfl, .non, v, rfl, ht, hs, q⟩
    | bl b => exact iteF ⟨_, rfl, .bl b, v, rfl, ht, hs, q⟩
    | oth d => exact iteF ⟨_, rfl, .oth d, v, rfl, ht, hs, q⟩
    | tup ts => exact iteF ⟨_, rfl, .tup ts, v, rfl, ht, hs, q⟩
end
end My
namespace My
open PySem PySem.Spec PyProof.Rows L2
def rLenK (K : PySem.W.Frag) : List V → Hp → VK → Prop := fun xs H Q => ∃ p ys, xs = [V.ref p] ∧ (SqL K H p ys ∨ SqT K H p ys) ∧ Q (.int ys.length) H
theorem call_lenK {X : Cx} {K : PySem.W.Frag} (h : X.K = K) : CallR X (.builtin "len") (rLenK K) := by
  subst h
  exact call_len_seq
/-! ### is_list -/
mutual
def shortA : T → Prop
  | .str x => x.length ≤ 4000000
  | .tup ts => shortAll ts
  | _ => True
def shortAll : List T → Prop
  | [] => True
  | t :: ts => shortA t ∧ shortAll ts
end
theorem shortAll_mem : ∀ {ts : List T}, shortAll ts ↔ ∀ t ∈ ts, shortA t
  | [] => by simp [shortAll]
  | t :: ts => by
    simp only [shortAll, List.mem_cons, forall_eq_or_imp]
    rw [shortAll_mem]
theorem shortA.short {t : T} (h : shortA t) : short t := by
  cases t with
  | str x =>
    simp only [shortA] at h
    exact h
  | _ => exact True.intro
theorem shortA.kids {t : T} (h : shortA t) : ∀ u ∈ kids t, shortA u := by
  cases t with
  | tup ts =>
    simp only [shortA] at h
    exact shortAll_mem.mp h
  | _ => exact fun u hu => nomatch hu
theorem tup_of {t : T} (h : isTupT t = true) : t = .tup (kids t) := by
  cases t <;> first | rfl | (simp [isTupT] at h)
theorem th_tup {H : Hp} {t : T} {v : V} (h : isTupT t = true) (hv : Th H t v) : ∃ a ys, v = .ref a ∧ H a = some (.tup ys) ∧ ys.length < 4000000 ∧ ThAll H (kids t) ys := by
  rw [tup_of h] at hv
  simp only [Th] at hv
  exact hv
theorem sum_cast : ∀ ls : List Nat, (ls.map (fun n : Nat => (n : Int))).sum = ((ls.sum : Nat) : Int)
  | [] => rfl
  | a :: ls => by
    rw [List.map_cons, List.sum_cons, List.sum_cons, sum_cast ls]
    omega
theorem flat_take (ls : List T) (i : Nat) (h : i < ls.length) : ((ls.take (i + 1)).map kids).flatten = ((ls.take i).map kids).flatten ++ kids ls[i] := by
  rw [List.take_add_one, List.getElem?_eq_getElem h, List.map_append, List.flatten_append]
  simp
theorem flat_len : ∀ ls : List T, ((ls.map kids).flatten).length = (ls.map fun l => (kids l).length).sum
  | [] => rfl
  | l :: ls => by
    rw [List.map_cons, List.flatten_cons, List.length_append, flat_len ls, List.map_cons, List.sum_cons]
theorem flat_le (ls : List T) (i : Nat) : (((ls.take i).map kids).flatten).length ≤ (ls.map fun l => (kids l).length).sum := by
  rw [flat_len, List.map_take]
  generalize ls.map (fun l => (kids l).length) = ns
  induction ns generalizing i with
  | nil => simp
  | cons n ns ih =>
    cases i with
    | zero => simp
    | succ i =>
      have := ih i
      simp only [List.take_succ_cons, List.sum_cons]
      omega
theorem flat_reading {K : PySem.W.Frag} {H0 : Hp} {A : Addr} {xs : List V} {ls : List T} {Q : VK} {s0 s2 s3 s4 s5 s6 s7 : Option V} (hA : H0 A = some (.lst xs)) (hth : ThAll H0 ls xs) (htup : ∀ l ∈ ls, isTupT l = true)
    (hsum : (ls.map fun l => (kids l).length).sum ≤ 50)
    (q : ∀ (D : Addr) (H' : Hp) (acc : List V), H0 D = none → Same H0 H' → H' D = some (.lst acc) → ThAll H0 (ls.map kids).flatten acc → Q (.ref D) H') :
    tLc2 (iList K (tVar 1)) (gName 6) tYes (iTup K (tVar 6)) (gName 7) tYes (tVar 7) [6, 7] [7] [s0, some (.ref A), s2, s3, s4, s5, s6, s7] H0 Q := by
  have hlen := thAll_len hth
  refine ⟨_, rfl, A, rfl, ⟨xs, .inl (.inl hA)⟩, fun D nD => ?_⟩
  refine ⟨fun i m H' => m = ls.length - i ∧ i ≤ ls.length ∧ ∃ acc : List V, H' D = some (.lst acc) ∧ ThAll H0 ((ls.take i).map kids).flatten acc ∧ Same H0 H', ⟨ls.length, rfl, Nat.zero_le _, [], upd_same, by simp [ThAll], same_upd nD⟩, ?_⟩
  rintro i m H' ⟨rfl, hi, acc, hD, hacc, sm⟩
  by_cases hlt : i < ls.length
  · have hltx : i < xs.length := by omega
    obtain ⟨t, x, e1, e2, hx⟩ := thAll_get hth hlt
    have et : t = ls[i] := by
      rw [List.getElem?_eq_getElem hlt] at e1
      exact (Option.some.inj e1).symm
    subst et
    refine .inr ⟨⟨xs, x, .inl (.inl (sm _ _ hA)), e2⟩, fun H'' => ∃ acc : List V, H'' D = some (.lst acc) ∧ ThAll H0 ((ls.take (i + 1)).map kids).flatten acc ∧ Same H0 H'', fun H'' ⟨acc2, h1, h2, h3⟩ => ⟨ls.length - (i + 1), by omega, rfl, hlt, acc2, h1, h2, h3⟩, fun y H'' hy => ?_⟩
    obtain ⟨rfl, hy⟩ := hy
    have ey : y = x := Option.some.inj ((hy xs (.inl (.inl (sm _ _ hA)))).symm.trans e2)
    subst ey
    obtain ⟨b, ys, rfl, hb, hyl, hys⟩ := th_tup (htup _ (List.getElem_mem hlt)) hx
    have hyk := thAll_len hys
    refine ⟨rfl, tYes_if ?_⟩
    refine ⟨_, rfl, b, rfl, ⟨ys, .inl (.inl (sm _ _ hb))⟩, ?_⟩
    refine ⟨fun j k H'' => k = ys.length - j ∧ j ≤ ys.length ∧ ∃ acc : List V, H'' D = some (.lst acc) ∧ ThAll H0 (((ls.take i).map kids).flatten ++ (kids ls[i]).take j) acc ∧ Same H0 H'', ⟨ys.length, rfl, Nat.zero_le _, acc, hD, by simpa using hacc, sm⟩, ?_⟩
    rintro j k H2 ⟨rfl, hj, acc2, hD2, hacc2, sm2⟩
    by_cases hjl : j < ys.length
    · obtain ⟨u, z, f1, f2, hz⟩ := thAll_get hys (show j < (kids ls[i]).length by omega)
      refine .inr ⟨⟨ys, z, .inl (.inl (sm2 _ _ hb)), f2⟩, fun H3 => ∃ acc : List V, H3 D = some (.lst acc) ∧ ThAll H0 (((ls.take i).map kids).flatten ++ (kids ls[i]).take (j + 1)) acc ∧ Same H0 H3, fun H3 ⟨acc3, h1, h2, h3⟩ => ⟨ys.length - (j + 1), by omega, rfl, hjl, acc3, h1, h2, h3⟩, fun y H3 hy => ?_⟩
      obtain ⟨rfl, hy⟩ := hy
      have ey : y = z := Option.some.inj ((hy ys (.inl (.inl (sm2 _ _ hb)))).symm.trans f2)
      subst ey
      refine ⟨rfl, tYes_if ?_⟩
      have hlen2 := thAll_len hacc2
      have hle : (((ls.take (i + 1)).map kids).flatten).length ≤ 50 := Nat.le_trans (flat_le ls (i + 1)) hsum
      rw [flat_take ls i hlt, List.length_append] at hle
      rw [List.length_append, List.length_take] at hlen2
      refine ⟨_, rfl, acc2, hD2, smallB (by omega), acc2 ++ [y], upd_same, ?_, fun c o ec => ?_⟩
      · rw [List.take_add_one, f1, ← List.append_assoc]
        exact thAll_snoc hz hacc2
      · rw [upd_ne (ne_of_none ec nD)]
        exact sm2 _ _ ec
    · have ej : j = ys.length := by omega
      subst ej
      refine .inl ⟨⟨ys, .inl (.inl (sm2 _ _ hb)), Nat.le_refl _⟩, acc2, hD2, ?_, sm2⟩
      rw [flat_take ls i hlt]
      rw [show (kids ls[i]).take ys.length = kids ls[i] from List.take_of_length_le (by omega)] at hacc2
      exact hacc2
  · have ei : i = ls.length := by omega
    subst ei
    rw [List.take_length] at hacc
    exact .inl ⟨⟨xs, .inl (.inl (sm _ _ hA)), by omega⟩, q D H' acc nD sm hD hacc⟩
theorem filter_take (p : T → Bool) (ls : List T) (i : Nat) (h : i < ls.length) : (ls.take (i + 1)).filter p = (ls.take i).filter p ++ (if p ls[i] = true then [ls[i]] else []) := by
  rw [List.take_add_one, List.getElem?_eq_getElem h, List.filter_append]
  congr 1
  simp only [Option.toList_some, List.filter_cons, List.filter_nil]
theorem scIsList : FnScope ["value", "lists", "count", "level", "items", "plain", "inner", "item"] ["value"] (defScope sIsList) := ⟨rfl, rfl, rfl, by decide +kernel, rfl, by decide +kernel, by decide +kernel⟩
structure TxtI (mg : Str → Option Value) : Prop where
  sum : mg "sum" = none
  range : mg "range" = none
  all : mg "all" = none
  len : mg "len" = none
  dl : ∃ t, mg "DEEPEST_LIST" = some (.int 5 t)
  mv : ∃ t, mg "MOST_VALUES" = some (.int 50 t)
def spIsList : Sp := fun vs H Q _ => ∃ (t : T) (v : V), vs = [v] ∧ isTupT t = true ∧ Th H t v ∧ shortA t ∧ ∀ H', Same H H' → Q (.bl (lev 5 [t] 0)) H'
section
variable {P : Program} {w : World} {K : PySem.W.Frag} {mg : Str → Option Value} {base : Heap}
theorem ok_isList {f fK fX : Addr} {fd fdK fdX : FuncData} (F : Fun K "is_list" "is_list" sIsList f fd) (FK : Fun K "kind_of" "kind_of" sKind fK fdK) (bK : Binds K fdK ["value"] []) (gK : mg "kind_of" = some (.ref fK)) (TK : TxtK mg)
    (FX : Fun K "is_plain_value" "is_plain_value" sIsPlain fX fdX) (bX : Binds K fdX ["value"] []) (gX : mg "is_plain_value" = some (.ref fX)) (GX : FnOk P w K mg base CX0 3 fX fdX ["value"] (spB isPlain)) (TI : TxtI mg) :
    FnOk P w K mg base CX0 4 f fd ["value"] spIsList := by
  have GK : FnOk P w K mg base CX0 1 fK fdK ["value"] spKind := ok_kind FK TK
  obtain ⟨t1, m1⟩ := TI.dl
  obtain ⟨t2, m2⟩ := TI.mv
  refine F.ok scIsList (fun vs H Q E h => ?_) (fun cdv A outer s H vs Q E hr h => ?_)
  · obtain ⟨t, v, rfl, _⟩ := h
    rfl
  · obtain ⟨t0, v, rfl, htp, hv, hs, q⟩ := h
    have hr1 : Room 1 _ := hr.mono (by decide)
    have ND := scIsList.nd
    refine ⟨_, pss_cons (ps_set (i := 1) ND rfl (.inl rfl) (pe_lst (pa_cons (pv 0) pa_nil)))
      (pss_cons (ps_set (i := 2) ND rfl (.inl rfl) pe_int)
      (pss_cons (ps_for PassesOwn.never rfl (pi_range1 rfl TI.range (pa_cons (pe_glob (v := .int 5) rfl m1 ⟨_, rfl⟩) pa_nil)) (pg_name (i := 3) ND rfl (.inl rfl))
        (pss_cons (ps_aug (i := 2) ND rfl (.inl rfl) (pe_callB (cr_sum rfl) (by rfl) TI.sum (by decide +kernel) (pa_cons
            (pe_lc (own := [("inner", 6)]) (g := gName 6) (tt := tYes) rfl ND (pi_list (pv 1)) (blkOk_by (own := [("inner", 6)]) (N := ["value", "lists", "count", "level", "items", "plain", "inner", "item"]) (sc := defScope sIsList) (by decide +kernel))
              (fun _ _ _ _ _ => pg_name (i := 6) ND rfl (Or.inl rfl)) (fun _ _ _ _ _ => pts_nil) (fun _ _ _ _ _ => pe_callB (call_lenK (K := K) rfl) (by rfl) TI.len PySem.boot_len (pa_cons (pv 6) pa_nil))) pa_nil)) ip_add)
        (pss_cons (ps_if (pt_cmpR op_gt (pv 2) (pe_glob (v := .int 50) rfl m2 ⟨_, rfl⟩) (nomark _)) (pss_one (ps_ret pe_bl)) pss_nil)
        (pss_cons (ps_setLc2 (i := 4) (own := [("inner", 6), ("item", 7)]) (vs1 := [7]) (g := gName 6) (g1 := gName 7) (tt := tYes) (tt1 := tYes) (wi1 := iTup K (tVar 6)) rfl ND rfl rfl (sw_true rfl rfl rfl (by decide +kernel)) (pi_list (pv 1))
            (blkOk_by (own := [("inner", 6), ("item", 7)]) (N := ["value", "lists", "count", "level", "items", "plain", "inner", "item"]) (sc := defScope sIsList) (by decide +kernel)) (by decide)
            (fun _ _ _ _ _ => pg_name (i := 6) ND rfl (Or.inl rfl)) (fun _ _ _ _ _ => pts_nil) (fun _ _ _ _ _ => pi_tup (pv 6)) (fun _ _ _ _ _ => pg_name (i := 7) ND rfl (Or.inl rfl)) (fun _ _ _ _ _ => pts_nil) (fun _ _ _ _ _ => pv 7))
        (pss_cons (ps_setLc (i := 1) (own := [("item", 7)]) (g := gName 7) rfl ND rfl rfl (sw_true rfl rfl rfl (by decide +kernel)) (pi_list (pv 4))
            (blkOk_by (own := [("item", 7)]) (N := ["value", "lists", "count", "level", "items", "plain", "inner", "item"]) (sc := defScope sIsList) (by decide +kernel))
            (fun _ _ _ _ _ => pg_name (i := 7) ND rfl (Or.inl rfl)) (fun _ _ _ _ _ => pts_one (pt_cmpR op_eq (pe_call GK hr1 rfl gK FK.kp bK .nil pass0 (pa_cons (pv 7) pa_nil)) pe_str (nomark _))) (fun _ _ _ _ _ => pv 7))
        (pss_cons (ps_setLc (i := 5) (own := [("item", 7)]) (g := gName 7) rfl ND rfl rfl (sw_true rfl rfl rfl (by decide +kernel)) (pi_list (pv 4))
            (blkOk_by (own := [("item", 7)]) (N := ["value", "lists", "count", "level", "items", "plain", "inner", "item"]) (sc := defScope sIsList) (by decide +kernel))
            (fun _ _ _ _ _ => pg_name (i := 7) ND rfl (Or.inl rfl)) (fun _ _ _ _ _ => pts_one (pt_cmpR op_ne (pe_call GK hr1 rfl gK FK.kp bK .nil pass0 (pa_cons (pv 7) pa_nil)) pe_str (nomark _))) (fun _ _ _ _ _ => pv 7))
        (pss_one (ps_if (pt_not (pt_val (pe_callB (cr_all rfl) (by rfl) TI.all (by decide +kernel) (pa_cons
            (pe_lc (own := [("item", 7)]) (g := gName 7) (tt := tYes) rfl ND (pi_list (pv 5)) (blkOk_by (own := [("item", 7)]) (N := ["value", "lists", "count", "level", "items", "plain", "inner", "item"]) (sc := defScope sIsList) (by decide +kernel))
              (fun _ _ _ _ _ => pg_name (i := 7) ND rfl (Or.inl rfl)) (fun _ _ _ _ _ => pts_nil) (fun _ _ _ _ _ => pe_call GX hr rfl gX FX.kp bX .nil pass0 (pa_cons (pv 7) pa_nil))) pa_nil)))) (pss_one (ps_ret pe_bl)) pss_nil))))))))
      (pss_one (ps_ret (pe_cmpR op_eq (pe_callB call_len_seq (by rfl) TI.len PySem.boot_len (pa_cons (pv 1) pa_nil)) pe_int (nomark _)))))), ?_⟩
    refine ⟨_, rfl, by show 1 ≤ sizeLine; decide, fun A0 nA0 => ?_⟩
    refine ⟨5, rfl, by decide, by decide, ?_⟩
    refine for_range (lo := 0) (n := 5) (fun i σ H' => ∃ (A : Addr) (xs : List V) (ls : List T) (c : Nat) (z3 z4 z5 : Option V), σ = [some v, some (.ref A), some (.int (c : Int)), z3, z4, z5, none, none] ∧ Same H H' ∧ H' A = some (.lst xs) ∧ ThAll H' ls xs ∧
        (∀ l ∈ ls, isTupT l = true) ∧ (∀ l ∈ ls, shortA l) ∧ ls.length ≤ 50 ∧ lev (5 - i) ls c = lev 5 [t0] 0)
      ⟨A0, [v], [t0], 0, none, none, none, rfl, same_upd nA0, upd_same, ?_, ?_, ?_, by simp, rfl⟩ (fun i σ H' hi hPv => ?_) (fun σ H' hPv => ?_)
    · simp only [ThAll]
      exact ⟨v, [], rfl, Th.same (same_upd nA0) _ _ hv, rfl⟩
    · intro l hl
      rw [List.mem_singleton.mp hl]
      exact htp
    · intro l hl
      rw [List.mem_singleton.mp hl]
      exact hs
    · obtain ⟨A, xs, ls, c, z3, z4, z5, rfl, sm, hA, hth, htup, hsh, hl50, hlev⟩ := hPv
      have hlen := thAll_len hth
      obtain ⟨n, hn⟩ : ∃ n, 5 - i = n + 1 := ⟨4 - i, by omega⟩
      rw [hn] at hlev
      -- count += sum([len(inner) for inner in lists])
      refine ⟨_, rfl, _, rfl, A, rfl, ⟨xs, .inl (.inl hA)⟩, fun D nD => ?_⟩
      refine lc_list (K := K) (a := A) (xs := xs) (fun j G => G D = some (.lst (((ls.take j).map fun l => ((kids l).length : Int)).map V.int)) ∧ Same H' G) ⟨upd_same, same_upd nD⟩ (fun j G _ ⟨_, s2⟩ => .inl (.inl (s2 _ _ hA))) (fun j x G hx ⟨hD, s2⟩ => ?_) (fun G ⟨hD, s2⟩ => ?_)
      · have hj : j < ls.length := by
          have := (List.getElem?_eq_some_iff.mp hx).1
          omega
        obtain ⟨t, x', e1, e2, hx'⟩ := thAll_get hth hj
        have ex : x' = x := Option.some.inj (e2.symm.trans hx)
        subst ex
        obtain ⟨b, ys, rfl, hb, hyl, hys⟩ := th_tup (htup t (List.mem_of_getElem? e1)) hx'
        have hyk := thAll_len hys
        refine ⟨rfl, tYes_if ?_⟩
        refine ⟨_, rfl, b, ys, rfl, .inr (.inl (.inl (s2 _ _ hb))), _, hD, smallB ?_, ?_, fun o u eo => ?_⟩
        · rw [List.length_map, List.length_map, List.length_take]
          omega
        · rw [upd_same, List.take_add_one, e1, ← hyk]
          simp
        · rw [upd_ne (ne_of_none eo nD)]
          exact s2 _ _ eo
      · have hD' : G D = some (.lst ((ls.map fun l => ((kids l).length : Int)).map V.int)) := by
          rw [hD, List.take_of_length_le (by omega)]
        have esum : (c : Int) + (ls.map fun l => ((kids l).length : Int)).sum = ((c + (ls.map fun l => (kids l).length).sum : Nat) : Int) := by
          have := sum_cast (ls.map fun l => (kids l).length)
          rw [List.map_map] at this
          have e2 : (ls.map fun l => ((kids l).length : Int)) = ls.map ((fun n : Nat => (n : Int)) ∘ fun l => (kids l).length) := rfl
          rw [e2, this]
          omega
        refine ⟨D, ls.map fun l => ((kids l).length : Int), rfl, .inl (.inl hD'), _, _, rfl, rfl, ?_⟩
        -- if count > MOST_VALUES: return False
        refine ⟨_, rfl, _, _, rfl, rfl, _, rfl, ?_⟩
        simp only [esum]
        refine ite2 (fun hc => ?_) (fun hc => ?_)
        · have hc' := of_decide_eq_true hc
          have e : lev 5 [t0] 0 = false := by
            rw [← hlev]
            simp only [lev]
            rw [if_pos (by omega)]
          have q1 := q G (sm.trans s2)
          rw [e] at q1
          exact q1
        have hc' : ¬ 50 < c + (ls.map fun l => (kids l).length).sum := fun z => hc (decide_eq_true (by omega))
        -- items
        dsimp only [tNext, tSeq, tAsg]
        refine flat_reading (K := K) (H0 := G) (A := A) (xs := xs) (ls := ls) (s2 _ _ hA) (ThAll.same s2 _ _ hth) htup (by omega) fun D2 G2 items nD2 s3 hD2 hit => ?_
        have hilen := thAll_len hit
        rw [flat_len] at hilen
        have hit2 : ThAll G2 (ls.map kids).flatten items := ThAll.same s3 _ _ hit
        have hish : ∀ u ∈ (ls.map kids).flatten, shortA u := fun u hu => by
          obtain ⟨l0, h1, h2⟩ := List.mem_flatten.mp hu
          obtain ⟨l1, h3, rfl⟩ := List.mem_map.mp h1
          exact (hsh l1 h3).kids u h2
        generalize hI : (ls.map kids).flatten = I at hit2 hish
        have hIl : I.length = items.length := thAll_len hit2
        -- lists = [item for item in items if kind_of(item) == "list"]
        refine ⟨_, rfl, D2, rfl, ⟨items, .inl (.inl hD2)⟩, fun D3 nD3 => ?_⟩
        refine lc_list (K := K) (a := D2) (xs := items) (fun j G' => ∃ acc : List V, G' D3 = some (.lst acc) ∧ ThAll G2 ((I.take j).filter isTupT) acc ∧ Same G2 G') ⟨[], upd_same, by simp [ThAll], same_upd nD3⟩ (fun j G' _ ⟨_, _, _, s4⟩ => .inl (.inl (s4 _ _ hD2))) (fun j x G' hx ⟨acc, hD3, hacc, s4⟩ => ?_) (fun G' ⟨acc, hD3, hacc, s4⟩ => ?_)
        · have hj : j < I.length := by
            have := (List.getElem?_eq_some_iff.mp hx).1
            omega
          obtain ⟨t, x', e1, e2, hx'⟩ := thAll_get hit2 hj
          have ex : x' = x := Option.some.inj (e2.symm.trans hx)
          subst ex
          have et : t = I[j] := by
            rw [List.getElem?_eq_getElem hj] at e1
            exact (Option.some.inj e1).symm
          have hal : acc.length ≤ 4000000 := by
            have h1 := thAll_len hacc
            have h2 := List.length_filter_le isTupT (I.take j)
            rw [List.length_take] at h2
            omega
          refine ⟨rfl, ⟨_, rfl, t, x', rfl, Th.same s4 _ _ hx', rfl, _, rfl, ?_⟩⟩
          rw [kindS_list]
          cases hb : isTupT t with
          | true =>
            refine iteT ⟨_, rfl, acc, hD3, ?_, acc ++ [x'], upd_same, ?_, fun o u eo => ?_⟩
            · have h1 := thAll_len hacc
              have h2 := List.length_filter_le isTupT (I.take j)
              rw [List.length_take] at h2
              exact smallB (by omega)
            · rw [filter_take isTupT I j hj, ← et, hb, if_pos rfl]
              exact thAll_snoc hx' hacc
            · rw [upd_ne (ne_of_none eo nD3)]
              exact s4 _ _ eo
          | false =>
            refine iteF ⟨acc, hD3, ?_, s4⟩
            rw [filter_take isTupT I j hj, ← et, hb, if_neg Bool.false_ne_true, List.append_nil]
            exact hacc
        have hI2 : I.take items.length = I := List.take_of_length_le (by omega)
        rw [hI2] at hacc
        -- plain = [item for item in items if kind_of(item) != "list"]
        refine ⟨_, rfl, D2, rfl, ⟨items, .inl (.inl (s4 _ _ hD2))⟩, fun D4 nD4 => ?_⟩
        refine lc_list (K := K) (a := D2) (xs := items) (fun j G3 => ∃ acc4 : List V, G3 D4 = some (.lst acc4) ∧ ThAll G2 ((I.take j).filter fun t => !isTupT t) acc4 ∧ Same G' G3) ⟨[], upd_same, by simp [ThAll], same_upd nD4⟩ (fun j G3 _ ⟨_, _, _, s5⟩ => .inl (.inl (s5 _ _ (s4 _ _ hD2)))) (fun j x G3 hx ⟨acc4, hD4, hacc4, s5⟩ => ?_) (fun G3 ⟨acc4, hD4, hacc4, s5⟩ => ?_)
        · have hj : j < I.length := by
            have := (List.getElem?_eq_some_iff.mp hx).1
            omega
          obtain ⟨t, x', e1, e2, hx'⟩ := thAll_get hit2 hj
          have ex : x' = x := Option.some.inj (e2.symm.trans hx)
          subst ex
          have et : t = I[j] := by
            rw [List.getElem?_eq_getElem hj] at e1
            exact (Option.some.inj e1).symm
          refine ⟨rfl, ⟨_, rfl, t, x', rfl, Th.same (s4.trans s5) _ _ hx', rfl, _, rfl, ?_⟩⟩
          rw [kindS_list]
          cases hb : isTupT t with
          | false =>
            refine iteT ⟨_, rfl, acc4, hD4, ?_, acc4 ++ [x'], upd_same, ?_, fun o u eo => ?_⟩
            · have h1 := thAll_len hacc4
              have h2 := List.length_filter_le (fun t => !isTupT t) (I.take j)
              rw [List.length_take] at h2
              exact smallB (by omega)
            · rw [filter_take (fun t => !isTupT t) I j hj, ← et, hb]
              exact thAll_snoc hx' hacc4
            · rw [upd_ne (ne_of_none eo nD4)]
              exact s5 _ _ eo
          | true =>
            refine iteF ⟨acc4, hD4, ?_, s5⟩
            rw [filter_take (fun t => !isTupT t) I j hj, ← et, hb]
            simpa using hacc4
        rw [hI2] at hacc4
        have hp4 : ThAll G3 (I.filter fun t => !isTupT t) acc4 := ThAll.same (s4.trans s5) _ _ hacc4
        have hpl := thAll_len hp4
        -- all([is_plain_value(item) for item in plain])
        refine ⟨_, rfl, D4, rfl, ⟨acc4, .inl (.inl hD4)⟩, fun D5 nD5 => ?_⟩
        refine lc_list (K := K) (a := D4) (xs := acc4) (fun j G4 => G4 D5 = some (.lst ((((I.filter fun t => !isTupT t).take j).map isPlain).map V.bl)) ∧ Same G3 G4) ⟨upd_same, same_upd nD5⟩ (fun j G4 _ ⟨_, s6⟩ => .inl (.inl (s6 _ _ hD4))) (fun j x G4 hx ⟨hD5, s6⟩ => ?_) (fun G4 ⟨hD5, s6⟩ => ?_)
        · have hj : j < (I.filter fun t => !isTupT t).length := by
            have := (List.getElem?_eq_some_iff.mp hx).1
            omega
          obtain ⟨t, x', e1, e2, hx'⟩ := thAll_get hp4 hj
          have ex : x' = x := Option.some.inj (e2.symm.trans hx)
          subst ex
          have hmem : t ∈ I := (List.mem_filter.mp (List.mem_of_getElem? e1)).1
          refine ⟨rfl, tYes_if ?_⟩
          refine ⟨_, rfl, t, x', rfl, Th.same s6 _ _ hx', (hish t hmem).short, _, hD5, smallB ?_, ?_, fun o u eo => ?_⟩
          · have h2 := List.length_filter_le (fun t => !isTupT t) I
            rw [List.length_map, List.length_map, List.length_take]
            omega
          · rw [upd_same, List.take_add_one, e1]
            simp
          · rw [upd_ne (ne_of_none eo nD5)]
            exact s6 _ _ eo
        refine ⟨D5, ((I.filter fun t => !isTupT t).map isPlain), rfl, .inl (.inl ?_), _, rfl, ?_⟩
        · rw [hD5, List.take_of_length_le (by omega)]
        have eall : ((I.filter fun t => !isTupT t).map isPlain).all id = (I.filter fun t => !isTupT t).all isPlain := by
          rw [List.all_map]
          rfl
        rw [eall]
        have elev : lev 5 [t0] 0 = if (I.filter fun t => !isTupT t).all isPlain = true then lev n (I.filter isTupT) (c + (ls.map fun l => (kids l).length).sum) else false := by
          rw [← hlev]
          simp only [lev]
          rw [if_neg hc', hI]
        cases hall : (I.filter fun t => !isTupT t).all isPlain with
        | false =>
          rw [hall, if_neg Bool.false_ne_true] at elev
          have q1 := q G4 ((((sm.trans s2).trans s3).trans (s4.trans s5)).trans s6)
          rw [elev] at q1
          exact iteT q1
        | true =>
          rw [hall, if_pos rfl] at elev
          refine iteF ⟨D3, acc, I.filter isTupT, c + (ls.map fun l => (kids l).length).sum, _, _, _, rfl, (((sm.trans s2).trans s3).trans (s4.trans s5)).trans s6, s6 _ _ (s5 _ _ hD3), ThAll.same ((s4.trans s5).trans s6) _ _ hacc, ?_, ?_, ?_, ?_⟩
          · intro l hl
            exact (List.mem_filter.mp hl).2
          · intro l hl
            exact hish l (List.mem_filter.mp hl).1
          · have h2 := List.length_filter_le isTupT I
            omega
          · rw [show 5 - (i + 1) = n by omega]
            exact elev.symm
    · obtain ⟨A, xs, ls, c, z3, z4, z5, rfl, sm, hA, hth, _, _, _, hlev⟩ := hPv
      have hlen := thAll_len hth
      refine ⟨_, rfl, A, xs, rfl, .inl (.inl (.inl hA)), rfl, ?_⟩
      have e : lev 5 [t0] 0 = decide (V.int ((xs.length : Nat) : Int) = V.int 0) := by
        rw [← hlev]
        simp only [Nat.sub_self, lev]
        cases ls with
        | nil =>
          rw [List.length_nil] at hlen
          rw [← hlen]
          rfl
        | cons l ls =>
          rw [List.length_cons] at hlen
          have : ¬ V.int ((xs.length : Nat) : Int) = V.int 0 := fun z => by
            have := V.int.inj z
            omega
          rw [decide_eq_false this]
          rfl
      have q1 := q H' sm
      rw [e] at q1
      exact q1
end
end My
namespace My
open PySem PySem.Spec PyProof.Rows L2
theorem scIsValue : FnScope ["value"] ["value"] (defScope sIsValue) := ⟨rfl, rfl, rfl, by decide +kernel, rfl, by decide +kernel, by decide +kernel⟩
def spVal : Sp := fun vs H Q _ => ∃ (t : T) (v : V), vs = [v] ∧ Th H t v ∧ shortA t ∧ ∀ H', Same H H' → Q (.bl (isVal t)) H'
section
variable {P : Program} {w : World} {K : PySem.W.Frag} {mg : Str → Option Value} {base : Heap}
theorem ok_isVal {f fK fL fX : Addr} {fd fdK fdL fdX : FuncData} (F : Fun K "is_value" "is_value" sIsValue f fd) (FK : Fun K "kind_of" "kind_of" sKind fK fdK) (bK : Binds K fdK ["value"] []) (gK : mg "kind_of" = some (.ref fK)) (TK : TxtK mg)
    (FL : Fun K "is_list" "is_list" sIsList fL fdL) (bL : Binds K fdL ["value"] []) (gL : mg "is_list" = some (.ref fL)) (GL : FnOk P w K mg base CX0 4 fL fdL ["value"] spIsList)
    (FX : Fun K "is_plain_value" "is_plain_value" sIsPlain fX fdX) (bX : Binds K fdX ["value"] []) (gX : mg "is_plain_value" = some (.ref fX)) (GX : FnOk P w K mg base CX0 3 fX fdX ["value"] (spB isPlain)) :
    FnOk P w K mg base CX0 5 f fd ["value"] spVal := by
  have GK : FnOk P w K mg base CX0 1 fK fdK ["value"] spKind := ok_kind FK TK
  refine F.ok scIsValue (fun vs H Q E h => ?_) (fun cdv A outer s H vs Q E hr h => ?_)
  · obtain ⟨t, v, rfl, _⟩ := h
    rfl
  · obtain ⟨t, v, rfl, ht, hs, q⟩ := h
    refine ⟨_, pss_cons (ps_if (pt_cmpR op_eq (pe_call GK (hr.mono (by decide)) rfl gK FK.kp bK .nil pass0 (pa_cons (pv 0) pa_nil)) pe_str (nomark _))
        (pss_one (ps_ret (pe_call GL hr rfl gL FL.kp bL .nil pass0 (pa_cons (pv 0) pa_nil)))) pss_nil)
      (pss_one (ps_ret (pe_call GX (hr.mono (by decide)) rfl gX FX.kp bX .nil pass0 (pa_cons (pv 0) pa_nil)))), ?_⟩
    refine ⟨_, rfl, t, v, rfl, ht, rfl, _, rfl, ?_⟩
    rw [kindS_list]
    cases hb : isTupT t with
    | true =>
      refine iteT ⟨_, rfl, t, v, rfl, hb, ht, hs, fun H' sm => ?_⟩
      have q1 := q H' sm
      rw [show isVal t = lev 5 [t] 0 by simp only [isVal, hb, if_true]] at q1
      exact q1
    | false =>
      refine iteF ⟨_, rfl, t, v, rfl, ht, hs.short, ?_⟩
      have q1 := q H (Same.refl H)
      rw [show isVal t = isPlain t by simp only [isVal, hb]; rfl] at q1
      exact q1
end
end My
namespace TW
open PySem PySem.Spec PyProof.Rows L2 CwR
/-! ### for b in BRACKETS: s = s.replace(b, ' ' + b + ' ') -/
def around (c : Nat) : Str := (" " : Str) ++ ⟨#[c]⟩ ++ (" " : Str)
def spread (x : Str) : List Nat → Str
  | [] => x
  | c :: cs => spread (Txt.replace x ⟨#[c]⟩ (around c)) cs
def spreadOk : Str → List Nat → Prop
  | _, [] => True
  | x, c :: cs => x.length + (x.length + 1) * 3 ≤ 16777216 ∧ spreadOk (Txt.replace x ⟨#[c]⟩ (around c)) cs
theorem around_len (c : Nat) : (around c).length = 3 := rfl
section
variable {X : Cx} {pins : List (Addr × Obj)} {σ : L2.St} {H : Hp} {s : Shared}
/-- behind the store of a local name: its very value is known -/
theorem inv_store {i : Nat} {x : Str} {v : V} {u : Value} {h' : Heap} {t' : Nat} {m : Str → Option Value} (I : Inv X pins σ H s) (hN : X.N.Nodup) (hi : X.N[i]? = some x) (hk : X.env.scope.names.lookup x = some .local) (r : RelV v u)
    (hn : s.heap.Ns X.env.locals m) (hl : ∀ (j : Nat) (y : Str) (v' : V), X.N[j]? = some y → σ[j]? = some (some v') → Vis X.env.scope y → ∃ u', RelV v' u' ∧ Look X.env s.heap m y u')
    (hn' : h'.Ns X.env.locals (fun y => if y = x then some u else m y)) (sb : Heap.SameBut X.env.locals s.heap h') : Inv X pins (σ.set i (some v)) H { s with heap := h', toks := t' } := by
  have hlen : i < σ.length := by rw [I.len]; exact (List.getElem?_eq_some_iff.mp hi).1
  have far : ∀ b o, X.s_0.heap.get? b = some o → b ≠ X.env.locals := fun b o e z => by
    subst z
    exact Nat.lt_irrefl _ (Nat.lt_of_lt_of_le (Heap.lt_size e) I.ok.above)
  constructor
  · exact I.ok
  · exact I.os
  · exact I.bare
  · constructor
    · exact fun b o e n hb hx => (sb.2 b (far b o e)).trans (I.base.keep b o e n hb hx)
    · exact fun b o e n hb hx => let ⟨sl, z⟩ := I.base.slot b o e n hb hx; ⟨sl, (sb.2 b (far b o e)).trans z⟩
    · exact I.base.free
    · exact fun b o e hx => let ⟨o2, z⟩ := I.base.there b o e hx; ⟨o2, (sb.2 b (far b o e)).trans z⟩
    · exact I.base.tups
    · exact I.base.frzs
    · exact I.base.tbls
  · refine ⟨_, hn', fun j y w a b d => ?_⟩
    rcases Nat.decEq j i with ne | eq
    · obtain ⟨u2, r2, q⟩ := hl j y w a (by rw [List.getElem?_set_ne (fun z => ne z.symm)] at b; exact b) d
      have ney : y ≠ x := fun e => ne (nodup_ix hN a (e ▸ hi))
      rcases q with ⟨k1, k2⟩ | ⟨k1, c, k2, k3⟩
      · exact ⟨u2, r2, .inl ⟨k1, (if_neg ney).trans k2⟩⟩
      · exact ⟨u2, r2, .inr ⟨k1, c, k2, k3.sameBut sb (I.cne y c k2)⟩⟩
    · subst eq
      have ex : y = x := Option.some.inj (a.symm.trans hi)
      rw [List.getElem?_set_self hlen] at b
      have ew : v = w := Option.some.inj (Option.some.inj b)
      rw [ex, ← ew]
      exact ⟨u, r, .inl ⟨hk, if_pos rfl⟩⟩
  · exact fun y c e => let ⟨w, z⟩ := I.cell y c e; ⟨w, z.sameBut sb (I.cne y c e)⟩
  · exact I.free
  · exact I.freeC
  · exact fun p hp => let ⟨z1, z2, z3, z4, z5⟩ := I.pin p hp; ⟨(sb.2 p.1 z3).trans z1, z2, z3, z4, z5⟩
  · intro b ob e
    have nL : ∀ c ob', H c = some ob' → c ≠ X.env.locals := fun c ob' q z => by rw [z, I.free] at q; cases q
    refine (I.hok b ob e).stay (fun c w hc q => (sb.2 c ?_).trans q) (fun _ q => q) fun _ _ q => q
    rcases hc with rfl | hc
    · exact nL _ _ e
    · exact nL _ _ hc
  · rw [List.length_set]; exact I.len
end
section
variable {X : Cx} {gi : Expr} {bs : Str}
def tBrk (ib is : Nat) (bs : Str) : TS := fun D σ H => ∃ x, σ[is]? = some (some (.str x)) ∧ spreadOk x bs.cps.toList ∧ ∀ v, D.nx ((σ.set ib v).set is (some (.str (spread x bs.cps.toList)))) H
theorem pst_brk {ib is : Nat} {bx sx : Str} {j1 j2 : Nat} {p1 p3 p4 p5 p6 p7 p8 q1 q2 apos cpos apos2 pos : Pos} (hN : X.N.Nodup) (hib : X.N[ib]? = some bx) (his : X.N[is]? = some sx)
    (lb : X.env.scope.names.lookup bx = some .local) (ls : X.env.scope.names.lookup sx = some .local) (hne : ib ≠ is) (hg : PE X gi (tC (.str bs))) (has : bs.cps.all (· < 128) = true)
    (hp : PassesOwn (model X.prog X.w) X.A X.env X.xe) (hc : X.calm = true)
    (hf : ∀ x, foldedSetIterable gi X.env x = pure x := by intro _; rfl) (hsw : swapsWith (.Call (.Attribute (.Name sx p4) "replace" apos) [.Name bx p5, .BinOp (.BinOp (.Constant (.str " ") j1 q1) .Add (.Name bx p6) p7) .Add (.Constant (.str " ") j2 q2) p8] [] cpos) (some (.Name sx p3)) apos2.line X.env = pure false := by rfl)
    (hst : starEach [.Name bx p5, .BinOp (.BinOp (.Constant (.str " ") j1 q1) .Add (.Name bx p6) p7) .Add (.Constant (.str " ") j2 q2) p8] X.env = [(false, eval (.Name bx p5) X.env), (false, eval (.BinOp (.BinOp (.Constant (.str " ") j1 q1) .Add (.Name bx p6) p7) .Add (.Constant (.str " ") j2 q2) p8) X.env)] := by rfl)
    (hbase : attributeBase (.Name sx p4) "replace" X.env (eval (.Name sx p4) X.env) = eval (.Name sx p4) X.env := by rfl) (hline : (apos.endLine == cpos.line) = true := by rfl)
    (db : (bx == ("__debug__" : Str)) = false := by decide) (cb : (bx == ("__classdict__" : Str)) = false := by decide) (ds : (sx == ("__debug__" : Str)) = false := by decide) (cs : (sx == ("__classdict__" : Str)) = false := by decide) :
    PST X (.For (.Name bx p1) gi [.Assign [.Name sx p3] (.Call (.Attribute (.Name sx p4) "replace" apos) [.Name bx p5, .BinOp (.BinOp (.Constant (.str " ") j1 q1) .Add (.Name bx p6) p7) .Add (.Constant (.str " ") j2 q2) p8] [] cpos) apos2] [] pos) (tBrk ib is bs) := by
  intro pins s σ H D h0 I h
  obtain ⟨x, hx, hok, q⟩ := h
  have lenN : σ.length = X.N.length := I.len
  have hisl : is < σ.length := by rw [lenN]; exact (List.getElem?_eq_some_iff.mp his).1
  have hcls : (X.env.scope.kind == .class || (X.env.scope.kind == .module && X.env.locals != X.env.globals)) = false := by rw [I.ok.kind]; rfl
  refine wpAny_For (wpAny_mono (PySem.wpAny_toks (hg.run pins s σ H (fun v H1 => v = .str bs ∧ H1 = H) I ⟨rfl, rfl⟩)) (fun v s1 z => ?_) fun _ _ z => z.2) hf
  obtain ⟨hk, y, H1, I1, r1, ey, eH⟩ := z
  subst ey eH
  obtain ⟨t, rfl⟩ := r1
  have h1 : 1 ≤ s1.toks := Nat.le_trans h0 hk
  refine wpAny_pyIter_ascii has ?_
  have hfp : FpOk X pins H1 s1.heap.objs.size := I1.fpOk (Nat.le_refl _) (I1.hok.fresh (Nat.le_refl _))
  have I2 : ∀ (o : Obj) (tk : Nat), Inv X pins σ H1 { s1 with heap := s1.heap.push o, toks := tk } := fun o tk => I1.kept fun b ob e => Heap.get?_push_of_some _ e
  obtain ⟨f0, f1, f2, f3, f4, f5⟩ := hfp
  have e0 : σ = (σ.set ib (σ[ib]?.getD none)).set is (some (.str x)) := by
    apply List.ext_getElem?
    intro k
    by_cases hk : k = is
    · rw [hk, List.getElem?_set_self (by rw [List.length_set]; exact hisl), hx]
    · rw [List.getElem?_set_ne (fun z => hk z.symm)]
      by_cases hk2 : k = ib
      · rw [hk2]
        have hl : ib < σ.length := by rw [lenN]; exact (List.getElem?_eq_some_iff.mp hib).1
        rw [List.getElem?_set_self hl, List.getElem?_eq_getElem hl]
        rfl
      · rw [List.getElem?_set_ne (fun z => hk2 z.symm)]
  generalize hit : s1.heap.objs.size = it at *
  refine codeAny_forLoop_any (fun n s' => ∃ i y v, i + n = bs.cps.size ∧ 1 ≤ s'.toks ∧ Inv X pins ((σ.set ib v).set is (some (.str y))) H1 s' ∧ s'.heap.IsStrIter it "str_ascii_iterator" bs t i ∧ spreadOk y (bs.cps.toList.drop i) ∧ spread y (bs.cps.toList.drop i) = spread x bs.cps.toList) ?_
    bs.cps.size ⟨0, x, σ[ib]?.getD none, Nat.zero_add _, h1, ?_, ?_, hok, rfl⟩
  · rintro n s3 ⟨i, y, v, hin, ht, I3, st, ok3, e3⟩
    have lenS : ((σ.set ib v).set is (some (.str y))).length = σ.length := by rw [List.length_set, List.length_set]
    cases n with
    | zero =>
      have hxn : bs.cps[i]? = none := Array.getElem?_eq_none (by omega)
      refine wpAny_passesOwn hp (wpAny_pyNext_ascii_end (I3.ok.hd hc) st hxn fun h' eb => ?_)
      have I4 : Inv X pins ((σ.set ib v).set is (some (.str y))) H1 { s3 with heap := h' } := I3.turned (t' := s3.toks) (fun b o hb e => eb b o hb e) f0 f1 f3 f4 f5
      have ey : y = spread x bs.cps.toList := by
        rw [← e3, List.drop_eq_nil_of_le (by rw [Array.length_toList]; omega)]
        rfl
      rw [ey] at I4
      exact wpAny_execs_nil ⟨_, H1, I4, q v⟩
    | succ n =>
      have hil : i < bs.cps.size := by omega
      obtain ⟨c, hcx⟩ : ∃ c, bs.cps[i]? = some c := ⟨_, Array.getElem?_eq_getElem hil⟩
      have hdrop : bs.cps.toList.drop i = c :: bs.cps.toList.drop (i + 1) := by
        have hi2 : i < bs.cps.toList.length := by rw [Array.length_toList]; exact hil
        rw [List.drop_eq_getElem_cons hi2]
        congr 1
        have e2 : bs.cps.toList[i]? = some c := by rw [Array.getElem?_toList]; exact hcx
        rw [List.getElem?_eq_getElem hi2] at e2
        exact Option.some.inj e2
      rw [hdrop] at ok3 e3
      obtain ⟨hsz, ok4⟩ := ok3
      refine wpAny_passesOwn hp (wpAny_pyNext_ascii_item st hcx fun h' st' sb => ?_)
      have I4 : Inv X pins ((σ.set ib v).set is (some (.str y))) H1 { s3 with heap := h', toks := s3.toks + 1 } := I3.turned (t' := s3.toks + 1) (fun b o hb e => (sb.2 b hb).trans e) f0 f1 f3 f4 f5
      obtain ⟨oi, eoi, coi, doi⟩ := id st'
      refine wpAny_passesOwn hp (go_of (s := { s3 with heap := h', toks := s3.toks + 1 }) eoi coi doi (by decide) ?_)
      -- the sign is stored
      obtain ⟨m, hn, hl⟩ := id I4.loc
      refine wpAny_passesOwn hp (wpAny_assign_Name (wpAny_storeName_local lb hn (fun h2 hn2 sb2 => ?_) hcls))
      have I5 : Inv X pins (((σ.set ib v).set is (some (.str y))).set ib (some (.str ⟨#[c]⟩))) H1 { s3 with heap := h2, toks := s3.toks + 1 + 1 } := inv_store (s := { s3 with heap := h', toks := s3.toks + 1 }) I4 hN hib lb (⟨s3.toks, rfl⟩ : RelV (.str ⟨#[c]⟩) (.str ⟨#[c]⟩ s3.toks)) hn hl hn2 sb2
      have hib2 : (fun z => if z = bx then some (Value.str ⟨#[c]⟩ s3.toks) else m z) bx = some (Value.str ⟨#[c]⟩ s3.toks) := by simp
      have hσs : (((σ.set ib v).set is (some (.str y))).set ib (some (.str ⟨#[c]⟩)))[is]? = some (some (.str y)) := by
        rw [List.getElem?_set_ne hne, List.getElem?_set_self (by rw [List.length_set]; exact hisl)]
      generalize hm2 : (fun z => if z = bx then some (Value.str ⟨#[c]⟩ s3.toks) else m z) = m2 at hn2 hib2
      -- the body
      have oi2 : h2.get? it = some oi := (sb2.2 it f1).trans eoi
      have hpn : ∀ tk, Inv X (pins ++ pinsAt [it] h2) (((σ.set ib v).set is (some (.str y))).set ib (some (.str ⟨#[c]⟩))) H1 { s3 with heap := h2, toks := tk } := fun tk =>
        (I5.tok tk).pinned (s := { s3 with heap := h2, toks := tk }) (fun b hb => by rw [List.mem_singleton.mp hb]; exact ⟨f0, f1, f2, f3, f4, f5⟩) (fun b hb => by rw [List.mem_singleton.mp hb]; exact ⟨oi, oi2, fun w e => by rw [doi] at e; cases e⟩)
      have bName : ∀ {p : Pos} {tk : Nat} {Q E : Value → Shared → Prop}, Q (.str ⟨#[c]⟩ s3.toks) { s3 with heap := h2, toks := tk } → wpAny (model X.prog X.w) X.A (eval (.Name bx p) X.env) Q E { s3 with heap := h2, toks := tk } := fun {p tk Q E} hq =>
        wpAny_Name (wpAny_loadName_local (s := { s3 with heap := h2, toks := tk }) I5.ok.kind lb hn2 hib2 hq) db
      refine wpAny_passesOwn hp (wpAny_execs_cons (wpAny_Assign_Name ?_ hsw))
      have I5' : ∀ tk, Inv X pins (((σ.set ib v).set is (some (.str y))).set ib (some (.str ⟨#[c]⟩))) H1 { s3 with heap := h2, toks := tk } := fun tk => I5.tok tk
      refine PySem.Call_method2 hbase hst hline (raw_name his (.inl ls) I5 hσs (fun u ru => ?_) ds cs)
      obtain ⟨ty, rfl⟩ := ru
      refine ⟨"str", _, PySem.F.plainAttrs_str, PySem.F.slot_str_replace, PySem.F.type_str_replace, typeIs_str _ _ _, (fun _ e => nomatch e), Calls.callWith_builtin rfl (Calls.evalArgs_plain (Calls.spliced_cons ?_))⟩
      refine bName (Calls.spliced_cons ?_)
      refine wpAny_BinOp (wpAny_BinOp (Calls.Constant_str (bName ?_)))
      have z1 : ((" " : Str).length == 0) = false := by decide
      have z2 : ((⟨#[c]⟩ : Str).length == 0) = false := rfl
      have z3 : (((" " : Str) ++ (⟨#[c]⟩ : Str)).length == 0) = false := rfl
      refine P.add_str ?_
      rw [z1, z2]
      refine ⟨by show (2 : Nat) ≤ sizeLine; decide, ?_⟩
      refine Calls.Constant_str ?_
      refine P.add_str ?_
      rw [z3, z1]
      refine ⟨by show (3 : Nat) ≤ sizeLine; decide, Calls.spliced_nil ?_⟩
      have hyz : ((⟨#[c]⟩ : Str) == around c) = false := by
        apply beq_eq_false_iff_ne.mpr
        intro e
        have := congrArg Str.length e
        exact absurd this (by show (1 : Nat) ≠ 3; decide)
      refine PySem.wpAny_with_toks (n := 1) (Nat.succ_pos _) (PySem.SC.replace (by show s3.toks ≠ 0; omega) (Nat.ne_of_gt (Nat.succ_pos _)) ?tokne hyz (by show y.length + (y.length + 1) * (around c).length ≤ _; rw [around_len]; exact hsz) fun t' k hk1 => ?_)
      case tokne =>
        show s3.toks ≠ s3.toks + 5
        omega
      have hk1' : 1 ≤ k := hk1
      refine PySem.wpAny_with_toks (n := 1) hk1' (store_ok (v := .str (Txt.replace y ⟨#[c]⟩ (around c))) (u := .str (Txt.replace y ⟨#[c]⟩ (around c)) t') (hpn k) hN his (.inl ls) ⟨t', rfl⟩ (fun s6 I6 ht6 => ?_) (.inr ls))
      have o6 := (I6.pin (it, oi) (List.mem_append_right _ (List.mem_append_right _ (mem_pinsAt (List.mem_singleton.mpr rfl) oi2)))).1
      have I7 := I6.unpinned
      have eσ : (((σ.set ib v).set is (some (.str y))).set ib (some (.str ⟨#[c]⟩))).set is (some (.str (Txt.replace y ⟨#[c]⟩ (around c)))) = (σ.set ib (some (.str ⟨#[c]⟩))).set is (some (.str (Txt.replace y ⟨#[c]⟩ (around c)))) := by
        rw [List.set_comm _ _ (Ne.symm hne), List.set_set, List.set_set]
      rw [eσ] at I7
      exact wpAny_execs_nil ⟨n, Nat.lt_succ_self n, i + 1, _, some (.str ⟨#[c]⟩), by omega, ht6, I7, ⟨oi, o6, coi, doi⟩, ok4, e3⟩
  · have := I2 { cls := .type "str_ascii_iterator", data := .fields #[.str bs t, .int 0 0] } s1.toks
    rw [← e0]
    exact this
  · rw [← hit]
    exact ⟨_, Heap.get?_push_size _ rfl, rfl, rfl⟩
end
end TW
namespace My
open PySem PySem.Spec PyProof.Rows L2 TW
/-! ### the words of a text -/
def brS : Str := "()[]{}"
def brL : List Nat := [40, 41, 91, 93, 123, 125]
theorem brS_list : brS.cps.toList = brL := by decide +kernel
theorem brS_ascii : brS.cps.all (· < 128) = true := by decide +kernel
def gB (bs : List Nat) (a : Nat) : List Nat := if a ∈ bs then [32, a, 32] else [a]
theorem repl_single (c : Nat) (z : List Nat) : ∀ l : List Nat, StrLaws.replL [c] z l = l.flatMap fun a => if a = c then z else [a]
  | [] => StrLaws.replL_nil
  | a :: l => by
    by_cases h : a = c
    · rw [StrLaws.replL_hit (by simp) (by simp [h])]
      show z ++ StrLaws.replL [c] z l = _
      rw [repl_single c z l, List.flatMap_cons, if_pos h]
    · rw [StrLaws.replL_miss (by simp [h]), repl_single c z l, List.flatMap_cons, if_neg h]
      rfl
theorem around_list (c : Nat) : (around c).cps.toList = [32, c, 32] := rfl
theorem rep_list (x : Str) (c : Nat) : (Txt.replace x ⟨#[c]⟩ (around c)).cps.toList = x.cps.toList.flatMap fun a => if a = c then [32, c, 32] else [a] := by
  rw [StrLaws.replace_list (by show 1 ≤ 1; exact Nat.le_refl _), around_list]
  exact repl_single c _ _
theorem gB_bracket {bs : List Nat} {c : Nat} (h : c ∉ bs) (h32 : 32 ∉ bs) : [32, c, 32].flatMap (gB bs) = [32, c, 32] := by
  simp [gB, h, h32]
theorem spread_list : ∀ (bs : List Nat) (x : Str), bs.Nodup → 32 ∉ bs → (spread x bs).cps.toList = x.cps.toList.flatMap (gB bs)
  | [], x, _, _ => by
    show x.cps.toList = _
    induction x.cps.toList with
    | nil => rfl
    | cons a l ih =>
      rw [List.flatMap_cons, ← ih]
      rfl
  | c :: cs, x, hn, h32 => by
    have h1 : c ∉ cs := (List.nodup_cons.mp hn).1
    have h2 : 32 ∉ cs := fun z => h32 (List.mem_cons_of_mem _ z)
    show (spread (Txt.replace x ⟨#[c]⟩ (around c)) cs).cps.toList = _
    rw [spread_list cs _ (List.nodup_cons.mp hn).2 h2, rep_list]
    rw [List.flatMap_assoc]
    congr 1
    funext a
    by_cases e : a = c
    · rw [if_pos e, gB_bracket h1 h2, e]
      simp [gB]
    · rw [if_neg e]
      simp [gB, e]
theorem gB_len (bs : List Nat) : ∀ l : List Nat, (l.flatMap (gB bs)).length ≤ 3 * l.length
  | [] => Nat.le_refl _
  | a :: l => by
    rw [List.flatMap_cons, List.length_append, List.length_cons]
    have := gB_len bs l
    have h : (gB bs a).length ≤ 3 := by
      unfold gB
      split <;> simp
    omega
theorem str_len (x : Str) : x.length = x.cps.toList.length := by simp [Str.length]
theorem spread_len {bs : List Nat} {x : Str} (hn : bs.Nodup) (h32 : 32 ∉ bs) : (spread x bs).length ≤ 3 * x.length := by
  rw [str_len, spread_list bs x hn h32, str_len x]
  exact gB_len bs _
theorem spread_app : ∀ (as bs : List Nat) (x : Str), spread x (as ++ bs) = spread (spread x as) bs
  | [], _, _ => rfl
  | a :: as, bs, x => spread_app as bs (Txt.replace x ⟨#[a]⟩ (around a))
theorem spreadOk_of (x : Str) (hx : x.length ≤ 1000000) : ∀ (cs as : List Nat), (as ++ cs).Nodup → 32 ∉ as ++ cs → spreadOk (spread x as) cs
  | [], _, _, _ => True.intro
  | c :: cs, as, hn, h32 => by
    have l := spread_len (bs := as) (x := x) (List.nodup_append.mp hn).1 (fun z => h32 (List.mem_append_left _ z))
    have e : as ++ c :: cs = (as ++ [c]) ++ cs := by simp
    have r := spreadOk_of x hx cs (as ++ [c]) (by rw [← e]; exact hn) (by rw [← e]; exact h32)
    rw [spread_app as [c]] at r
    exact ⟨by omega, r⟩
theorem spreadOk_br {x : Str} (hx : x.length ≤ 1000000) : spreadOk x brS.cps.toList := by
  rw [brS_list]
  exact spreadOk_of x hx brL [] (by decide) (by decide)
/-- the words between blanks and brackets -/
def fl (cur : List Nat) : List (List Nat) := if cur = [] then [] else [cur]
def tokL : List Nat → List Nat → List (List Nat)
  | cur, [] => fl cur
  | cur, a :: l => if a = 32 then fl cur ++ tokL [] l else if a ∈ brL then fl cur ++ ([a] :: tokL [] l) else tokL (cur ++ [a]) l
theorem fl_filter (cur : List Nat) (r : List (List Nat)) : (cur :: r).filter (fun w => !decide (w = [])) = fl cur ++ r.filter (fun w => !decide (w = [])) := by
  unfold fl
  by_cases h : cur = []
  · simp [h]
  · simp [h]
theorem pre32 (c : Nat) (r : List Nat) : TL.pre [32] (c :: r) = decide (c = 32) := by
  by_cases h : c = 32
  · subst h
    rfl
  · simp [TL.pre, h]
    try exact fun e => h e.symm
theorem spl_cons32 (acc r : List Nat) (c : Nat) : TL.spl [32] 0 acc (c :: r) = if c = 32 then acc :: TL.spl [32] 0 [] r else TL.spl [32] 0 (acc ++ [c]) r := by
  show (if TL.pre [32] (c :: r) = true then acc :: TL.spl [32] 0 [] r else TL.spl [32] 0 (acc ++ [c]) r) = _
  rw [pre32]
  by_cases h : c = 32 <;> simp [h]
theorem spl_tok : ∀ (l cur : List Nat), (TL.spl [32] 0 cur (l.flatMap (gB brL))).filter (fun w => !decide (w = [])) = tokL cur l
  | [], cur => by
    show (TL.spl [32] 0 cur []).filter _ = fl cur
    rw [TL.spl_nil, fl_filter]
    simp
  | a :: l, cur => by
    rw [List.flatMap_cons]
    unfold tokL
    by_cases h : a = 32
    · subst h
      rw [if_pos rfl]
      show (TL.spl [32] 0 cur (32 :: l.flatMap (gB brL))).filter _ = _
      rw [spl_cons32, if_pos rfl, fl_filter, spl_tok l []]
    · rw [if_neg h]
      by_cases hb : a ∈ brL
      · rw [if_pos hb, show gB brL a = [32, a, 32] by simp [gB, hb]]
        show (TL.spl [32] 0 cur (32 :: a :: 32 :: l.flatMap (gB brL))).filter _ = _
        rw [spl_cons32, if_pos rfl, fl_filter, spl_cons32, if_neg h, spl_cons32, if_pos rfl, fl_filter, spl_tok l []]
        rfl
      · rw [if_neg hb, show gB brL a = [a] by simp [gB, hb]]
        show (TL.spl [32] 0 cur (a :: l.flatMap (gB brL))).filter _ = _
        rw [spl_cons32, if_neg h, spl_tok l]
def wordsF (x : Str) : List Str := (Txt.split (spread x brL) " ").filter (fun w => !decide (w = ""))
theorem blank_list : (" " : Str).cps.toList = [32] := by decide +kernel
theorem words_list (x : Str) : (wordsF x).map (fun w => w.cps.toList) = tokL [] x.cps.toList := by
  have hk : ¬ Builtin.Str.strKind (spread x brL) < Builtin.Str.strKind (" " : Str) := by
    have e : Builtin.Str.strKind (" " : Str) = 1 := by decide +kernel
    rw [e]
    unfold Builtin.Str.strKind
    split
    · decide
    · split <;> decide
  have h := TL.split_spl (spread x brL) " " (by rw [show TL.tl (" " : Str) = [32] from blank_list]; simp) hk
  rw [show TL.tl (" " : Str) = [32] from blank_list, show TL.tl (spread x brL) = x.cps.toList.flatMap (gB brL) from spread_list brL x (by decide) (by decide)] at h
  rw [← spl_tok x.cps.toList [], ← h]
  unfold wordsF
  generalize Txt.split (spread x brL) " " = ws
  induction ws with
  | nil => rfl
  | cons w ws ih =>
    have e : decide (TL.tl w = []) = decide (w = "") := by
      have e0 : TL.tl ("" : Str) = [] := by decide +kernel
      by_cases q : w = ""
      · rw [decide_eq_true q, q, e0]
        rfl
      · rw [decide_eq_false q]
        exact decide_eq_false fun z => q (TL.ext_tl (z.trans e0.symm))
    rw [List.map_cons, List.filter_cons, List.filter_cons]
    show _ = if (!decide (TL.tl w = [])) = true then _ else _
    rw [e]
    cases hq : decide (w = "")
    · simp only [Bool.not_false, if_true, List.map_cons]
      rw [ih]
    · simp only [Bool.not_true, Bool.false_eq_true, if_false]
      exact ih
theorem tok_len : ∀ (l cur : List Nat), (tokL cur l).length ≤ cur.length + l.length
  | [], cur => by
    unfold tokL fl
    split
    · simp
    · rename_i h
      have := List.length_pos_iff.mpr h
      simp only [List.length_cons, List.length_nil]
      omega
  | a :: l, cur => by
    have hf : (fl cur).length ≤ cur.length := by
      unfold fl
      split
      · simp
      · rename_i h
        have := List.length_pos_iff.mpr h
        show 1 ≤ cur.length
        omega
    have h0 := tok_len l []
    have h1 := tok_len l (cur ++ [a])
    rw [List.length_append] at h1
    simp only [List.length_cons, List.length_nil] at h0 h1 ⊢
    unfold tokL
    split
    · rw [List.length_append]
      omega
    · split
      · rw [List.length_append, List.length_cons]
        omega
      · omega
theorem tok_word : ∀ (l cur : List Nat), ∀ w ∈ tokL cur l, w.length ≤ cur.length + l.length
  | [], cur, w, hw => by
    unfold tokL fl at hw
    split at hw
    · cases hw
    · rw [List.mem_singleton.mp hw]
      omega
  | a :: l, cur, w, hw => by
    have hf : ∀ w ∈ fl cur, w.length ≤ cur.length := fun w h => by
      unfold fl at h
      split at h
      · cases h
      · rw [List.mem_singleton.mp h]
        exact Nat.le_refl _
    rw [List.length_cons]
    unfold tokL at hw
    split at hw
    · rcases List.mem_append.mp hw with h | h
      · have := hf w h
        omega
      · have := tok_word l [] w h
        simp only [List.length_nil] at this
        omega
    · split at hw
      · rcases List.mem_append.mp hw with h | h
        · have := hf w h
          omega
        · rcases List.mem_cons.mp h with h | h
          · rw [h]
            simp
            omega
          · have := tok_word l [] w h
            simp only [List.length_nil] at this
            omega
      · have := tok_word l (cur ++ [a]) w hw
        rw [List.length_append] at this
        simp only [List.length_cons, List.length_nil] at this
        omega
end My
namespace My
open PySem PySem.Spec PyProof.Rows L2 TW CwR
section
variable {X : Cx}
theorem psst_nox {st : List Stmt} {t : TS} (h : PSsT X.nox st t) : PSsT X st t := fun pins s σ H D h0 I hw =>
  wpAny_mono (h pins s σ H D h0 (I.wish _) hw) (fun _ _ q => q.unwish) fun _ _ z => False.elim z
end
section
variable {P : Program} {w : World} {K : PySem.W.Frag} {mg : Str → Option Value} {base : Heap}
theorem fun_okT {x qual : Str} {st : Stmt} {f : Addr} {fd : FuncData} {N ps : List Str} {k : Nat} {sp : Sp} (F : Fun K x qual st f fd) (S : FnScope N ps (defScope st)) (hnc : ∀ y ∈ (defScope st).names, y.2 ≠ .cell) (hps : 1 ≤ ps.length)
    (len : ∀ vs H Q E, sp vs H Q E → vs.length = ps.length)
    (hbody : ∀ (cdv : Value) (A : Around) (outer : List Env) (s : Shared) (H : Hp) (vs : List V) (Q : VK) (E : XK), Room k (A.deeper (envOfC qual (defScope st) s.heap.objs.size f cdv)) → sp vs H Q E →
      ∃ t, PSsT (cxOf CX0 P w K mg base N qual (defScope st) f cdv A outer s H E).nox (defBody st) t ∧ t { nx := fun _ H' => Q .non H', rt := Q } (L2.start N vs) H) : FnOk P w K mg base CX0 (k + 1) f fd ps sp := by
  obtain ⟨oc, od, kV, doc, pm, an, cdv, ct, osl, rfl, lk, hcd⟩ := F.ex
  refine fn_ofT lk hcd S hnc hps len fun A outer s H vs Q E hr hsp => ?_
  obtain ⟨t, h, q⟩ := hbody cdv A outer s H vs Q E hr hsp
  exact ⟨t, psst_nox h, q⟩
end
theorem scWords : FnScope ["text", "spaced", "bracket", "word"] ["text"] (defScope sWordsOf) := ⟨rfl, rfl, rfl, by decide +kernel, rfl, by decide +kernel, by decide +kernel⟩
structure TxtB (mg : Str → Option Value) : Prop where
  br : ∃ t, mg "BRACKETS" = some (.str brS t)
def spWords : Sp := fun vs H Q _ => ∃ x : Str, vs = [.str x] ∧ x.length ≤ 1000000 ∧ ∀ H' D, Same H H' → H D = none → H' D = some (.lst ((wordsF x).map V.str)) → Q (.ref D) H'
theorem split_len' (x : Str) : (Txt.split x " ").length ≤ x.length + 2 := PyProof.Rows.split_le x " "
section
variable {P : Program} {w : World} {K : PySem.W.Frag} {mg : Str → Option Value} {base : Heap}
theorem ok_words {f : Addr} {fd : FuncData} (F : Fun K "words_of" "words_of" sWordsOf f fd) (TB : TxtB mg) : FnOk P w K mg base CX0 1 f fd ["text"] spWords := by
  obtain ⟨t1, m1⟩ := TB.br
  refine fun_okT F scWords (by decide +kernel) (by decide) (fun vs H Q E h => ?_) (fun cdv A outer s H vs Q E hr h => ?_)
  · obtain ⟨x, rfl, _⟩ := h
    rfl
  · obtain ⟨x, rfl, hx, q⟩ := h
    have ND := scWords.nd
    refine ⟨_, psst_cons (PST.of (ps_set (i := 1) ND rfl (.inl rfl) (pv 0)))
      (psst_cons (pst_brk (ib := 2) (is := 1) ND rfl rfl rfl rfl (by decide) (pe_glob (v := .str brS) rfl m1 ⟨_, rfl⟩) brS_ascii PassesOwn.never rfl)
      (PSsT.of (pss_one (ps_ret (pe_lc (own := [("word", 3)]) (g := gName 3) rfl ND (pi_list (pe_split (pv 1) pe_str)) (blkOk_by (own := [("word", 3)]) (N := ["text", "spaced", "bracket", "word"]) (sc := defScope sWordsOf) (by decide +kernel))
          (fun _ _ _ _ _ => pg_name (i := 3) ND rfl (Or.inl rfl)) (fun _ _ _ _ _ => pts_one (pt_cmpR op_ne (pv 3) pe_str (nomark _))) (fun _ _ _ _ _ => pv 3)))))), ?_⟩
    refine ⟨_, rfl, x, rfl, spreadOk_br hx, fun v => ?_⟩
    have hl : (spread x brL).length ≤ 3 * x.length := spread_len (by decide) (by decide)
    rw [brS_list]
    refine ⟨_, rfl, ⟨_, rfl⟩, _, _, rfl, rfl, by decide +kernel, by show _ + 2 ≤ 16777216; omega, fun D nD => ?_⟩
    refine ⟨D, rfl, ⟨_, .inl (.inl upd_same)⟩, fun D2 nD2 => ?_⟩
    have s1 : Same H (upd H D (.lst ((Txt.split (spread x brL) " ").map V.str))) := same_upd nD
    have hD1 : (upd H D (.lst ((Txt.split (spread x brL) " ").map V.str))) D = some (.lst ((Txt.split (spread x brL) " ").map V.str)) := upd_same
    have hsl := split_len' (spread x brL)
    have ew : wordsF x = (Txt.split (spread x brL) " ").filter (fun w : Str => !decide (w = "")) := rfl
    generalize Txt.split (spread x brL) " " = ws at *
    generalize upd H D (.lst (ws.map V.str)) = H1 at *
    refine lc_list (K := K) (a := D) (xs := ws.map V.str) (fun j G => G D2 = some (.lst (((ws.take j).filter (fun w : Str => !decide (w = ""))).map V.str)) ∧ Same H1 G) ⟨upd_same, same_upd nD2⟩ (fun j G _ ⟨_, s2⟩ => .inl (.inl (s2 _ _ hD1))) (fun j y G hy ⟨hG, s2⟩ => ?_) (fun G ⟨hG, s2⟩ => ?_)
    · rw [List.getElem?_map] at hy
      have hj : j < ws.length := by
        by_cases h : j < ws.length
        · exact h
        · rw [List.getElem?_eq_none (by omega)] at hy
          cases hy
      rw [List.getElem?_eq_getElem hj] at hy
      cases hy
      have et : (ws.take (j + 1)).filter (fun w : Str => !decide (w = "")) = (ws.take j).filter (fun w : Str => !decide (w = "")) ++ (if (!decide (ws[j] = "")) = true then [ws[j]] else []) := by
        rw [List.take_add_one, List.getElem?_eq_getElem hj, List.filter_append]
        congr 1
        simp only [Option.toList_some, List.filter_cons, List.filter_nil]
      refine ⟨rfl, ⟨_, rfl, rfl, _, rfl, ?_⟩⟩
      rw [dec_str]
      have hcl : (((ws.take j).filter (fun w : Str => !decide (w = ""))).map V.str).length < sizeLine := by
        rw [List.length_map]
        have h2 := List.length_filter_le (fun w : Str => !decide (w = "")) (ws.take j)
        rw [List.length_take] at h2
        exact smallB (by omega)
      cases hq : decide (ws[j] = "") with
      | false =>
        refine iteT ⟨_, rfl, _, hG, hcl, ?_, fun o u eo => ?_⟩
        · rw [upd_same, et, hq]
          simp
        · rw [upd_ne (ne_of_none eo nD2)]
          exact s2 _ _ eo
      | true =>
        refine iteF ⟨?_, s2⟩
        rw [hG, et, hq]
        simp
    · rw [List.length_map, List.take_length, ← ew] at hG
      exact q G D2 (s1.trans s2) (s1.free nD2) hG
end
end My
/-! own rules: a dict of the module (texts as keys) asked by any text: d.get(k), k in d; products and quotients of great numbers -/
namespace LK
open PySem PySem.Spec PyProof.Rows L2
/-- the dict at p holds just these rows -/
structure KTab (K : PySem.W.Frag) (w : World) (p : Addr) (tbl : List (Str × V)) : Prop where
  ex : ∃ (es : Array DictEntry) (n : Nat), K.lookup p = some ⟨.type "dict", none, .dict es n, #[]⟩ ∧ PySem.W.KeysLit w.params es.toList ∧ (p == sysModules) = false ∧
    Paired (fun (r : Str × V) (e : DictEntry) => (∃ t, e.key = .str r.1 t) ∧ RelV r.2 e.val) tbl es.toList
theorem find_tab {z : Str} : ∀ {tbl : List (Str × V)} {es : List DictEntry}, Paired (fun (r : Str × V) (e : DictEntry) => (∃ t, e.key = .str r.1 t) ∧ RelV r.2 e.val) tbl es → RelO (tbl.lookup z) ((es.find? fun e => Value.isStrOf z e.key).map (·.val))
  | _, _, .nil => True.intro
  | (x, v) :: tbl, e :: es, .cons ⟨⟨t, hk⟩, hv⟩ r => by
    by_cases h : z = x
    · subst h
      have e1 : Value.isStrOf z e.key = true := by
        rw [hk]
        simp [Value.isStrOf]
      simp only [List.find?, e1, List.lookup, beq_self_eq_true, Option.map_some]
      exact hv
    · have e1 : ¬ Value.isStrOf z e.key = true := by
        rw [hk]
        simp [Value.isStrOf]
        exact fun q => h q.symm
      have e2 : (z == x) = false := beq_eq_false_iff_ne.mpr h
      have e3 : Value.isStrOf z e.key = false := Bool.eq_false_iff.mpr e1
      simp only [List.find?, e3, List.lookup, e2]
      exact find_tab r
/-- a product of numbers that are not too great -/
def CBig (i j : Int) : Prop := i.natAbs < 2 ^ 1000 ∧ j.natAbs < 2 ^ 1000
theorem noP {i j : Int} (h : CBig i j) : Builtin.divisionGoesByPylong i j = false := by
  refine PyProof.noPylong_of_log2 ?_
  by_cases h0 : j.natAbs = 0
  · rw [h0]
    decide +kernel
  · have z : j.natAbs.log2 < 1000 := (Nat.log2_lt h0).mpr h.2
    omega
section
variable {X : Cx} {p : Addr} {tbl : List (Str × V)} {o e : Expr} {td ty : TE} {apos cpos : Pos}
theorem tab_map {pins : List (Addr × Obj)} {σ : L2.St} {H : Hp} {s : Shared} (T : KTab X.K X.w p tbl) (I : Inv X pins σ H s) : ∃ f, s.heap.MapOf (PySem.strKind X.prog X.w) p f ∧ (p == sysModules) = false ∧ ∀ z, RelO (tbl.lookup z) (f z) := by
  obtain ⟨es, n, hl, hk, hm, hp⟩ := T.ex
  refine ⟨_, PySem.W.mapOf_K (prog := X.prog) (w := X.w) I.kIn hl hk, hm, fun z => ?_⟩
  have q := find_tab (z := z) hp
  unfold findBy
  rw [← Array.find?_toList]
  exact q
/-- k in d, k not in d -/
theorem op_inTab : OpR X (compareOp .In) (fun x y H Q => ∃ (z : Str) (p : Addr) (tbl : List (Str × V)), x = .str z ∧ y = .ref p ∧ KTab X.K X.w p tbl ∧ Q (.bl (tbl.lookup z).isSome) H) := by
  intro pins s σ H x y v u Q I rx ry h
  obtain ⟨z, p, tbl, rfl, rfl, T, q⟩ := h
  obtain ⟨t, rfl⟩ := rx
  obtain rfl : u = Value.ref p := ry
  obtain ⟨f, hm, hs, hr⟩ := tab_map T I
  refine wpAny_in_of (PySem.strKind_is X.prog X.w z t) hs hm ?_
  have e : (f z).isSome = (tbl.lookup z).isSome := by
    have r := hr z
    cases h1 : tbl.lookup z <;> cases h2 : f z <;> rw [h1, h2] at r <;> first | rfl | exact r.elim
  rw [e]
  exact ⟨.bl _, H, I.tok _, rfl, q⟩
theorem op_notInTab : OpR X (compareOp .NotIn) (fun x y H Q => ∃ (z : Str) (p : Addr) (tbl : List (Str × V)), x = .str z ∧ y = .ref p ∧ KTab X.K X.w p tbl ∧ Q (.bl (!(tbl.lookup z).isSome)) H) := by
  intro pins s σ H x y v u Q I rx ry h
  obtain ⟨z, p, tbl, rfl, rfl, T, q⟩ := h
  obtain ⟨t, rfl⟩ := rx
  obtain rfl : u = Value.ref p := ry
  obtain ⟨f, hm, hs, hr⟩ := tab_map T I
  refine wpAny_notIn_of (PySem.strKind_is X.prog X.w z t) hs hm ?_
  have e : (f z).isSome = (tbl.lookup z).isSome := by
    have r := hr z
    cases h1 : tbl.lookup z <;> cases h2 : f z <;> rw [h1, h2] at r <;> first | rfl | exact r.elim
  rw [e]
  exact ⟨.bl _, H, I.tok _, rfl, q⟩
/-- d.get(k) -/
theorem pe_kget (ho : PE X o td) (he : PE X e ty) (m : M1 X o "get" apos e cpos) : PE X (.Call (.Attribute o "get" apos) [e] [] cpos)
    (fun σ H Q => td σ H fun x H1 => ∃ (p : Addr) (tbl : List (Str × V)), x = .ref p ∧ KTab X.K X.w p tbl ∧ ty σ H1 fun y H2 => ∃ z : Str, y = .str z ∧ Q ((tbl.lookup z).getD .non) H2) := by
  refine ⟨fun pins s σ H Q I h => ?_⟩
  refine wpAny_Call_method m.base m.few m.line PySem.F.plainAttrs_dict PySem.F.slot_dict_get PySem.F.type_dict_get (thn (ho.run pins s σ H _ I h) fun u s1 hu => ?_)
  obtain ⟨x, H1, I1, rx, p, tbl, ex, T, q1⟩ := hu
  subst ex
  obtain rfl : u = Value.ref p := rx
  obtain ⟨f, hm, hs, hr⟩ := tab_map T I1
  refine ⟨hm.typeIs, fun a e => ?_, ?_⟩
  · cases e
    obtain ⟨o, es, n, ho, ⟨h1, h2, h3⟩, _⟩ := hm
    first
      | exact ⟨o, ho, h2⟩
      | exact ⟨o, ho, h1⟩
      | exact ⟨o, ho, h3⟩
  rw [m.trees]
  refine Calls.callWith_builtin rfl (Calls.evalArgs_plain (Calls.spliced_cons (thn (he.run pins s1 σ H1 _ I1 q1) fun iv s2 hv => ?_)))
  obtain ⟨y, H2, I2, ry, z, ey, q2⟩ := hv
  subst ey
  obtain ⟨t, rfl⟩ := ry
  obtain ⟨f2, hm2, hs2, hr2⟩ := tab_map T I2
  refine Calls.spliced_nil ?_
  refine call_meetsIn PySem.F.slot_dict_get hm2.typeIs PySem.F.entry_dict_get (PySem.F.args_dict_get_2 _ _) (meets_dict_get (PySem.strKind X.prog X.w) p (PySem.strKind_is X.prog X.w z t) hs2) ⟨_, hm2, ?_⟩
  exact ⟨_, H2, I2.tok _, RelO.getD (d := .non) (d' := .none) (hr2 z) rfl, q2⟩
theorem bits_big {i : Int} (h : i.natAbs < 2 ^ 1000) : Builtin.Int.intBits i ≤ 2 ^ 20 :=
  Nat.le_trans (intBits_le h) (by decide)
theorem op_mulB : OpR X (binaryOp .Mult) (rI CBig fun i j => .int (i * j)) := opI fun _ _ _ _ _ _ _ hc q => mul_int q (.of_bits (bits_big hc.1) (bits_big hc.2))
theorem op_fdivB : OpR X (binaryOp .FloorDiv) (rI (fun i j => j ≠ 0 ∧ CBig i j) fun i j => .int (i.fdiv j)) := opI fun i j _ _ _ _ _ hc q => floordiv_int hc.1 q (.inl (noP hc.2))
end
end LK
/-! x == d, where d is a dict and x is none -/
namespace LQ
open PySem PySem.Spec PyProof.Rows PySem.SeqAt
/-- at d stands a dict -/
def IsDct (h : Heap) (d : Addr) : Prop := ∃ o es ep, h.get? d = some o ∧ o.ExactDict ∧ o.data = .dict es ep
theorem IsDct.typeIs {s : Shared} {d : Addr} (x : IsDct s.heap d) : s.TypeIs (.ref d) "dict" := let ⟨o, _, _, ho, hc, _⟩ := x; ⟨o, ho, hc.1⟩
section
variable {prog : Program} {w : World} {A : Around} {E : Value → Shared → Prop} {s : Shared}
theorem dict_declines {d : Addr} {x : Value} {T : String} {Q' : Value → Shared → Prop} (hd : IsDct s.heap d) (hx : s.TypeIs x T) (hs : isSubtype (.type T) (.type "dict") = pure false) (hq : Q' .notImplemented s) :
    wpAny (model prog w) A (call (.builtin "dict.__eq__") [.ref d, x]) Q' E s := by
  refine wpAny_call_entry PySem.F.slot_dict_eq_refl hd.typeIs PySem.F.entry_dict_eq ?_ (PySem.F.args_dict_eq_2 _ _)
  show wpAny _ _ (Builtin.Dict.dictSlotArgs "__eq__" ⟨[.ref d, x], []⟩ >>= _) _ _ s
  refine wpAny_bind ?_
  unfold Builtin.Dict.dictSlotArgs
  refine wpAny_bind (wpAny_notOrdered_dict hd.typeIs ?_)
  show wpAny _ _ (pure (Value.ref d, x)) _ _ s
  refine wpAny_pure ?_
  refine wpAny_bind (wpAny_isInstance (T := T) hx hs ?_)
  simp only [Bool.not_false, if_true]
  exact wpAny_bind (wpAny_rule (wpAny_pure ⟨_, rfl, hq⟩))
end
open AutoSeq1 (wpAny_loadPart')
open MeetsSeq
theorem int_declines_bool (b : Bool) (l : Addr) (c : Value) (es : Array DictEntry) (ep : Nat) (dd : Option Addr) (sl : Array (Option Value)) :
    Meets (Builtin.«int.__eq__» ⟨[.bool b, .ref l], []⟩) (fun _ R s => s.heap.get? l = some { cls := c, dict := dd, data := .dict es ep, slots := sl } ∧ R (.ok (.ret .notImplemented)) s) :=
  .of_wp fun prog w A R s h => by obtain ⟨hp, g, d, tk, os⟩ := s; obtain ⟨hl, h⟩ := h; wp_walk using wpAny_loadPart' hl, wpAny_load hl; exact ⟨_, rfl, h⟩
theorem int_declines_int (b : Int) (u : Tok) (l : Addr) (c : Value) (es : Array DictEntry) (ep : Nat) (dd : Option Addr) (sl : Array (Option Value)) :
    Meets (Builtin.«int.__eq__» ⟨[.int b u, .ref l], []⟩) (fun _ R s => s.heap.get? l = some { cls := c, dict := dd, data := .dict es ep, slots := sl } ∧ R (.ok (.ret .notImplemented)) s) :=
  .of_wp fun prog w A R s h => by obtain ⟨hp, g, d, tk, os⟩ := s; obtain ⟨hl, h⟩ := h; wp_walk using wpAny_loadPart' hl, wpAny_load hl; exact ⟨_, rfl, h⟩
theorem str_declines (b : Str) (u : Tok) (l : Addr) (c : Value) (es : Array DictEntry) (ep : Nat) (dd : Option Addr) (sl : Array (Option Value)) :
    Meets (Builtin.«str.__eq__» ⟨[.str b u, .ref l], []⟩) (fun _ R s => s.heap.get? l = some { cls := c, dict := dd, data := .dict es ep, slots := sl } ∧ R (.ok (.ret .notImplemented)) s) :=
  .of_wp fun prog w A R s h => by obtain ⟨hp, g, d, tk, os⟩ := s; obtain ⟨hl, h⟩ := h; wp_walk using wpAny_loadPart' hl, wpAny_load hl; exact ⟨_, rfl, h⟩
theorem list_declines (l b : Addr) (items : Array Value) (n : Nat) (dd : Option Addr) (sl : Array (Option Value)) (es : Array DictEntry) (ep : Nat) (dd2 : Option Addr) (sl2 : Array (Option Value)) :
    Meets (Builtin.«list.__eq__» ⟨[.ref l, .ref b], []⟩) (fun _ R s => s.heap.get? l = some { cls := .type "list", dict := dd, data := .seq items n, slots := sl } ∧ s.heap.get? b = some { cls := .type "dict", dict := dd2, data := .dict es ep, slots := sl2 } ∧ R (.ok (.ret .notImplemented)) s) :=
  .of_wp fun prog w A R s h => by obtain ⟨hp, g, d, tk, os⟩ := s; obtain ⟨hl, hb, h⟩ := h; have f1 := F.sub_dict_list; wp_walk using wpAny_loadPart' hl, wpAny_loadPart' hb; exact ⟨_, rfl, h⟩
theorem tuple_declines (l b : Addr) (items : Array Value) (n : Nat) (dd : Option Addr) (sl : Array (Option Value)) (es : Array DictEntry) (ep : Nat) (dd2 : Option Addr) (sl2 : Array (Option Value)) :
    Meets (Builtin.«tuple.__eq__» ⟨[.ref l, .ref b], []⟩) (fun _ R s => s.heap.get? l = some { cls := .type "tuple", dict := dd, data := .seq items n, slots := sl } ∧ s.heap.get? b = some { cls := .type "dict", dict := dd2, data := .dict es ep, slots := sl2 } ∧ R (.ok (.ret .notImplemented)) s) :=
  .of_wp fun prog w A R s h => by obtain ⟨hp, g, d, tk, os⟩ := s; obtain ⟨hl, hb, h⟩ := h; have f1 := F.sub_dict_tuple; wp_walk using wpAny_loadPart' hl, wpAny_loadPart' hb; exact ⟨_, rfl, h⟩
section
variable {A : Around} {s : Shared} {d : Addr}
theorem rc_none (hd : IsDct s.heap d) (hu : A.units < cLine) : RcAt A s .none (.ref d) false := fun prog w E Q h =>
  rc_eq_decline_or (k := false) rfl hd.typeIs (by decide) F.sub_dict_NoneType F.slot_NoneType_eq F.slot_dict_eq_refl
    (fun _ hq => call_gives F.slot_NoneType_eq rfl F.entry_NoneType_eq (F.args_NoneType_eq_2 _ _) (NoneType___eq___none_ref_0 d) hq)
    (fun _ hq => dict_declines hd rfl F.sub_NoneType_dict hq)
    (fun _ hq => wpAny_of_eq (rfl : isSame .none (.ref d) = pure false) hq) (.inr hu) h
theorem rc_bool (b : Bool) (hd : IsDct s.heap d) (hu : A.units < cLine) : RcAt A s (.bool b) (.ref d) false := fun prog w E Q h => by
  obtain ⟨⟨cls, dd, data, sl⟩, es, ep, ho, hc, hdt⟩ := id hd
  simp only at hdt
  subst hdt
  exact rc_eq_decline_or (k := false) rfl hd.typeIs (by decide) F.sub_dict_bool F.slot_bool_eq F.slot_dict_eq_refl
    (fun _ hq => call_meets F.slot_bool_eq rfl F.entry_int_eq (F.args_int_eq_2 _ _) (int_declines_bool b d _ es ep dd sl) ⟨ho, hq⟩)
    (fun _ hq => dict_declines hd rfl F.sub_bool_dict hq)
    (fun _ hq => wpAny_of_eq (rfl : isSame (.bool b) (.ref d) = pure false) hq) (.inr hu) h
theorem rc_int (b : Int) (u : Tok) (hd : IsDct s.heap d) (hu : A.units < cLine) : RcAt A s (.int b u) (.ref d) false := fun prog w E Q h => by
  obtain ⟨⟨cls, dd, data, sl⟩, es, ep, ho, hc, hdt⟩ := id hd
  simp only at hdt
  subst hdt
  exact rc_eq_decline_or (k := false) (typeIs_int s b u) hd.typeIs (by decide) F.sub_dict_int F.slot_int_eq F.slot_dict_eq_refl
    (fun _ hq => call_meets F.slot_int_eq (typeIs_int s b u) F.entry_int_eq (F.args_int_eq_2 _ _) (int_declines_int b u d _ es ep dd sl) ⟨ho, hq⟩)
    (fun _ hq => dict_declines hd (typeIs_int s b u) F.sub_int_dict hq)
    (fun _ hq => wpAny_of_eq (rfl : isSame (.int b u) (.ref d) = pure false) hq) (.inr hu) h
theorem rc_str (b : Str) (u : Tok) (hd : IsDct s.heap d) (hu : A.units < cLine) : RcAt A s (.str b u) (.ref d) false := fun prog w E Q h => by
  obtain ⟨⟨cls, dd, data, sl⟩, es, ep, ho, hc, hdt⟩ := id hd
  simp only at hdt
  subst hdt
  exact rc_eq_decline_or (k := false) (typeIs_str s b u) hd.typeIs (by decide) F.sub_dict_str F.slot_str_eq F.slot_dict_eq_refl
    (fun _ hq => call_meets F.slot_str_eq (typeIs_str s b u) F.entry_str_eq (F.args_str_eq_2 _ _) (str_declines b u d _ es ep dd sl) ⟨ho, hq⟩)
    (fun _ hq => dict_declines hd (typeIs_str s b u) F.sub_str_dict hq)
    (fun _ hq => wpAny_of_eq (rfl : isSame (.str b u) (.ref d) = pure false) hq) (.inr hu) h
theorem rc_list {l : Addr} {items : Array Value} (hl : s.heap.IsList l items) (hd : IsDct s.heap d) (hu : A.units < cLine) : RcAt A s (.ref l) (.ref d) false := fun prog w E Q h => by
  obtain ⟨⟨cls, dd, data, sl⟩, es, ep, ho, hc, hdt⟩ := id hd
  obtain ⟨⟨cls2, dd2, data2, sl2⟩, ho2, hc2, n2, hd2⟩ := id hl
  obtain ⟨hc1, hcd, hcs⟩ := hc
  simp only at hdt hc1 hc2 hd2
  subst hdt hc1 hc2 hd2
  have hne : l ≠ d := fun e => by
    subst e
    rw [ho] at ho2
    exact absurd (congrArg Obj.data (Option.some.inj ho2)) (fun z => nomatch z)
  exact rc_eq_decline_or (k := false) ⟨_, ho2, rfl⟩ hd.typeIs (by decide) F.sub_dict_list F.slot_list_eq F.slot_dict_eq_refl
    (fun _ hq => call_meets F.slot_list_eq ⟨_, ho2, rfl⟩ F.entry_list_eq (F.args_list_eq_2 _ _) (list_declines l d items n2 dd2 sl2 es ep dd sl) ⟨ho2, ho, hq⟩)
    (fun _ hq => dict_declines hd ⟨_, ho2, rfl⟩ F.sub_list_dict hq)
    (fun _ hq => wpAny_isSame_ref_other' hne ho2 ho (by simp) hq) (.inr hu) h
theorem rc_tuple {l : Addr} {items : Array Value} (hl : s.heap.IsTuple l items) (hd : IsDct s.heap d) (hu : A.units < cLine) : RcAt A s (.ref l) (.ref d) false := fun prog w E Q h => by
  obtain ⟨⟨cls, dd, data, sl⟩, es, ep, ho, hc, hdt⟩ := id hd
  obtain ⟨⟨cls2, dd2, data2, sl2⟩, ho2, hc2, n2, hd2⟩ := id hl
  obtain ⟨hc1, hcd, hcs⟩ := hc
  simp only at hdt hc1 hc2 hd2
  subst hdt hc1 hc2 hd2
  have hne : l ≠ d := fun e => by
    subst e
    rw [ho] at ho2
    exact absurd (congrArg Obj.data (Option.some.inj ho2)) (fun z => nomatch z)
  exact rc_eq_decline_or (k := false) ⟨_, ho2, rfl⟩ hd.typeIs (by decide) F.sub_dict_tuple F.slot_tuple_eq F.slot_dict_eq_refl
    (fun _ hq => call_meets F.slot_tuple_eq ⟨_, ho2, rfl⟩ F.entry_tuple_eq (F.args_tuple_eq_2 _ _) (tuple_declines l d items n2 dd2 sl2 es ep dd sl) ⟨ho2, ho, hq⟩)
    (fun _ hq => dict_declines hd ⟨_, ho2, rfl⟩ F.sub_tuple_dict hq)
    (fun _ hq => wpAny_isSame_ref_other' hne ho2 ho (by simp) hq) (.inr hu) h
end
open L2
/-- x == {}, where x is None, a bool, an int, a text, a list, a tuple or another empty dict -/
def rEqE : R2 := fun x y H Q => ∃ d, y = .ref d ∧ H d = some (.dK []) ∧
  (((x = .non ∨ (∃ b, x = .bl b) ∨ (∃ i, x = .int i) ∨ (∃ z, x = .str z) ∨ (∃ a xs, x = .ref a ∧ H a = some (.lst xs)) ∨ (∃ a xs, x = .ref a ∧ H a = some (.tup xs))) ∧ Q (.bl false) H) ∨ (∃ a, x = .ref a ∧ H a = some (.dK []) ∧ Q (.bl true) H))
theorem op_eqE {X : Cx} (hu : X.A.units < cLine) : OpR X (compareOp .Eq) rEqE := by
  intro pins s σ H x y v u Q I rx ry h
  obtain ⟨d, rfl, ed, h⟩ := h
  rcases h with ⟨h, q⟩ | ⟨a, rfl, ea, q⟩
  · obtain rfl : u = Value.ref d := ry
    obtain ⟨_, yd, vd, rd, o, es, ep, ho, hx, hdt, _⟩ := (show ObjOk X.prog X.w H s.heap d (.dK []) from I.hok d _ ed)
    have D : IsDct s.heap d := ⟨o, es, ep, ho, hx, hdt⟩
    rcases h with rfl | ⟨b, rfl⟩ | ⟨i, rfl⟩ | ⟨z, rfl⟩ | ⟨a, xs, rfl, ea⟩ | ⟨a, xs, rfl, ea⟩
    · cases rx
      exact rc_none D hu _ _ _ _ (fin_bl I q rfl)
    · cases rx
      exact rc_bool b D hu _ _ _ _ (fin_bl I q rfl)
    · obtain ⟨t, rfl⟩ := rx
      exact rc_int i t D hu _ _ _ _ (fin_bl I q rfl)
    · obtain ⟨t, rfl⟩ := rx
      exact rc_str z t D hu _ _ _ _ (fin_bl I q rfl)
    · obtain rfl : v = Value.ref a := rx
      obtain ⟨_, its, n, _, h1⟩ := (show ObjOk X.prog X.w H s.heap a (.lst xs) from I.hok a _ ea)
      exact rc_list (items := its.toArray) ⟨_, h1, rfl, n, rfl⟩ D hu _ _ _ _ (fin_bl I q rfl)
    · obtain rfl : v = Value.ref a := rx
      obtain ⟨_, its, _, o2, h1, h2, n, h3⟩ := (show ObjOk X.prog X.w H s.heap a (.tup xs) from I.hok a _ ea)
      exact rc_tuple (items := its.toArray) ⟨o2, h1, h2, n, h3⟩ D hu _ _ _ _ (fin_bl I q rfl)
  · exact op_eq_dict hu pins s σ H _ _ v u Q I rx ry ⟨a, d, [], rfl, rfl, ea, ed, List.nodup_nil, (fun p hp => nomatch hp), q⟩
/-- xs == [] -/
def rEqNil : R2 := fun x y H Q => ∃ a b xs, x = .ref a ∧ y = .ref b ∧ H a = some (.lst xs) ∧ H b = some (.lst []) ∧ Q (.bl xs.isEmpty) H
theorem op_eqNil {X : Cx} (hu : X.A.units < cLine) : OpR X (compareOp .Eq) rEqNil := by
  intro pins s σ H x y v u Q I rx ry h
  obtain ⟨a, b, xs, rfl, rfl, ea, eb, q⟩ := h
  obtain rfl : v = Value.ref a := rx
  obtain rfl : u = Value.ref b := ry
  obtain ⟨_, its, n, r1, h1⟩ := (show ObjOk X.prog X.w H s.heap a (.lst xs) from I.hok a _ ea)
  obtain ⟨_, its2, n2, r2, h2⟩ := (show ObjOk X.prog X.w H s.heap b (.lst []) from I.hok b _ eb)
  cases r2
  have l1 : s.heap.IsList a its.toArray := ⟨_, h1, rfl, n, rfl⟩
  have l2 : s.heap.IsList b #[] := ⟨_, h2, rfl, n2, rfl⟩
  cases r1 with
  | nil => exact RcAt.lists (e := fun _ => true) l1 l2 rfl hu (fun j h1 h2 => absurd h1 (Nat.not_lt_zero j)) _ _ _ _ (fin_bl I q rfl)
  | cons r t => exact RcAt.lists_lengths l1 l2 rfl hu _ _ _ _ (fin_bl I q rfl)
/-- t != () -/
def rNeNilT : R2 := fun x y H Q => ∃ a b xs, x = .ref a ∧ y = .ref b ∧ H a = some (.tup xs) ∧ H b = some (.tup []) ∧ Q (.bl (!xs.isEmpty)) H
theorem op_neNilT {X : Cx} (hu : X.A.units < cLine) : OpR X (compareOp .NotEq) rNeNilT := by
  intro pins s σ H x y v u Q I rx ry h
  obtain ⟨a, b, xs, rfl, rfl, ea, eb, q⟩ := h
  obtain rfl : v = Value.ref a := rx
  obtain rfl : u = Value.ref b := ry
  obtain ⟨_, its, r1, o1, h1, c1, n1, d1⟩ := (show ObjOk X.prog X.w H s.heap a (.tup xs) from I.hok a _ ea)
  obtain ⟨_, its2, r2, o2, h2, c2, n2, d2⟩ := (show ObjOk X.prog X.w H s.heap b (.tup []) from I.hok b _ eb)
  cases r2
  have l1 : s.heap.IsTuple a its.toArray := ⟨o1, h1, c1, n1, d1⟩
  have l2 : s.heap.IsTuple b #[] := ⟨o2, h2, c2, n2, d2⟩
  have hl := Paired.length r1
  refine RcNeAt.tuples (e := fun _ => true) l1 l2 hu (fun j h1 h2 => absurd h2 (Nat.not_lt_zero j)) _ _ _ _ (fin_bl I q ?_)
  cases r1 <;> simp
end LQ
/-! own rules: ==, !=, in over values that may be the same object -/
namespace LV
open PySem PySem.Spec PyProof.Rows L2
/-- the answer of == between the items x and y (the same object is equal) -/
def EqV (K : PySem.W.Frag) (H : Hp) (n : Nat) (x y : V) (b : Bool) : Prop :=
  ∀ (X : Cx) (pins : List (Addr × Obj)) (σ : L2.St) (s : Shared), X.K = K → Inv X pins σ H s → ∀ v u, L2.RelV x v → L2.RelV y u → ∀ A : Around, A.units + n < cLine → SeqAt.EqAt A s v u b
/-- the answer of == between x and y -/
def RcV (K : PySem.W.Frag) (H : Hp) (n : Nat) (x y : V) (b : Bool) : Prop :=
  ∀ (X : Cx) (pins : List (Addr × Obj)) (σ : L2.St) (s : Shared), X.K = K → Inv X pins σ H s → ∀ v u, L2.RelV x v → L2.RelV y u → ∀ A : Around, A.units + n < cLine → SeqAt.RcAt A s v u b
/-- the answer of != between x and y -/
def NeV (K : PySem.W.Frag) (H : Hp) (n : Nat) (x y : V) (b : Bool) : Prop :=
  ∀ (X : Cx) (pins : List (Addr × Obj)) (σ : L2.St) (s : Shared), X.K = K → Inv X pins σ H s → ∀ v u, L2.RelV x v → L2.RelV y u → ∀ A : Around, A.units + n < cLine → SeqAt.RcNeAt A s v u b
theorem eqAt_of_rcL {A : Around} {s : Shared} {d : Addr} {u : Value} {k : Bool} (hne : (Value.ref d == u) = false) (h : SeqAt.RcAt A s (.ref d) u k) : SeqAt.EqAt A s (.ref d) u k := fun prog w E Q hq => by
  unfold eqBool
  refine wpAny_holding ?_
  refine wpAny_ite_split (fun hab => absurd hab (by rw [hne]; exact Bool.false_ne_true)) (fun _ => ?_)
  cases u <;> exact wpAny_bind (h prog w E _ (wpAny_truthy_bool hq))
theorem eqAt_of_rcR {A : Around} {s : Shared} {d : Addr} {v : Value} {k : Bool} (hne : (v == Value.ref d) = false) (h : SeqAt.RcAt A s v (.ref d) k) : SeqAt.EqAt A s v (.ref d) k := fun prog w E Q hq => by
  unfold eqBool
  refine wpAny_holding ?_
  refine wpAny_ite_split (fun hab => absurd hab (by rw [hne]; exact Bool.false_ne_true)) (fun _ => ?_)
  cases v <;> exact wpAny_bind (h prog w E _ (wpAny_truthy_bool hq))
section
variable {K : PySem.W.Frag} {H : Hp} {n : Nat} {x y : V} {a b : Addr} {xs ys : List V} {e : Nat → Bool}
theorem EqV.same (a : Addr) : EqV K H n (.ref a) (.ref a) true := by
  intro X pins σ s hK I v u rv ru A hu
  obtain rfl : v = Value.ref a := rv
  obtain rfl : u = Value.ref a := ru
  exact SeqAt.EqAt.same _
theorem EqV.flat (fx : flatV x = true) (fy : flatV y = true) : EqV K H n x y (eqV x y) := by
  intro X pins σ s hK I v u rv ru A hu
  exact eqAt_V rv ru fx fy
theorem EqV.of_rc (ne : a ≠ b) {k : Bool} (h : RcV K H n (.ref a) (.ref b) k) : EqV K H n (.ref a) (.ref b) k := by
  intro X pins σ s hK I v u rv ru A hu
  have r := h X pins σ s hK I v u rv ru A hu
  obtain rfl : v = Value.ref a := rv
  obtain rfl : u = Value.ref b := ru
  exact SeqAt.EqAt.of_refs ne r
theorem RcV.lst (ha : SqL K H a xs) (hb : SqL K H b ys) (hl : xs.length = ys.length) (he : ∀ i x y, xs[i]? = some x → ys[i]? = some y → EqV K H n x y (e i)) : RcV K H (n + 1) (.ref a) (.ref b) ((List.range xs.length).all e) := by
  intro X pins σ s hK I v u rv ru A hu
  subst hK
  obtain rfl : v = Value.ref a := rv
  obtain rfl : u = Value.ref b := ru
  obtain ⟨its, r1, p1, _⟩ := I.list ha
  obtain ⟨its2, r2, p2, _⟩ := I.list hb
  have l1 := r1.length
  have l2 := r2.length
  have hz : xs.length = its.toArray.size := by rw [List.size_toArray, l1]
  rw [hz]
  refine SeqAt.RcAt.lists (e := e) p1.isList p2.isList (by rw [List.size_toArray, List.size_toArray]; omega) (by omega) fun j h1 h2 => ?_
  rw [List.size_toArray] at h1 h2
  have hx : xs[j]? = some (xs[j]'(by omega)) := List.getElem?_eq_getElem (by omega)
  have hy : ys[j]? = some (ys[j]'(by omega)) := List.getElem?_eq_getElem (by omega)
  obtain ⟨v1, e1, q1⟩ := r1.get hx
  obtain ⟨v2, e2, q2⟩ := r2.get hy
  have f1 : its.toArray[j] = v1 := by
    have := List.getElem?_eq_getElem h1
    rw [e1] at this
    simpa using (Option.some.inj this).symm
  have f2 : its2.toArray[j] = v2 := by
    have := List.getElem?_eq_getElem h2
    rw [e2] at this
    simpa using (Option.some.inj this).symm
  rw [f1, f2]
  exact he j _ _ hx hy X pins σ s rfl I v1 v2 q1 q2 A.in1 (by show A.units + 1 + n < cLine; omega)
theorem RcV.lst_ne (ha : SqL K H a xs) (hb : SqL K H b ys) (hl : xs.length ≠ ys.length) : RcV K H n (.ref a) (.ref b) false := by
  intro X pins σ s hK I v u rv ru A hu
  subst hK
  obtain rfl : v = Value.ref a := rv
  obtain rfl : u = Value.ref b := ru
  obtain ⟨its, r1, p1, _⟩ := I.list ha
  obtain ⟨its2, r2, p2, _⟩ := I.list hb
  have l1 := r1.length
  have l2 := r2.length
  exact SeqAt.RcAt.lists_lengths p1.isList p2.isList (by rw [List.size_toArray, List.size_toArray]; simp; omega) (by omega)
theorem NeV.lst (ha : SqL K H a xs) (hb : SqL K H b ys) (hl : xs.length = ys.length) (he : ∀ i x y, xs[i]? = some x → ys[i]? = some y → EqV K H n x y (e i)) : NeV K H (n + 1) (.ref a) (.ref b) (!(List.range xs.length).all e) := by
  intro X pins σ s hK I v u rv ru A hu
  subst hK
  obtain rfl : v = Value.ref a := rv
  obtain rfl : u = Value.ref b := ru
  obtain ⟨its, r1, p1, _⟩ := I.list ha
  obtain ⟨its2, r2, p2, _⟩ := I.list hb
  have l1 := r1.length
  have l2 := r2.length
  have hz : xs.length = its.toArray.size := by rw [List.size_toArray, l1]
  rw [hz]
  refine SeqAt.RcNeAt.lists (e := e) p1.isList p2.isList (by rw [List.size_toArray, List.size_toArray]; omega) (by omega) fun j h1 h2 => ?_
  rw [List.size_toArray] at h1 h2
  have hx : xs[j]? = some (xs[j]'(by omega)) := List.getElem?_eq_getElem (by omega)
  have hy : ys[j]? = some (ys[j]'(by omega)) := List.getElem?_eq_getElem (by omega)
  obtain ⟨v1, e1, q1⟩ := r1.get hx
  obtain ⟨v2, e2, q2⟩ := r2.get hy
  have f1 : its.toArray[j] = v1 := by
    have := List.getElem?_eq_getElem h1
    rw [e1] at this
    simpa using (Option.some.inj this).symm
  have f2 : its2.toArray[j] = v2 := by
    have := List.getElem?_eq_getElem h2
    rw [e2] at this
    simpa using (Option.some.inj this).symm
  rw [f1, f2]
  exact he j _ _ hx hy X pins σ s rfl I v1 v2 q1 q2 A.in1 (by show A.units + 1 + n < cLine; omega)
theorem NeV.lst_ne (ha : SqL K H a xs) (hb : SqL K H b ys) (hl : xs.length ≠ ys.length) : NeV K H n (.ref a) (.ref b) true := by
  intro X pins σ s hK I v u rv ru A hu
  subst hK
  obtain rfl : v = Value.ref a := rv
  obtain rfl : u = Value.ref b := ru
  obtain ⟨its, r1, p1, _⟩ := I.list ha
  obtain ⟨its2, r2, p2, _⟩ := I.list hb
  have l1 := r1.length
  have l2 := r2.length
  exact SeqAt.RcNeAt.lists_lengths p1.isList p2.isList (by rw [List.size_toArray, List.size_toArray]; simp; omega) (by omega)
theorem RcV.tup (ha : SqT K H a xs) (hb : SqT K H b ys) (he : ∀ i x y, xs[i]? = some x → ys[i]? = some y → EqV K H n x y (e i)) : RcV K H (n + 1) (.ref a) (.ref b) ((List.range (min xs.length ys.length)).all e && xs.length == ys.length) := by
  intro X pins σ s hK I v u rv ru A hu
  subst hK
  obtain rfl : v = Value.ref a := rv
  obtain rfl : u = Value.ref b := ru
  obtain ⟨its, r1, p1, _⟩ := I.tuple ha
  obtain ⟨its2, r2, p2, _⟩ := I.tuple hb
  have l1 := r1.length
  have l2 := r2.length
  have hz : xs.length = its.toArray.size := by rw [List.size_toArray, l1]
  have hz2 : ys.length = its2.toArray.size := by rw [List.size_toArray, l2]
  rw [hz, hz2]
  refine SeqAt.RcAt.tuples (e := e) p1 p2 (by omega) fun j h1 h2 => ?_
  rw [List.size_toArray] at h1 h2
  have hx : xs[j]? = some (xs[j]'(by omega)) := List.getElem?_eq_getElem (by omega)
  have hy : ys[j]? = some (ys[j]'(by omega)) := List.getElem?_eq_getElem (by omega)
  obtain ⟨v1, e1, q1⟩ := r1.get hx
  obtain ⟨v2, e2, q2⟩ := r2.get hy
  have f1 : its.toArray[j] = v1 := by
    have := List.getElem?_eq_getElem h1
    rw [e1] at this
    simpa using (Option.some.inj this).symm
  have f2 : its2.toArray[j] = v2 := by
    have := List.getElem?_eq_getElem h2
    rw [e2] at this
    simpa using (Option.some.inj this).symm
  rw [f1, f2]
  exact he j _ _ hx hy X pins σ s rfl I v1 v2 q1 q2 A.in1 (by show A.units + 1 + n < cLine; omega)
theorem EqV.flat_lst (fx : flatV x = true) (hb : SqL K H b ys) : EqV K H (n + 1) x (.ref b) false := by
  intro X pins σ s hK I v u rv ru A hu
  subst hK
  obtain rfl : u = Value.ref b := ru
  obtain ⟨its2, r2, p2, _⟩ := I.list hb
  cases x with
  | non => cases rv; exact SeqAt.EqAt.none_list p2.isList (by omega)
  | bl c => cases rv; exact SeqAt.EqAt.bool_list c p2.isList (by omega)
  | int i => obtain ⟨t, rfl⟩ := rv; exact SeqAt.EqAt.int_list i t p2.isList (by omega)
  | str z => obtain ⟨t, rfl⟩ := rv; exact SeqAt.EqAt.str_list z t p2.isList (by omega)
  | _ => exact absurd (show false = true from fx) Bool.false_ne_true
theorem EqV.lst_flat (ha : SqL K H a xs) (fy : flatV y = true) : EqV K H (n + 1) (.ref a) y false := by
  intro X pins σ s hK I v u rv ru A hu
  subst hK
  obtain rfl : v = Value.ref a := rv
  obtain ⟨its2, r2, p2, _⟩ := I.list ha
  cases y with
  | non => cases ru; exact SeqAt.EqAt.list_none p2.isList (by omega)
  | bl c => cases ru; exact SeqAt.EqAt.list_bool c p2.isList (by omega)
  | int i => obtain ⟨t, rfl⟩ := ru; exact SeqAt.EqAt.list_int i t p2.isList (by omega)
  | str z => obtain ⟨t, rfl⟩ := ru; exact SeqAt.EqAt.list_str z t p2.isList (by omega)
  | _ => exact absurd (show false = true from fy) Bool.false_ne_true
theorem EqV.flat_tup (fx : flatV x = true) (hb : SqT K H b ys) : EqV K H (n + 1) x (.ref b) false := by
  intro X pins σ s hK I v u rv ru A hu
  subst hK
  obtain rfl : u = Value.ref b := ru
  obtain ⟨its2, r2, p2, _⟩ := I.tuple hb
  cases x with
  | non => cases rv; exact SeqAt.EqAt.none_tuple p2 (by omega)
  | bl c => cases rv; exact SeqAt.EqAt.bool_tuple c p2 (by omega)
  | int i => obtain ⟨t, rfl⟩ := rv; exact SeqAt.EqAt.int_tuple i t p2 (by omega)
  | str z => obtain ⟨t, rfl⟩ := rv; exact SeqAt.EqAt.str_tuple z t p2 (by omega)
  | _ => exact absurd (show false = true from fx) Bool.false_ne_true
theorem EqV.tup_flat (ha : SqT K H a xs) (fy : flatV y = true) : EqV K H (n + 1) (.ref a) y false := by
  intro X pins σ s hK I v u rv ru A hu
  subst hK
  obtain rfl : v = Value.ref a := rv
  obtain ⟨its2, r2, p2, _⟩ := I.tuple ha
  cases y with
  | non => cases ru; exact SeqAt.EqAt.tuple_none p2 (by omega)
  | bl c => cases ru; exact SeqAt.EqAt.tuple_bool c p2 (by omega)
  | int i => obtain ⟨t, rfl⟩ := ru; exact SeqAt.EqAt.tuple_int i t p2 (by omega)
  | str z => obtain ⟨t, rfl⟩ := ru; exact SeqAt.EqAt.tuple_str z t p2 (by omega)
  | _ => exact absurd (show false = true from fy) Bool.false_ne_true
theorem EqV.lst_tup (ha : SqL K H a xs) (hb : SqT K H b ys) : EqV K H (n + 1) (.ref a) (.ref b) false := by
  intro X pins σ s hK I v u rv ru A hu
  subst hK
  obtain rfl : v = Value.ref a := rv
  obtain rfl : u = Value.ref b := ru
  obtain ⟨its, r1, p1, _⟩ := I.list ha
  obtain ⟨its2, r2, p2, _⟩ := I.tuple hb
  exact SeqAt.EqAt.list_tuple p1.isList p2 (by omega)
theorem EqV.tup_lst (ha : SqT K H a xs) (hb : SqL K H b ys) : EqV K H (n + 1) (.ref a) (.ref b) false := by
  intro X pins σ s hK I v u rv ru A hu
  subst hK
  obtain rfl : v = Value.ref a := rv
  obtain rfl : u = Value.ref b := ru
  obtain ⟨its, r1, p1, _⟩ := I.tuple ha
  obtain ⟨its2, r2, p2, _⟩ := I.list hb
  exact SeqAt.EqAt.tuple_list p1 p2.isList (by omega)
end
/-! ### dicts on the left -/
section
open LQ
variable {A : Around} {s : Shared} {d : Addr}
theorem cr_none (hd : IsDct s.heap d) (hu : A.units < cLine) : SeqAt.RcAt A s (.ref d) .none false := fun prog w E Q h =>
  SeqAt.rc_eq_decline_or (k := false) hd.typeIs rfl (by decide) F.sub_NoneType_dict F.slot_dict_eq_refl F.slot_NoneType_eq
    (fun _ hq => dict_declines hd rfl F.sub_NoneType_dict hq)
    (fun _ hq => call_gives F.slot_NoneType_eq rfl F.entry_NoneType_eq (F.args_NoneType_eq_2 _ _) (SeqAt.NoneType___eq___none_ref_0 d) hq)
    (fun _ hq => wpAny_of_eq (rfl : isSame (.ref d) .none = pure false) hq) (.inr hu) h
theorem cr_bool (b : Bool) (hd : IsDct s.heap d) (hu : A.units < cLine) : SeqAt.RcAt A s (.ref d) (.bool b) false := fun prog w E Q h => by
  obtain ⟨⟨cls, dd, data, sl⟩, es, ep, ho, hc, hdt⟩ := id hd
  simp only at hdt
  subst hdt
  exact SeqAt.rc_eq_decline_or (k := false) hd.typeIs rfl (by decide) F.sub_bool_dict F.slot_dict_eq_refl F.slot_bool_eq
    (fun _ hq => dict_declines hd rfl F.sub_bool_dict hq)
    (fun _ hq => call_meets F.slot_bool_eq rfl F.entry_int_eq (F.args_int_eq_2 _ _) (int_declines_bool b d _ es ep dd sl) ⟨ho, hq⟩)
    (fun _ hq => wpAny_of_eq (rfl : isSame (.ref d) (.bool b) = pure false) hq) (.inr hu) h
theorem cr_int (b : Int) (u : Tok) (hd : IsDct s.heap d) (hu : A.units < cLine) : SeqAt.RcAt A s (.ref d) (.int b u) false := fun prog w E Q h => by
  obtain ⟨⟨cls, dd, data, sl⟩, es, ep, ho, hc, hdt⟩ := id hd
  simp only at hdt
  subst hdt
  exact SeqAt.rc_eq_decline_or (k := false) hd.typeIs (typeIs_int s b u) (by decide) F.sub_int_dict F.slot_dict_eq_refl F.slot_int_eq
    (fun _ hq => dict_declines hd (typeIs_int s b u) F.sub_int_dict hq)
    (fun _ hq => call_meets F.slot_int_eq (typeIs_int s b u) F.entry_int_eq (F.args_int_eq_2 _ _) (int_declines_int b u d _ es ep dd sl) ⟨ho, hq⟩)
    (fun _ hq => wpAny_of_eq (rfl : isSame (.ref d) (.int b u) = pure false) hq) (.inr hu) h
theorem cr_str (b : Str) (u : Tok) (hd : IsDct s.heap d) (hu : A.units < cLine) : SeqAt.RcAt A s (.ref d) (.str b u) false := fun prog w E Q h => by
  obtain ⟨⟨cls, dd, data, sl⟩, es, ep, ho, hc, hdt⟩ := id hd
  simp only at hdt
  subst hdt
  exact SeqAt.rc_eq_decline_or (k := false) hd.typeIs (typeIs_str s b u) (by decide) F.sub_str_dict F.slot_dict_eq_refl F.slot_str_eq
    (fun _ hq => dict_declines hd (typeIs_str s b u) F.sub_str_dict hq)
    (fun _ hq => call_meets F.slot_str_eq (typeIs_str s b u) F.entry_str_eq (F.args_str_eq_2 _ _) (str_declines b u d _ es ep dd sl) ⟨ho, hq⟩)
    (fun _ hq => wpAny_of_eq (rfl : isSame (.ref d) (.str b u) = pure false) hq) (.inr hu) h
theorem cr_list {l : Addr} {items : Array Value} (hl : s.heap.IsList l items) (hd : IsDct s.heap d) (hu : A.units < cLine) : SeqAt.RcAt A s (.ref d) (.ref l) false := fun prog w E Q h => by
  obtain ⟨⟨cls, dd, data, sl⟩, es, ep, ho, hc, hdt⟩ := id hd
  obtain ⟨⟨cls2, dd2, data2, sl2⟩, ho2, hc2, n2, hd2⟩ := id hl
  obtain ⟨hc1, hcd, hcs⟩ := hc
  simp only at hdt hc1 hc2 hd2
  subst hdt hc1 hc2 hd2
  have hne : d ≠ l := fun e => by
    subst e
    rw [ho] at ho2
    exact absurd (congrArg Obj.data (Option.some.inj ho2)) (fun z => nomatch z)
  exact SeqAt.rc_eq_decline_or (k := false) hd.typeIs ⟨_, ho2, rfl⟩ (by decide) F.sub_list_dict F.slot_dict_eq_refl F.slot_list_eq
    (fun _ hq => dict_declines hd ⟨_, ho2, rfl⟩ F.sub_list_dict hq)
    (fun _ hq => call_meets F.slot_list_eq ⟨_, ho2, rfl⟩ F.entry_list_eq (F.args_list_eq_2 _ _) (list_declines l d items n2 dd2 sl2 es ep dd sl) ⟨ho2, ho, hq⟩)
    (fun _ hq => SeqAt.wpAny_isSame_ref_other' hne ho ho2 (by simp) hq) (.inr hu) h
theorem isSame_dict_any {M : Model} {A : Around} {E : Value → Shared → Prop} {s : Shared} {x y : Addr} {ox oy : Obj} {R : Bool → Shared → Prop} (hxy : x ≠ y) (hx : s.heap.get? x = some ox) (hy : s.heap.get? y = some oy) (hnt : ox.cls ≠ .type "tuple")
    (h : R false s) : wpAny M A (isSame (.ref x) (.ref y)) R E s := by
  show wpAny M A (if (x == y) = true then pure true else _) R E s
  rw [if_neg (by simpa using hxy)]
  refine wpAny_bind (wpAny_load hx (wpAny_bind (wpAny_load hy ?_)))
  split
  · rename_i h1 _ _ _; exact absurd h1 hnt
  · exact wpAny_pure h
theorem cr_tuple {l : Addr} {items : Array Value} (hl : s.heap.IsTuple l items) (hd : IsDct s.heap d) (hu : A.units < cLine) : SeqAt.RcAt A s (.ref d) (.ref l) false := fun prog w E Q h => by
  obtain ⟨⟨cls, dd, data, sl⟩, es, ep, ho, hc, hdt⟩ := id hd
  obtain ⟨⟨cls2, dd2, data2, sl2⟩, ho2, hc2, n2, hd2⟩ := id hl
  obtain ⟨hc1, hcd, hcs⟩ := hc
  simp only at hdt hc1 hc2 hd2
  subst hdt hc1 hc2 hd2
  have hne : d ≠ l := fun e => by
    subst e
    rw [ho] at ho2
    exact absurd (congrArg Obj.data (Option.some.inj ho2)) (fun z => nomatch z)
  exact SeqAt.rc_eq_decline_or (k := false) hd.typeIs ⟨_, ho2, rfl⟩ (by decide) F.sub_tuple_dict F.slot_dict_eq_refl F.slot_tuple_eq
    (fun _ hq => dict_declines hd ⟨_, ho2, rfl⟩ F.sub_tuple_dict hq)
    (fun _ hq => call_meets F.slot_tuple_eq ⟨_, ho2, rfl⟩ F.entry_tuple_eq (F.args_tuple_eq_2 _ _) (tuple_declines l d items n2 dd2 sl2 es ep dd sl) ⟨ho2, ho, hq⟩)
    (fun _ hq => isSame_dict_any hne ho ho2 (by simp) hq) (.inr hu) h
end
section
variable {K : PySem.W.Frag} {H : Hp} {n : Nat} {x y : V} {a b : Addr} {xs ys : List V} {kvs : List (L2.Key × V)}
theorem dct_of {X : Cx} {pins : List (Addr × Obj)} {σ : L2.St} {s : Shared} (I : Inv X pins σ H s) (h : H a = some (.dK kvs)) : LQ.IsDct s.heap a := by
  obtain ⟨_, yd, vd, rd, o, es, ep, ho, hx, hdt, _⟩ := (show ObjOk X.prog X.w H s.heap a (.dK kvs) from I.hok a _ h)
  exact ⟨o, es, ep, ho, hx, hdt⟩
theorem EqV.dct_flat (ha : H a = some (.dK kvs)) (fy : flatV y = true) : EqV K H (n + 1) (.ref a) y false := by
  intro X pins σ s hK I v u rv ru A hu
  obtain rfl : v = Value.ref a := rv
  have D := dct_of I ha
  cases y with
  | non => cases ru; exact eqAt_of_rcL rfl (cr_none D (by omega))
  | bl c => cases ru; exact eqAt_of_rcL rfl (cr_bool c D (by omega))
  | int i => obtain ⟨t, rfl⟩ := ru; exact eqAt_of_rcL rfl (cr_int i t D (by omega))
  | str z => obtain ⟨t, rfl⟩ := ru; exact eqAt_of_rcL rfl (cr_str z t D (by omega))
  | _ => exact absurd (show false = true from fy) Bool.false_ne_true
theorem EqV.flat_dct (fx : flatV x = true) (hb : H b = some (.dK kvs)) : EqV K H (n + 1) x (.ref b) false := by
  intro X pins σ s hK I v u rv ru A hu
  obtain rfl : u = Value.ref b := ru
  have D := dct_of I hb
  cases x with
  | non => cases rv; exact eqAt_of_rcR rfl (LQ.rc_none D (by omega))
  | bl c => cases rv; exact eqAt_of_rcR rfl (LQ.rc_bool c D (by omega))
  | int i => obtain ⟨t, rfl⟩ := rv; exact eqAt_of_rcR rfl (LQ.rc_int i t D (by omega))
  | str z => obtain ⟨t, rfl⟩ := rv; exact eqAt_of_rcR rfl (LQ.rc_str z t D (by omega))
  | _ => exact absurd (show false = true from fx) Bool.false_ne_true
theorem RcV.dct_lst (ha : H a = some (.dK kvs)) (hb : SqL K H b ys) : RcV K H (n + 1) (.ref a) (.ref b) false := by
  intro X pins σ s hK I v u rv ru A hu
  subst hK
  obtain rfl : v = Value.ref a := rv
  obtain rfl : u = Value.ref b := ru
  obtain ⟨its2, r2, p2, _⟩ := I.list hb
  exact cr_list p2.isList (dct_of I ha) (by omega)
theorem RcV.dct_tup (ha : H a = some (.dK kvs)) (hb : SqT K H b ys) : RcV K H (n + 1) (.ref a) (.ref b) false := by
  intro X pins σ s hK I v u rv ru A hu
  subst hK
  obtain rfl : v = Value.ref a := rv
  obtain rfl : u = Value.ref b := ru
  obtain ⟨its2, r2, p2, _⟩ := I.tuple hb
  exact cr_tuple p2 (dct_of I ha) (by omega)
end
/-! ### the operators -/
section
variable {X : Cx}
theorem op_eqW (hu : X.A.units + 64 < cLine) : OpR X (compareOp .Eq) (fun x y H Q => ∃ b, RcV X.K H 60 x y b ∧ Q (.bl b) H) := by
  intro pins s σ H x y v u Q I rx ry h
  obtain ⟨b, r, q⟩ := h
  exact r X pins σ s rfl I v u rx ry X.A (by omega) _ _ _ _ (fin_bl I q rfl)
theorem op_neW (hu : X.A.units + 64 < cLine) : OpR X (compareOp .NotEq) (fun x y H Q => ∃ b, NeV X.K H 60 x y b ∧ Q (.bl b) H) := by
  intro pins s σ H x y v u Q I rx ry h
  obtain ⟨b, r, q⟩ := h
  exact r X pins σ s rfl I v u rx ry X.A (by omega) _ _ _ _ (fin_bl I q rfl)
def eA (e : V → Bool) (u : Value) : Bool := match absV u with
  | some y => e y
  | none => false
theorem absV_of {x : V} {u : Value} (h : L2.RelV x u) : absV u = some x := by
  cases x <;> simp only [L2.RelV] at h <;> first
    | (subst h; rfl)
    | (obtain ⟨t, rfl⟩ := h; rfl)
theorem eA_of {e : V → Bool} {x : V} {u : Value} (h : L2.RelV x u) : eA e u = e x := by
  unfold eA
  rw [absV_of h]
theorem any_eA {e : V → Bool} : ∀ {xs : List V} {us : List Value}, Vals xs us → us.any (eA e) = xs.any e
  | _, _, .nil => rfl
  | _, _, .cons r t => by rw [List.any_cons, List.any_cons, eA_of r, any_eA t]
theorem vals_mem {u : Value} : ∀ {xs : List V} {us : List Value}, Vals xs us → u ∈ us → ∃ x ∈ xs, L2.RelV x u
  | _, _, .nil, h => nomatch h
  | x :: _, _, .cons r t, h => by
    rcases List.mem_cons.mp h with rfl | h
    · exact ⟨x, List.mem_cons_self, r⟩
    · obtain ⟨z, hz, rz⟩ := vals_mem t h
      exact ⟨z, List.mem_cons_of_mem _ hz, rz⟩
/-- x in ys, x not in ys -/
def rInW (K : PySem.W.Frag) (neg : Bool) : R2 := fun x y H Q => ∃ p ys e, y = .ref p ∧ (SqL K H p ys ∨ SqT K H p ys) ∧ (∀ z ∈ ys, EqV K H 60 z x (e z)) ∧ Q (.bl (if neg then !ys.any e else ys.any e)) H
theorem op_inW (hu : X.A.units + 64 < cLine) : OpR X (compareOp .In) (rInW X.K false) := by
  intro pins s σ H x y v u Q I rx ry h
  obtain ⟨p, ys, e, rfl, hq, he, q⟩ := h
  cases ry
  rcases hq with hq | hq
  · obtain ⟨its, r, pl, hz⟩ := I.list hq
    refine SeqAt.in_listAt (eA e) pl.isList (fun w hw => ?_) ⟨.bl _, H, I, rfl, ?_⟩
    · obtain ⟨z, hz, rz⟩ := vals_mem r (by simpa using hw)
      rw [eA_of rz]
      exact he z hz X pins σ s rfl I w v rz rx X.A.in1 (by show X.A.units + 1 + 60 < cLine; omega)
    · rw [show its.toArray.any (eA e) = its.any (eA e) by simp, any_eA r]
      exact q
  · obtain ⟨its, r, pl, hz⟩ := I.tuple hq
    refine SeqAt.in_tupleAt (eA e) pl (fun w hw => ?_) ⟨.bl _, H, I, rfl, ?_⟩
    · obtain ⟨z, hz, rz⟩ := vals_mem r (by simpa using hw)
      rw [eA_of rz]
      exact he z hz X pins σ s rfl I w v rz rx X.A.in1 (by show X.A.units + 1 + 60 < cLine; omega)
    · rw [show its.toArray.any (eA e) = its.any (eA e) by simp, any_eA r]
      exact q
theorem op_notInW (hu : X.A.units + 64 < cLine) : OpR X (compareOp .NotIn) (rInW X.K true) := by
  intro pins s σ H x y v u Q I rx ry h
  obtain ⟨p, ys, e, rfl, hq, he, q⟩ := h
  cases ry
  rcases hq with hq | hq
  · obtain ⟨its, r, pl, hz⟩ := I.list hq
    refine SeqAt.notIn_listAt (eA e) pl.isList (fun w hw => ?_) ⟨.bl _, H, I, rfl, ?_⟩
    · obtain ⟨z, hz, rz⟩ := vals_mem r (by simpa using hw)
      rw [eA_of rz]
      exact he z hz X pins σ s rfl I w v rz rx X.A.in1 (by show X.A.units + 1 + 60 < cLine; omega)
    · rw [show its.toArray.any (eA e) = its.any (eA e) by simp, any_eA r]
      exact q
  · obtain ⟨its, r, pl, hz⟩ := I.tuple hq
    refine SeqAt.notIn_tupleAt (eA e) pl (fun w hw => ?_) ⟨.bl _, H, I, rfl, ?_⟩
    · obtain ⟨z, hz, rz⟩ := vals_mem r (by simpa using hw)
      rw [eA_of rz]
      exact he z hz X pins σ s rfl I w v rz rx X.A.in1 (by show X.A.units + 1 + 60 < cLine; omega)
    · rw [show its.toArray.any (eA e) = its.any (eA e) by simp, any_eA r]
      exact q
end
end LV
/-! own rules: d[k] of a written dict; a tuple of texts asked in a written tuple of such tuples -/
namespace LK
open PySem PySem.Spec PyProof.Rows L2 LV
section
variable {X : Cx} {o e : Expr} {td ty : TE} {pos : Pos}
/-- d[k] -/
theorem pe_kidx (ho : PE X o td) (hi : PE X e ty) (hs : NoSl e) : PE X (.Subscript o e pos)
    (fun σ H Q => td σ H fun x H1 => ty σ H1 fun y H2 => ∃ (p : Addr) (tbl : List (Str × V)) (z : Str) (v : V), x = .ref p ∧ y = .str z ∧ KTab X.K X.w p tbl ∧ tbl.lookup z = some v ∧ Q v H2) := by
  refine ⟨fun pins s σ H Q I h => ?_⟩
  refine subD_of PySem.F.slot_dict_getitem.lookup hs (thn (ho.run pins s σ H _ I h) fun u s1 ⟨x, H1, I1, rx, q1⟩ => thn (hi.run pins s1 σ H1 _ I1 q1) fun iv s2 ⟨y, H2, I2, ry, p, tbl, z, v, ex, ey, T, hl, q2⟩ => ?_)
  subst ex
  subst ey
  obtain rfl : u = Value.ref p := rx
  obtain ⟨t, rfl⟩ := ry
  obtain ⟨f, hm, hs, hr⟩ := tab_map T I2
  refine ⟨hm.typeIs, ?_⟩
  have r := hr z
  rw [hl] at r
  cases hf : f z with
  | none =>
    rw [hf] at r
    exact r.elim
  | some w' =>
    rw [hf] at r
    exact wpAny_getItem_of (PySem.strKind_is X.prog X.w z t) hm hf ⟨v, H2, I2.tok _, r, q2⟩
end
/-- a written tuple -/
def KTup (K : PySem.W.Frag) (a : Addr) (xs : List V) : Prop :=
  ∃ (o : Obj) (its : Array Value) (n : Nat), K.lookup a = some o ∧ o.cls = .type "tuple" ∧ o.data = .seq its n ∧ its.size ≤ sizeLine ∧ Vals xs its.toList
theorem KTup.sq {K : PySem.W.Frag} {H : Hp} {a : Addr} {xs : List V} (h : KTup K a xs) : SqT K H a xs := .inr h
theorem vals_inj : ∀ {xs ys : List V} {us : List Value}, Vals xs us → Vals ys us → xs = ys
  | _, _, _, .nil, .nil => rfl
  | _, _, _, .cons r t, .cons r2 t2 => by
    have a := absV_of r
    rw [absV_of r2] at a
    rw [Option.some.inj a, vals_inj t t2]
theorem KTup.inj {K : PySem.W.Frag} {a : Addr} {xs ys : List V} (h : KTup K a xs) (h2 : KTup K a ys) : xs = ys := by
  obtain ⟨o, its, n, hk, hc, hd, hz, r⟩ := h
  obtain ⟨o2, its2, n2, hk2, hc2, hd2, hz2, r2⟩ := h2
  rw [hk] at hk2
  cases hk2
  rw [hd] at hd2
  cases hd2
  exact vals_inj r r2
theorem KTup.free {X : Cx} {pins : List (Addr × Obj)} {σ : L2.St} {H : Hp} {s : Shared} {b : Addr} {ys : List V} (I : Inv X pins σ H s) (h : KTup X.K b ys) : H b = none := by
  obtain ⟨o, its, n, hk, _⟩ := h
  exact (I.bs b o (I.ok.mod.kin b o hk)).2
theorem all_str : ∀ (xs ys : List Str), xs.length = ys.length → ((List.range xs.length).all fun i => decide (xs[i]? = ys[i]?)) = decide (xs = ys) := by
  intro xs ys hl
  by_cases h : xs = ys
  · subst h
    rw [decide_eq_true rfl]
    exact List.all_eq_true.mpr fun i _ => decide_eq_true rfl
  · rw [decide_eq_false h]
    refine Bool.eq_false_iff.mpr fun q => h ?_
    have q := List.all_eq_true.mp q
    refine List.ext_getElem? fun i => ?_
    by_cases hi : i < xs.length
    · exact of_decide_eq_true (q i (List.mem_range.mpr hi))
    · rw [List.getElem?_eq_none (by omega), List.getElem?_eq_none (by omega)]
theorem EqV.strs {K : PySem.W.Frag} {H : Hp} {a b : Addr} {xs ys : List Str} (ha : KTup K a (xs.map V.str)) (hb : H b = some (.tup (ys.map V.str))) : EqV K H 60 (.ref a) (.ref b) (decide (xs = ys)) := by
  intro X pins σ s hK I v u rv ru A hu
  subst hK
  have ne : a ≠ b := fun z => by
    have := KTup.free I ha
    rw [z, hb] at this
    cases this
  have r := EqV.of_rc ne (RcV.tup (K := X.K) (H := H) (n := 59) (e := fun i => decide (xs[i]? = ys[i]?)) (KTup.sq ha) (SqT.of hb) fun i x y hx hy => ?_) X pins σ s rfl I v u rv ru A hu
  · rw [List.length_map, List.length_map] at r
    by_cases hl : xs.length = ys.length
    · rw [← hl, Nat.min_self, all_str xs ys hl] at r
      simpa using r
    · rw [decide_eq_false fun z => hl (by rw [z])]
      have z : (xs.length == ys.length) = false := by simpa using hl
      rw [z, Bool.and_false] at r
      exact r
  · rw [List.getElem?_map] at hx hy
    obtain ⟨x', hx', rfl⟩ := Option.map_eq_some_iff.mp hx
    obtain ⟨y', hy', rfl⟩ := Option.map_eq_some_iff.mp hy
    have f := EqV.flat (K := X.K) (H := H) (n := 59) (x := .str x') (y := .str y') rfl rfl
    rw [hx', hy']
    have z : decide (some x' = some y') = eqV (.str x') (.str y') := by
      show decide (some x' = some y') = (x' == y')
      by_cases e : x' = y'
      · subst e
        simp
      · have e2 : (x' == y') = false := beq_eq_false_iff_ne.mpr e
        rw [e2]
        exact decide_eq_false fun q => e (Option.some.inj q)
    rw [z]
    exact f
open Classical in
/-- y in t, y a tuple of texts, t a written tuple of written tuples of texts -/
theorem in_kts {K : PySem.W.Frag} {H : Hp} {a b : Addr} {bs : List Addr} {kss : List (List Str)} {ys : List Str} {neg : Bool} {Q : VK} (ha : KTup K a (bs.map V.ref)) (hp : Paired (fun (b : Addr) (ks : List Str) => KTup K b (ks.map V.str)) bs kss) (hb : H b = some (.tup (ys.map V.str)))
    (q : Q (.bl (if neg then !kss.any fun ks => decide (ks = ys) else kss.any fun ks => decide (ks = ys))) H) : rInW K neg (.ref b) (.ref a) H Q := by
  have key : ∀ {bs : List Addr} {kss : List (List Str)}, Paired (fun (b : Addr) (ks : List Str) => KTup K b (ks.map V.str)) bs kss →
      (bs.map V.ref).any (fun z => decide (∃ c, z = V.ref c ∧ KTup K c (ys.map V.str))) = kss.any (fun ks => decide (ks = ys)) ∧
      ∀ z ∈ bs.map V.ref, EqV K H 60 z (.ref b) (decide (∃ c, z = V.ref c ∧ KTup K c (ys.map V.str))) := by
    intro bs kss h
    induction h with
    | nil => exact ⟨rfl, fun z hz => nomatch hz⟩
    | @cons c ks _ _ r t ih =>
      have e : decide (∃ c', V.ref c = V.ref c' ∧ KTup K c' (ys.map V.str)) = decide (ks = ys) := by
        by_cases z : ks = ys
        · subst z
          rw [decide_eq_true rfl]
          exact decide_eq_true ⟨c, rfl, r⟩
        · rw [decide_eq_false z]
          refine decide_eq_false fun ⟨c', e, k⟩ => z ?_
          cases e
          have := KTup.inj r k
          exact (List.map_inj_right (fun a b h => V.str.inj h)).mp this
      refine ⟨?_, fun z hz => ?_⟩
      · rw [List.map_cons, List.any_cons, List.any_cons, e, ih.1]
      · rw [List.map_cons] at hz
        rcases List.mem_cons.mp hz with rfl | hz
        · rw [e]
          exact EqV.strs r hb
        · exact ih.2 z hz
  have k := key hp
  refine ⟨a, bs.map V.ref, _, rfl, .inr (KTup.sq ha), k.2, ?_⟩
  rw [k.1]
  exact q
end LK
namespace My
open PySem PySem.Spec PyProof.Rows L2 TW
/-! ### the nodes of a text -/
inductive Nd where
  | w (x : Str) | b (o : Str) (ns : List Nd)
def opS : List Str := ["(", "[", "{"]
def clS : List Str := [")", "]", "}"]
/-- un: the brackets that are not closed, the last one first -/
def nodesF : List Str → List Nd → List (Str × List Nd) → List Nd
  | [], ns, _ => ns
  | x :: xs, ns, un =>
    if x ∈ opS then (if un.length + 1 = 30 then [] else nodesF xs [] ((x, ns) :: un))
    else if x ∈ clS then (match un with
      | [] => []
      | (o, bs) :: un' => if un'.length = 30 then [] else nodesF xs (bs ++ [.b o ns]) un')
    else if un.length = 30 then [] else nodesF xs (ns ++ [.w x]) un
theorem inV_strs (w : Str) (ws : List Str) : inV (.str w) (ws.map V.str) = decide (w ∈ ws) := by
  induction ws with
  | nil => rfl
  | cons x ws ih =>
    unfold inV at ih ⊢
    rw [List.map_cons, List.any_cons, ih]
    by_cases h : w = x
    · have e : eqV (.str x) (.str w) = true := by
        show (x == w) = true
        rw [h]
        exact beq_self_eq_true x
      rw [e, Bool.true_or]
      exact (decide_eq_true (by rw [h]; exact List.mem_cons_self)).symm
    · have e : eqV (.str x) (.str w) = false := by
        show (x == w) = false
        exact beq_eq_false_iff_ne.mpr fun z => h z.symm
      rw [e, Bool.false_or]
      by_cases h2 : w ∈ ws
      · rw [decide_eq_true h2, decide_eq_true (List.mem_cons_of_mem _ h2)]
      · rw [decide_eq_false h2, decide_eq_false fun z => (List.mem_cons.mp z).elim h h2]
theorem flat_strs (ws : List Str) : (ws.map V.str).all flatV = true := by
  induction ws with
  | nil => rfl
  | cons x ws ih => rw [List.map_cons, List.all_cons, ih]; rfl
mutual
/-- a node at the heap; none of its parts stands in M -/
def NdAt (M : List Addr) (H : Hp) : Nd → V → Prop
  | .w x, v => v = .str x ∧ x.length ≤ 1000000
  | .b o ns, v => ∃ a l vs, v = .ref a ∧ H a = some (.tup [.str o, .ref l]) ∧ a ∉ M ∧ l ∉ M ∧ H l = some (.lst vs) ∧ vs.length ≤ 1000000 ∧ NdAll M H ns vs
def NdAll (M : List Addr) (H : Hp) : List Nd → List V → Prop
  | [], vs => vs = []
  | n :: ns, vs => ∃ v r, vs = v :: r ∧ NdAt M H n v ∧ NdAll M H ns r
end
theorem ndAll_len {M : List Addr} {H : Hp} : ∀ {ns : List Nd} {vs : List V}, NdAll M H ns vs → ns.length = vs.length
  | [], _, h => by
    unfold NdAll at h
    rw [h]
    rfl
  | n :: ns, _, h => by
    unfold NdAll at h
    obtain ⟨v, r, rfl, _, h2⟩ := h
    rw [List.length_cons, List.length_cons, ndAll_len h2]
mutual
theorem NdAt.keep {M M' : List Addr} {H H' : Hp} (k : ∀ b o, b ∉ M → H b = some o → H' b = some o) (hM : ∀ b ∈ M', b ∈ M ∨ H b = none) : ∀ (n : Nd) (v : V), NdAt M H n v → NdAt M' H' n v
  | .w _, _, h => by
    simp only [NdAt] at h ⊢
    exact h
  | .b o ns, v, h => by
    simp only [NdAt] at h ⊢
    obtain ⟨a, l, vs, e, h1, h2, h3, h4, h5, h6⟩ := h
    refine ⟨a, l, vs, e, k a _ h2 h1, fun z => ?_, fun z => ?_, k l _ h3 h4, h5, NdAll.keep k hM ns vs h6⟩
    · rcases hM a z with q | q
      · exact h2 q
      · rw [h1] at q; cases q
    · rcases hM l z with q | q
      · exact h3 q
      · rw [h4] at q; cases q
theorem NdAll.keep {M M' : List Addr} {H H' : Hp} (k : ∀ b o, b ∉ M → H b = some o → H' b = some o) (hM : ∀ b ∈ M', b ∈ M ∨ H b = none) : ∀ (ns : List Nd) (vs : List V), NdAll M H ns vs → NdAll M' H' ns vs
  | [], _, h => by
    simp only [NdAll] at h ⊢
    exact h
  | n :: ns, vs, h => by
    simp only [NdAll] at h ⊢
    obtain ⟨v, r, e, h1, h2⟩ := h
    exact ⟨v, r, e, NdAt.keep k hM n v h1, NdAll.keep k hM ns r h2⟩
end
theorem ndAll_snoc {M : List Addr} {H : Hp} {n : Nd} {v : V} (h : NdAt M H n v) : ∀ {ns : List Nd} {vs : List V}, NdAll M H ns vs → NdAll M H (ns ++ [n]) (vs ++ [v])
  | [], vs, hs => by
    simp only [NdAll] at hs
    subst hs
    simp only [List.nil_append, NdAll]
    exact ⟨v, [], rfl, h, rfl⟩
  | m :: ns, vs, hs => by
    simp only [NdAll] at hs
    obtain ⟨u, r, rfl, h1, h2⟩ := hs
    simp only [List.cons_append, NdAll]
    exact ⟨u, r ++ [v], rfl, h1, ndAll_snoc h h2⟩
/-- the open brackets at the heap, the last one first; ls: the lists beside them -/
def Stk (M : List Addr) (H : Hp) (n : Nat) : List V → List (Str × List Nd) → List Addr → Prop
  | [], [], [] => True
  | v :: rs, (o, ns) :: un, l :: ls => (∃ a vs, v = .ref a ∧ H a = some (.tup [.str o, .ref l]) ∧ H l = some (.lst vs) ∧ vs.length ≤ n ∧ NdAll M H ns vs) ∧ Stk M H n rs un ls
  | _, _, _ => False
theorem Stk.len {M : List Addr} {H : Hp} {n : Nat} : ∀ {rs : List V} {un : List (Str × List Nd)} {ls : List Addr}, Stk M H n rs un ls → rs.length = un.length
  | [], [], [], _ => rfl
  | v :: rs, (o, ns) :: un, l :: ls, h => by
    obtain ⟨_, h⟩ := h
    rw [List.length_cons, List.length_cons, Stk.len h]
  | [], _ :: _, _, h => by simp [Stk] at h
  | [], [], _ :: _, h => by simp [Stk] at h
  | _ :: _, [], _, h => by simp [Stk] at h
  | _ :: _, _ :: _, [], h => by simp [Stk] at h
/-- kl: the lists of the stack stay, too -/
theorem Stk.keep {M M' : List Addr} {H H' : Hp} {n n' : Nat} (hn : n ≤ n') (k : ∀ b o, b ∉ M → H b = some o → H' b = some o) (hM : ∀ b ∈ M', b ∈ M ∨ H b = none) (kt : ∀ b t, H b = some (.tup t) → H' b = some (.tup t)) :
    ∀ {rs : List V} {un : List (Str × List Nd)} {ls : List Addr}, (∀ l ∈ ls, ∀ vs, H l = some (.lst vs) → H' l = some (.lst vs)) → Stk M H n rs un ls → Stk M' H' n' rs un ls
  | [], [], [], _, _ => True.intro
  | v :: rs, (o, ns) :: un, l :: ls, kl, h => by
    obtain ⟨⟨a, vs, e, h1, h2, h3, h4⟩, h5⟩ := h
    exact ⟨⟨a, vs, e, kt a _ h1, kl l List.mem_cons_self vs h2, Nat.le_trans h3 hn, NdAll.keep k hM ns vs h4⟩, Stk.keep hn k hM kt (fun l' hl' => kl l' (List.mem_cons_of_mem _ hl')) h5⟩
  | [], _ :: _, _, _, h => by simp [Stk] at h
  | [], [], _ :: _, _, h => by simp [Stk] at h
  | _ :: _, [], _, _, h => by simp [Stk] at h
  | _ :: _, _ :: _, [], _, h => by simp [Stk] at h
end My
namespace My
open PySem PySem.Spec PyProof.Rows L2 TW
theorem scNodes : FnScope ["text", "nodes", "unclosed", "word", "opening", "beside"] ["text"] (defScope sNodesOf) := ⟨rfl, rfl, rfl, by decide +kernel, rfl, by decide +kernel, by decide +kernel⟩
structure TxtN (K : PySem.W.Frag) (mg : Str → Option Value) : Prop where
  len : mg "len" = none
  op : ∃ a, mg "OPENING" = some (.ref a) ∧ LK.KTup K a (opS.map V.str)
  cl : ∃ a, mg "CLOSING" = some (.ref a) ∧ LK.KTup K a (clS.map V.str)
  td : ∃ t, mg "TOO_DEEP" = some (.int 30 t)
def spNodes : Sp := fun vs H Q _ => ∃ x : Str, vs = [.str x] ∧ x.length ≤ 1000000 ∧ ∀ H' p vs, Same H H' → H p = none → H' p = some (.lst vs) → vs.length ≤ 1000000 → NdAll [] H' (nodesF (wordsF x) [] []) vs → Q (.ref p) H'
/-- a turn's state -/
def NInv (H0 : Hp) (x : Str) (D : Addr) (W : List Str) (j : Nat) (C : List Nd → List (Str × List Nd) → Prop) (σ : L2.St) (H' : Hp) : Prop :=
  ∃ (p q : Addr) (ns : List Nd) (un : List (Str × List Nd)) (rs vs : List V) (ls : List Addr) (w3 w4 w5 : Option V), σ = [some (.str x), some (.ref p), some (.ref q), w3, w4, w5] ∧ Same H0 H' ∧ H' D = some (.lst (W.map V.str)) ∧ D ∉ p :: q :: ls ∧
    (∀ b ∈ p :: q :: ls, H0 b = none) ∧ (p :: q :: ls).Nodup ∧ H' p = some (.lst vs) ∧ vs.length ≤ j ∧ NdAll (p :: q :: ls) H' ns vs ∧ H' q = some (.lst rs.reverse) ∧ Stk (p :: q :: ls) H' j rs un ls ∧ un.length ≤ 30 ∧ C ns un
theorem words_len (x : Str) : (wordsF x).length ≤ x.length := by
  have h := congrArg List.length (words_list x)
  rw [List.length_map] at h
  rw [h, str_len]
  simpa using tok_len x.cps.toList []
theorem words_short (x : Str) : ∀ w ∈ wordsF x, w.length ≤ x.length := fun w hw => by
  have h : w.cps.toList ∈ tokL [] x.cps.toList := by
    rw [← words_list x]
    exact List.mem_map_of_mem (f := fun w : Str => w.cps.toList) hw
  have := tok_word _ _ _ h
  rw [← str_len, ← str_len] at this
  simpa using this
theorem nodes_empty {H : Hp} : NdAll [] H ([] : List Nd) [] := by simp [NdAll]
theorem Stk.lists {M : List Addr} {H : Hp} {n : Nat} : ∀ {rs : List V} {un : List (Str × List Nd)} {ls : List Addr}, Stk M H n rs un ls → ∀ l ∈ ls, ∃ vs, H l = some (.lst vs)
  | [], [], [], _, _, hl => by cases hl
  | v :: rs, (o, ns) :: un, l :: ls, h, b, hb => by
    obtain ⟨⟨a, vs, e, h1, h2, h3, h4⟩, h5⟩ := h
    rcases List.mem_cons.mp hb with z | z
    · exact ⟨vs, by rw [z]; exact h2⟩
    · exact Stk.lists h5 b z
  | [], _ :: _, _, h, _, _ => by simp [Stk] at h
  | [], [], _ :: _, h, _, _ => by simp [Stk] at h
  | _ :: _, [], _, h, _, _ => by simp [Stk] at h
  | _ :: _, _ :: _, [], h, _, _ => by simp [Stk] at h
theorem all_lists {H : Hp} {p q : Addr} {ls : List Addr} {vs us : List V} (hp : H p = some (.lst vs)) (hq : H q = some (.lst us)) (hl : ∀ l ∈ ls, ∃ vs, H l = some (.lst vs)) : ∀ b ∈ p :: q :: ls, ∃ o, H b = some (.lst o) := fun b hb => by
  rcases List.mem_cons.mp hb with z | z
  · exact ⟨vs, by rw [z]; exact hp⟩
  · rcases List.mem_cons.mp z with z | z
    · exact ⟨us, by rw [z]; exact hq⟩
    · exact hl b z
section
variable {P : Program} {w : World} {K : PySem.W.Frag} {mg : Str → Option Value} {base : Heap}
theorem ok_nodes {f fW : Addr} {fd fdW : FuncData} (F : Fun K "nodes_of" "nodes_of" sNodesOf f fd) (FW : Fun K "words_of" "words_of" sWordsOf fW fdW) (bW : Binds K fdW ["text"] []) (gW : mg "words_of" = some (.ref fW)) (TB : TxtB mg) (TN : TxtN K mg) :
    FnOk P w K mg base CX0 2 f fd ["text"] spNodes := by
  have GW : FnOk P w K mg base CX0 1 fW fdW ["text"] spWords := ok_words FW TB
  obtain ⟨aO, mO, kO⟩ := TN.op
  obtain ⟨aC, mC, kC⟩ := TN.cl
  obtain ⟨t30, m30⟩ := TN.td
  refine F.ok scNodes (fun vs H Q E h => ?_) (fun cdv A outer s H vs Q E hr h => ?_)
  · obtain ⟨x, rfl, _⟩ := h
    rfl
  · obtain ⟨x, rfl, hx, q⟩ := h
    have ND := scNodes.nd
    refine ⟨_, pss_cons (ps_set (i := 1) ND rfl (.inl rfl) (pe_lst pa_nil))
      (pss_cons (ps_set (i := 2) ND rfl (.inl rfl) (pe_lst pa_nil))
      (pss_cons (ps_for PassesOwn.never rfl (pi_list (pe_call GW hr rfl gW FW.kp bW .nil pass0 (pa_cons (pv 0) pa_nil))) (pg_name (i := 3) ND rfl (.inl rfl))
        (C8.pss_cut (ps_if (pt_cmpR op_in_seq (pv 3) (pe_glob (v := .ref aO) rfl mO rfl) (by rfl))
            (pss_cons (ps_expr (pe_bm PySem.F.plainAttrs_list PySem.F.slot_list_append PySem.F.type_list_append mt_append (pv 2) (pa_cons (pe_tup (pa_cons (pv 3) (pa_cons (pv 1) pa_nil))) pa_nil)))
              (pss_one (ps_set (i := 1) ND rfl (.inl rfl) (pe_lst pa_nil))))
            (pss_one (ps_if (pt_cmpR op_notIn_seq (pv 3) (pe_glob (v := .ref aC) rfl mC rfl) (by rfl))
              (pss_one (ps_expr (pe_bm PySem.F.plainAttrs_list PySem.F.slot_list_append PySem.F.type_list_append mt_append (pv 1) (pa_cons (pv 3) pa_nil))))
              (pss_one (ps_if (pt_truth (pv 2) (by intro _; rfl))
                (pss_cons (ps_asg (pe_bm0 PySem.F.plainAttrs_list PySem.F.slot_list_pop PySem.F.type_list_pop mt_pop (pv 2)) (pg_tup (by rfl) (pgs_cons (pg_name (i := 4) ND rfl (.inl rfl)) (pgs_cons (pg_name (i := 5) ND rfl (.inl rfl)) pgs_nil))))
                (pss_cons (ps_expr (pe_bm PySem.F.plainAttrs_list PySem.F.slot_list_append PySem.F.type_list_append mt_append (pv 5) (pa_cons (pe_tup (pa_cons (pv 4) (pa_cons (pv 1) pa_nil))) pa_nil)))
                (pss_one (ps_set (i := 1) ND rfl (.inl rfl) (pv 5)))))
                (pss_one (ps_ret (pe_lst pa_nil))))))))
        (pss_one (ps_if (pt_cmpR op_eq (pe_callB call_len_seq (by rfl) TN.len PySem.boot_len (pa_cons (pv 2) pa_nil)) (pe_glob (v := .int 30) rfl m30 ⟨_, rfl⟩) (nomark _)) (pss_one (ps_ret (pe_lst pa_nil))) pss_nil))))
      (pss_one (ps_ret (pv 1))))), ?_⟩
    refine ⟨by show 0 ≤ sizeLine; decide, fun p0 np0 => ?_⟩
    refine ⟨by show 0 ≤ sizeLine; decide, fun q0 nq0 => ?_⟩
    have s1 : Same H (upd H p0 (.lst [])) := same_upd np0
    have s2 : Same (upd H p0 (.lst [])) (upd (upd H p0 (.lst [])) q0 (.lst [])) := same_upd nq0
    have hp0 : (upd (upd H p0 (.lst [])) q0 (.lst [])) p0 = some (.lst []) := s2 _ _ upd_same
    have hq0 : (upd (upd H p0 (.lst [])) q0 (.lst [])) q0 = some (.lst []) := upd_same
    have npq : p0 ≠ q0 := ne_of_none (H := upd H p0 (.lst [])) upd_same nq0
    have nq0' : H q0 = none := s1.free nq0
    generalize upd (upd H p0 (.lst [])) q0 (.lst []) = H1 at *
    refine ⟨_, rfl, x, rfl, hx, fun H2 D sm nD hD => ?_⟩
    have hWl : (wordsF x).length ≤ 1000000 := Nat.le_trans (words_len x) hx
    have hWs : ∀ w ∈ wordsF x, w.length ≤ 1000000 := fun w hw => Nat.le_trans (words_short x w hw) hx
    refine ⟨D, rfl, ⟨_, .inl (.inl hD)⟩, ?_⟩
    generalize eW : wordsF x = W at *
    refine for_list (K := K) (a := D) (xs := W.map V.str) (fun j σ H' => NInv H x D W j (fun ns un => un.length < 30 ∧ nodesF (W.drop j) ns un = nodesF W [] []) σ H') ?_ (fun j σ H' _ hI => ?_) (fun j y σ H' hy hI => ?_) (fun σ H' hI => ?_)
    · refine ⟨p0, q0, [], [], [], [], [], none, none, none, rfl, (s1.trans s2).trans sm, hD, ?_, ?_, ?_, sm _ _ hp0, Nat.le_refl _, ?_, sm _ _ hq0, True.intro, by decide, by decide, rfl⟩
      · intro z
        rcases List.mem_cons.mp z with z | z
        · rw [z, hp0] at nD; cases nD
        · rw [List.mem_singleton.mp z, hq0] at nD; cases nD
      · intro b hb
        rcases List.mem_cons.mp hb with z | z
        · rw [z]; exact np0
        · rw [List.mem_singleton.mp z]; exact nq0'
      · simp [npq]
      · simp [NdAll]
    · obtain ⟨p, q', ns, un, rs, vs, ls, w3, w4, w5, _, _, hD', _⟩ := hI
      exact .inl (.inl hD')
    · rw [List.getElem?_map] at hy
      have hj : j < W.length := by
        by_cases h : j < W.length
        · exact h
        · rw [List.getElem?_eq_none (by omega)] at hy
          cases hy
      rw [List.getElem?_eq_getElem hj] at hy
      cases hy
      have hdr : W.drop j = W[j] :: W.drop (j + 1) := List.drop_eq_getElem_cons hj
      have hwd : W[j].length ≤ 1000000 := hWs _ (List.getElem_mem hj)
      generalize W[j] = wd at hdr hwd
      obtain ⟨p, q', ns, un, rs, vs, ls, w3, w4, w5, rfl, sm', hD', nD', hfr, hnd, hp, hvl, hnds, hq, hstk, hul, hul2, hres⟩ := hI
      rw [hdr] at hres
      have npq' : p ≠ q' := fun z => (List.nodup_cons.mp hnd).1 (by rw [z]; exact List.mem_cons_self)
      have nq'l : ∀ l ∈ ls, l ≠ q' := fun l hl z => (List.nodup_cons.mp (List.nodup_cons.mp hnd).2).1 (by rw [← z]; exact hl)
      have npl : ∀ l ∈ ls, l ≠ p := fun l hl z => (List.nodup_cons.mp hnd).1 (List.mem_cons_of_mem _ (by rw [← z]; exact hl))
      have Hq' : H q' = none := hfr q' (List.mem_cons_of_mem _ List.mem_cons_self)
      have Hp' : H p = none := hfr p List.mem_cons_self
      refine ⟨fun σ' G => NInv H x D W (j + 1) (fun ns un => (if un.length = 30 then [] else nodesF (W.drop (j + 1)) ns un) = nodesF W [] []) σ' G, ?_, ?_⟩
      · refine ⟨_, rfl, aO, _, rfl, .inr kO.sq, rfl, flat_strs _, _, rfl, ?_⟩
        have eO : (if (false : Bool) = true then !inV (.str wd) (opS.map V.str) else inV (.str wd) (opS.map V.str)) = decide (wd ∈ opS) := inV_strs wd opS
        rw [eO]
        refine ite2 (fun ho => ?_) (fun ho => ?_)
        · -- a bracket opens
          have ho' : wd ∈ opS := of_decide_eq_true ho
          refine ⟨_, rfl, .inl ⟨rfl, _, .inl (.inl hq)⟩, _, rfl, _, rfl, by show 2 ≤ sizeLine; decide, fun t nt => ?_⟩
          have ntq : q' ≠ t := ne_of_none hq nt
          refine ⟨q', rs.reverse, .ref t, rfl, rfl, by rw [upd_ne ntq]; exact hq, smallB (by rw [List.length_reverse, hstk.len]; omega), ?_⟩
          refine ⟨by show 0 ≤ sizeLine; decide, fun p2 np2 => ?_⟩
          have np2q : p2 ≠ q' := fun z => by rw [z, upd_same] at np2; cases np2
          rw [upd_ne np2q] at np2
          have np2t : p2 ≠ t := fun z => by rw [z, upd_same] at np2; cases np2
          rw [upd_ne np2t] at np2
          have k : ∀ b o, b ≠ q' → H' b = some o → upd (upd (upd H' t (.tup [.str wd, .ref p])) q' (.lst (rs.reverse ++ [.ref t]))) p2 (.lst []) b = some o := fun b o n e => by
            rw [upd_ne (ne_of_none e np2), upd_ne n, upd_ne (ne_of_none e nt)]
            exact e
          have hM : ∀ b ∈ p2 :: q' :: p :: ls, b ∈ p :: q' :: ls ∨ H' b = none := fun b hb => by
            rcases List.mem_cons.mp hb with z | z
            · exact .inr (by rw [z]; exact np2)
            · refine .inl ?_
              rcases List.mem_cons.mp z with z | z
              · rw [z]; exact List.mem_cons_of_mem _ List.mem_cons_self
              · rcases List.mem_cons.mp z with z | z
                · rw [z]; exact List.mem_cons_self
                · exact List.mem_cons_of_mem _ (List.mem_cons_of_mem _ z)
          have kt : ∀ b tp, H' b = some (.tup tp) → upd (upd (upd H' t (.tup [.str wd, .ref p])) q' (.lst (rs.reverse ++ [.ref t]))) p2 (.lst []) b = some (.tup tp) := fun b tp e => k b _ (fun z => by rw [z, hq] at e; cases e) e
          have kN : ∀ b o, b ∉ p :: q' :: ls → H' b = some o → upd (upd (upd H' t (.tup [.str wd, .ref p])) q' (.lst (rs.reverse ++ [.ref t]))) p2 (.lst []) b = some o := fun b o n e => k b o (fun z => n (by rw [z]; exact List.mem_cons_of_mem _ List.mem_cons_self)) e
          have hmem := all_lists hp hq hstk.lists
          refine ⟨p2, q', [], (wd, ns) :: un, .ref t :: rs, [], p :: ls, _, w4, w5, rfl, fun b o e => k b o (fun z => by rw [z, Hq'] at e; cases e) (sm' b o e), k D _ (fun z => nD' (by rw [z]; exact List.mem_cons_of_mem _ List.mem_cons_self)) hD', ?_, ?_, ?_, upd_same, Nat.zero_le _, by simp [NdAll], ?_, ?_, by show un.length + 1 ≤ 30; omega, ?_⟩
          · intro z
            rcases hM D z with z | z
            · exact nD' z
            · rw [hD'] at z; cases z
          · intro b hb
            rcases hM b hb with z | z
            · exact hfr b z
            · exact sm'.free z
          · have h1 := List.nodup_cons.mp hnd
            have h2 := List.nodup_cons.mp h1.2
            refine List.nodup_cons.mpr ⟨fun z => ?_, List.nodup_cons.mpr ⟨fun z => ?_, List.nodup_cons.mpr ⟨fun z => h1.1 (List.mem_cons_of_mem _ z), h2.2⟩⟩⟩
            · have z' : p2 ∈ p :: q' :: ls := by
                rcases List.mem_cons.mp z with z | z
                · rw [z]; exact List.mem_cons_of_mem _ List.mem_cons_self
                · rcases List.mem_cons.mp z with z | z
                  · rw [z]; exact List.mem_cons_self
                  · exact List.mem_cons_of_mem _ (List.mem_cons_of_mem _ z)
              obtain ⟨o, eo⟩ := hmem p2 z'
              rw [np2] at eo; cases eo
            · rcases List.mem_cons.mp z with z | z
              · exact npq' z.symm
              · exact h2.1 z
          · rw [upd_ne np2q.symm, upd_same, List.reverse_cons]
          · refine ⟨⟨t, vs, rfl, ?_, k p _ npq' hp, by omega, NdAll.keep kN hM _ _ hnds⟩, Stk.keep (Nat.le_succ j) kN hM kt (fun l hl vs' e => k l _ (nq'l l hl) e) hstk⟩
            rw [upd_ne np2t.symm, upd_ne ntq.symm, upd_same]
          · rw [← hres]
            simp only [nodesF, if_pos ho', List.length_cons]
        · have ho' : ¬ wd ∈ opS := fun z => ho (decide_eq_true z)
          refine ⟨_, rfl, aC, _, rfl, .inr kC.sq, rfl, flat_strs _, _, rfl, ?_⟩
          have eC : (if (true : Bool) = true then !inV (.str wd) (clS.map V.str) else inV (.str wd) (clS.map V.str)) = !decide (wd ∈ clS) := by
            rw [if_pos rfl, inV_strs]
          rw [eC]
          cases hc : decide (wd ∈ clS) with
          | false =>
            -- a word
            have hc' : ¬ wd ∈ clS := of_decide_eq_false hc
            refine iteT ⟨_, rfl, .inl ⟨rfl, _, .inl (.inl hp)⟩, _, rfl, p, vs, .str wd, rfl, rfl, hp, smallB (by omega), ?_⟩
            have k : ∀ b o, b ≠ p → H' b = some o → upd H' p (.lst (vs ++ [.str wd])) b = some o := fun b o n e => by
              rw [upd_ne n]
              exact e
            have kN : ∀ b o, b ∉ p :: q' :: ls → H' b = some o → upd H' p (.lst (vs ++ [.str wd])) b = some o := fun b o n e => k b o (fun z => n (by rw [z]; exact List.mem_cons_self)) e
            have kt : ∀ b tp, H' b = some (.tup tp) → upd H' p (.lst (vs ++ [.str wd])) b = some (.tup tp) := fun b tp e => k b _ (fun z => by rw [z, hp] at e; cases e) e
            refine ⟨p, q', ns ++ [.w wd], un, rs, vs ++ [.str wd], ls, _, w4, w5, rfl, fun b o e => k b o (fun z => by rw [z, Hp'] at e; cases e) (sm' b o e), k D _ (fun z => nD' (by rw [z]; exact List.mem_cons_self)) hD', nD', hfr, hnd, upd_same, ?_, ?_, k q' _ npq'.symm hq, ?_, by omega, ?_⟩
            · rw [List.length_append]
              show vs.length + 1 ≤ j + 1
              omega
            · exact ndAll_snoc (by simp [NdAt, hwd]) (NdAll.keep kN (fun b hb => .inl hb) _ _ hnds)
            · exact Stk.keep (Nat.le_succ j) kN (fun b hb => .inl hb) kt (fun l hl vs' e => k l _ (npl l hl) e) hstk
            · rw [← hres]
              simp only [nodesF, if_neg ho', if_neg hc']
          | true =>
            have hc' : wd ∈ clS := of_decide_eq_true hc
            refine iteF ⟨_, rfl, !rs.reverse.isEmpty, .inl ⟨_, .inl (.inl hq), rfl⟩, ?_⟩
            cases rs with
            | nil =>
              -- nothing is open
              have hun : un = [] := List.length_eq_zero_iff.mp (by rw [← hstk.len]; rfl)
              subst hun
              refine iteF ⟨by show 0 ≤ sizeLine; decide, fun r nr => ?_⟩
              refine q _ r [] (sm'.trans (same_upd nr)) (sm'.free nr) upd_same (Nat.zero_le _) ?_
              rw [← hres]
              simp only [nodesF, if_neg ho', if_pos hc', NdAll]
            | cons v rs =>
              obtain ⟨⟨o, bs⟩, un', rfl⟩ : ∃ a b, un = a :: b := by
                cases un with
                | nil => have := hstk.len; simp at this
                | cons a b => exact ⟨a, b, rfl⟩
              obtain ⟨l, ls', rfl⟩ : ∃ a b, ls = a :: b := by
                cases ls with
                | nil => simp [Stk] at hstk
                | cons a b => exact ⟨a, b, rfl⟩
              obtain ⟨⟨a, vb, rfl, ha, hl, hvb, hbs⟩, hstk'⟩ := hstk
              have eb : (!(V.ref a :: rs).reverse.isEmpty) = true := by simp
              rw [eb]
              refine iteT ?_
              refine ⟨_, rfl, .inl ⟨rfl, _, .inl (.inl hq)⟩, q', _, .ref a, rfl, rfl, hq, by simp, ?_⟩
              have naq : a ≠ q' := fun z => by rw [z, hq] at ha; cases ha
              have nlq : l ≠ q' := nq'l l List.mem_cons_self
              have nlp : l ≠ p := npl l List.mem_cons_self
              have ed : (V.ref a :: rs).reverse.dropLast = rs.reverse := by
                rw [List.reverse_cons, List.dropLast_concat]
              rw [ed]
              have ha2 : upd H' q' (.lst rs.reverse) a = some (.tup [.str o, .ref l]) := by
                rw [upd_ne naq]
                exact ha
              refine ⟨a, [.str o, .ref l], rfl, .inl (.inl ha2), rfl, .str o, [.ref l], rfl, .ref l, [], rfl, rfl, ?_⟩
              have hl2 : upd H' q' (.lst rs.reverse) l = some (.lst vb) := by
                rw [upd_ne nlq]
                exact hl
              refine ⟨_, rfl, .inl ⟨rfl, _, .inl (.inl hl2)⟩, _, rfl, _, rfl, by show 2 ≤ sizeLine; decide, fun t nt => ?_⟩
              have ntl : l ≠ t := ne_of_none hl2 nt
              refine ⟨l, vb, .ref t, rfl, rfl, by rw [upd_ne ntl]; exact hl2, smallB (by omega), ?_⟩
              refine ⟨_, rfl, ?_⟩
              have ntq : q' ≠ t := fun z => by rw [← z, upd_same] at nt; cases nt
              rw [upd_ne ntq.symm] at nt
              have k : ∀ b o', b ≠ q' → b ≠ l → H' b = some o' → upd (upd (upd H' q' (.lst rs.reverse)) t (.tup [.str o, .ref p])) l (.lst (vb ++ [.ref t])) b = some o' := fun b o' n1 n2 e => by
                rw [upd_ne n2, upd_ne (ne_of_none e nt), upd_ne n1]
                exact e
              have kN : ∀ b o', b ∉ p :: q' :: l :: ls' → H' b = some o' → upd (upd (upd H' q' (.lst rs.reverse)) t (.tup [.str o, .ref p])) l (.lst (vb ++ [.ref t])) b = some o' := fun b o' n e =>
                k b o' (fun z => n (by rw [z]; exact List.mem_cons_of_mem _ List.mem_cons_self)) (fun z => n (by rw [z]; exact List.mem_cons_of_mem _ (List.mem_cons_of_mem _ List.mem_cons_self))) e
              have hMs : ∀ b ∈ l :: q' :: ls', b ∈ p :: q' :: l :: ls' := fun b hb => by
                rcases List.mem_cons.mp hb with z | z
                · rw [z]; exact List.mem_cons_of_mem _ (List.mem_cons_of_mem _ List.mem_cons_self)
                · rcases List.mem_cons.mp z with z | z
                  · rw [z]; exact List.mem_cons_of_mem _ List.mem_cons_self
                  · exact List.mem_cons_of_mem _ (List.mem_cons_of_mem _ (List.mem_cons_of_mem _ z))
              have hM : ∀ b ∈ l :: q' :: ls', b ∈ p :: q' :: l :: ls' ∨ H' b = none := fun b hb => .inl (hMs b hb)
              have kt : ∀ b tp, H' b = some (.tup tp) → upd (upd (upd H' q' (.lst rs.reverse)) t (.tup [.str o, .ref p])) l (.lst (vb ++ [.ref t])) b = some (.tup tp) := fun b tp e =>
                k b _ (fun z => by rw [z, hq] at e; cases e) (fun z => by rw [z, hl] at e; cases e) e
              have h1 := List.nodup_cons.mp hnd
              have h2 := List.nodup_cons.mp h1.2
              have h3 := List.nodup_cons.mp h2.2
              have Hl : H l = none := hfr l (hMs l List.mem_cons_self)
              have hmem : ∀ b ∈ p :: q' :: l :: ls', ∃ o, H' b = some (.lst o) := all_lists hp hq fun b hb => (List.mem_cons.mp hb).elim (fun z => ⟨vb, by rw [z]; exact hl⟩) (hstk'.lists b)
              refine ⟨l, q', bs ++ [.b o ns], un', rs, vb ++ [.ref t], ls', _, _, _, rfl, fun b o' e => k b o' (fun z => by rw [z, Hq'] at e; cases e) (fun z => by rw [z, Hl] at e; cases e) (sm' b o' e),
                k D _ (fun z => nD' (by rw [z]; exact List.mem_cons_of_mem _ List.mem_cons_self)) (fun z => nD' (by rw [z]; exact hMs l List.mem_cons_self)) hD', fun z => nD' (hMs D z), fun b hb => hfr b (hMs b hb), ?_, upd_same, ?_, ?_, ?_, ?_, ?_, ?_⟩
              · refine List.nodup_cons.mpr ⟨fun z => ?_, List.nodup_cons.mpr ⟨fun z => h2.1 (List.mem_cons_of_mem _ z), h3.2⟩⟩
                rcases List.mem_cons.mp z with z | z
                · exact nlq z
                · exact h3.1 z
              · rw [List.length_append]
                show vb.length + 1 ≤ j + 1
                omega
              · refine ndAll_snoc ?_ (NdAll.keep kN hM _ _ hbs)
                simp only [NdAt]
                refine ⟨t, p, vs, rfl, ?_, fun z => ?_, fun z => ?_, k p _ npq' nlp.symm hp, by omega, NdAll.keep kN hM _ _ hnds⟩
                · rw [upd_ne ntl.symm, upd_same]
                · obtain ⟨o', eo⟩ := hmem t (hMs t z)
                  rw [nt] at eo; cases eo
                · rcases List.mem_cons.mp z with z | z
                  · exact nlp z.symm
                  · rcases List.mem_cons.mp z with z | z
                    · exact npq' z
                    · exact h1.1 (List.mem_cons_of_mem _ (List.mem_cons_of_mem _ z))
              · rw [upd_ne nlq.symm, upd_ne ntq, upd_same]
              · exact Stk.keep (Nat.le_succ j) kN hM kt (fun l' hl' vs' e => k l' _ (nq'l l' (List.mem_cons_of_mem _ hl')) (fun z => h3.1 (by rw [← z]; exact hl')) e) hstk'
              · simp only [List.length_cons] at hul2
                omega
              · rw [← hres]
                simp only [nodesF, if_neg ho', if_pos hc']
      · rintro σ' G ⟨p, q', ns, un, rs, vs, ls, w3, w4, w5, rfl, sm', hD', nD', hfr, hnd, hp, hvl, hnds, hq, hstk, hul2, hres⟩
        refine ⟨_, rfl, q', _, rfl, .inl (.inl (.inl hq)), rfl, _, rfl, ?_⟩
        rw [List.length_reverse, hstk.len]
        refine ite2 (fun h => ?_) (fun h => ?_)
        · have h' : un.length = 30 := by
            have := V.int.inj (of_decide_eq_true h)
            omega
          rw [if_pos h'] at hres
          refine ⟨by show 0 ≤ sizeLine; decide, fun r nr => ?_⟩
          refine q _ r [] (sm'.trans (same_upd nr)) (sm'.free nr) upd_same (Nat.zero_le _) ?_
          rw [← hres]
          simp [NdAll]
        · have h' : ¬ un.length = 30 := fun z => h (decide_eq_true (by rw [z]; rfl))
          rw [if_neg h'] at hres
          exact ⟨p, q', ns, un, rs, vs, ls, w3, w4, w5, rfl, sm', hD', nD', hfr, hnd, hp, hvl, hnds, hq, hstk, hul2, by omega, hres⟩
    · obtain ⟨p, q', ns, un, rs, vs, ls, w3, w4, w5, rfl, sm', hD', nD', hfr, hnd, hp, hvl, hnds, hq, hstk, hul, hul2, hres⟩ := hI
      rw [List.length_map] at hvl hres
      rw [List.drop_length] at hres
      refine ⟨_, rfl, q H' p vs sm' (hfr p List.mem_cons_self) hp (by omega) ?_⟩
      rw [← hres]
      exact NdAll.keep (fun b o _ e => e) (fun b hb => by cases hb) _ _ hnds
end
end My
namespace My
open PySem PySem.Spec PyProof.Rows L2 TW
/-! ### levels and recursion say the same -/
def offS (x cs : Str) : List Nat := x.cps.toList.filter fun c => !decide (c ∈ cs.cps.toList)
theorem offS_nil {x cs : Str} : (offS x cs).isEmpty = true ↔ ∀ k, k < x.length → cs.cps.contains (x.cps.getD k 0) = true := by
  unfold offS
  rw [List.isEmpty_iff, List.filter_eq_nil_iff]
  constructor
  · intro h k hk
    have hk' : k < x.cps.size := hk
    have e : x.cps.getD k 0 = x.cps[k] := by simp [Array.getD, hk']
    have := h x.cps[k] (by simp)
    rw [e]
    simpa using this
  · intro h c hc
    obtain ⟨k, hk, rfl⟩ := List.mem_iff_getElem.mp hc
    have hk' : k < x.cps.size := by simpa using hk
    have := h k hk'
    have e : x.cps.getD k 0 = x.cps[k] := by simp [Array.getD, hk']
    rw [e] at this
    simpa using this
theorem onlyS_eq (x cs : Str) : onlyS x cs = (offS x cs).isEmpty := by
  unfold onlyS
  have hs : Txt.stripChars x cs = Builtin.Str.strSub x (stripLo cs.cps.contains true x) (stripHi cs.cps.contains true x (stripLo cs.cps.contains true x)) := PyProof.Rows.stripBy_eq cs.cps.contains true true x
  obtain ⟨l1, l2, l3⟩ := PyProof.Rows.lo_facts cs.cps.contains x
  obtain ⟨h1, h2, h3, h4⟩ := PyProof.Rows.hi_facts cs.cps.contains x _ l1
  rw [hs]
  generalize stripLo cs.cps.contains true x = lo at *
  generalize stripHi cs.cps.contains true x lo = hi at *
  by_cases h : (offS x cs).isEmpty = true
  · rw [h]
    rw [offS_nil] at h
    have e : lo = x.length := by
      rcases l3 with e | e
      · exact e
      · by_cases hl : lo < x.length
        · rw [h lo hl] at e
          exact absurd e (by decide)
        · omega
    have e2 : hi = x.length := by omega
    refine decide_eq_true ?_
    show Str.mk (x.cps.extract lo hi) = _
    have e3 : x.cps.extract lo hi = #[] := by
      apply Array.eq_empty_of_size_eq_zero
      rw [Array.size_extract]
      omega
    rw [e3]
    rfl
  · rw [Bool.eq_false_iff.mpr h]
    refine decide_eq_false fun z => h (offS_nil.mpr ?_)
    have z2 : (x.cps.extract lo hi).size = 0 := by
      have := congrArg (fun y : Str => y.cps.size) z
      exact this
    rw [Array.size_extract] at z2
    have hx : x.cps.size = x.length := rfl
    have e : hi = lo := by omega
    intro k hk
    by_cases hkl : k < lo
    · exact l2 k hkl
    · exact h3 k (by omega) hk
mutual
def cnt : T → Nat
  | .tup ts => cntAll ts
  | _ => 0
def cntAll : List T → Nat
  | [] => 0
  | t :: ts => (1 + cnt t) + cntAll ts
end
mutual
def dep : T → Nat
  | .tup ts => depAll ts + 1
  | _ => 0
def depAll : List T → Nat
  | [] => 0
  | t :: ts => max (dep t) (depAll ts)
end
theorem dep_mem : ∀ {ts : List T} {t : T}, t ∈ ts → dep t ≤ depAll ts
  | [], _, h => nomatch h
  | u :: ts, t, h => by
    simp only [depAll]
    rcases List.mem_cons.mp h with rfl | h
    · exact Nat.le_max_left _ _
    · exact Nat.le_trans (dep_mem h) (Nat.le_max_right _ _)
theorem cnt_noTup {t : T} (h : isTupT t = false) : cnt t = 0 := by
  cases t with
  | tup ts => simp [isTupT] at h
  | _ => simp only [cnt]
def lval : Nat → T → Bool
  | 0, .tup _ => false
  | n + 1, .tup ts => !decide (50 < (ts.length : Int)) && ts.all (lval n)
  | _, t => isPlain t
theorem plain_eq {t : T} {n : Nat} (h : isTupT t = false) : lval n t = isPlain t := by
  cases t with
  | tup ts => simp [isTupT] at h
  | _ => cases n <;> rfl
theorem cntAll_len : ∀ ts : List T, cntAll ts = ts.length + (ts.map cnt).sum
  | [] => rfl
  | t :: ts => by
    simp only [cntAll, List.length_cons, List.map_cons, List.sum_cons]
    rw [cntAll_len ts]
    omega
theorem cnt_tup {l : T} (h : isTupT l = true) : cnt l = (kids l).length + ((kids l).map cnt).sum := by
  rw [← cntAll_len]
  conv => lhs; rw [tup_of h]
  simp only [cnt]
theorem cnt_flat : ∀ {ls : List T}, (∀ l ∈ ls, isTupT l = true) → (ls.map cnt).sum = (ls.map fun l => (kids l).length).sum + (((ls.map kids).flatten).map cnt).sum
  | [], _ => rfl
  | l :: ls, h => by
    simp only [List.map_cons, List.sum_cons, List.flatten_cons, List.map_append, List.sum_append]
    rw [cnt_flat fun u hu => h u (List.mem_cons_of_mem _ hu), cnt_tup (h l List.mem_cons_self)]
    omega
theorem cnt_filter : ∀ ts : List T, (ts.map cnt).sum = ((ts.filter isTupT).map cnt).sum
  | [] => rfl
  | t :: ts => by
    rw [List.map_cons, List.sum_cons, List.filter_cons, cnt_filter ts]
    cases h : isTupT t with
    | true => simp
    | false =>
      rw [cnt_noTup h]
      simp
theorem all_split (p : T → Bool) : ∀ ts : List T, ts.all p = ((ts.filter fun t => !isTupT t).all p && (ts.filter isTupT).all p)
  | [] => rfl
  | t :: ts => by
    rw [List.all_cons, all_split p ts, List.filter_cons, List.filter_cons]
    cases h : isTupT t with
    | true =>
      simp only [Bool.not_true, Bool.false_eq_true, if_false, if_true, List.all_cons]
      cases p t <;> simp
    | false =>
      simp only [Bool.not_false, Bool.false_eq_true, if_false, if_true, List.all_cons]
      cases p t <;> simp
theorem all_plain {n : Nat} {ts : List T} (h : ∀ t ∈ ts, isTupT t = false) : ts.all (lval n) = ts.all isPlain := by
  induction ts with
  | nil => rfl
  | cons t ts ih =>
    rw [List.all_cons, List.all_cons, ih fun u hu => h u (List.mem_cons_of_mem _ hu), plain_eq (h t List.mem_cons_self)]
theorem lval_succ {n : Nat} {l : T} (h : isTupT l = true) : lval (n + 1) l = (!decide (50 < ((kids l).length : Int)) && (kids l).all (lval n)) := by
  conv => lhs; rw [tup_of h]
  rfl
theorem all_kids {n : Nat} : ∀ {ls : List T}, (∀ l ∈ ls, isTupT l = true) → (∀ l ∈ ls, (kids l).length ≤ 50) → ls.all (lval (n + 1)) = ((ls.map kids).flatten).all (lval n)
  | [], _, _ => rfl
  | l :: ls, h, h2 => by
    rw [List.all_cons, List.map_cons, List.flatten_cons, List.all_append, all_kids (fun u hu => h u (List.mem_cons_of_mem _ hu)) fun u hu => h2 u (List.mem_cons_of_mem _ hu), lval_succ (h l List.mem_cons_self)]
    have := h2 l List.mem_cons_self
    rw [decide_eq_false (show ¬ (50 : Int) < ((kids l).length : Int) by omega)]
    simp
theorem le_sum : ∀ {ns : List Nat} {n : Nat}, n ∈ ns → n ≤ ns.sum
  | [], _, h => nomatch h
  | m :: ns, n, h => by
    rw [List.sum_cons]
    rcases List.mem_cons.mp h with rfl | h
    · omega
    · have := le_sum h
      omega
theorem lev_eq : ∀ (n : Nat) (ls : List T) (c : Nat), (∀ l ∈ ls, isTupT l = true) → c ≤ 50 → lev n ls c = (ls.all (lval n) && decide (c + (ls.map cnt).sum ≤ 50))
  | 0, [], c, _, hc => by
    simp only [lev, List.map_nil, List.sum_nil, Nat.add_zero]
    rw [decide_eq_true hc]
    rfl
  | 0, l :: ls, c, h, hc => by
    have e : lval 0 l = false := by
      rw [tup_of (h l List.mem_cons_self)]
      rfl
    rw [List.all_cons, e]
    rfl
  | n + 1, ls, c, h, hc => by
    have hs := cnt_flat h
    simp only [lev]
    by_cases hb : 50 < c + (ls.map fun l => (kids l).length).sum
    · rw [if_pos hb, decide_eq_false (show ¬ c + (ls.map cnt).sum ≤ 50 by omega), Bool.and_false]
    · rw [if_neg hb]
      have h2 : ∀ l ∈ ls, (kids l).length ≤ 50 := fun l hl => by
        have := le_sum (List.mem_map_of_mem (f := fun l => (kids l).length) hl)
        omega
      rw [all_kids h h2, hs]
      generalize (ls.map kids).flatten = I
      rw [all_split (lval n) I, all_plain (ts := I.filter fun t => !isTupT t) (fun t ht => by
        have := (List.mem_filter.mp ht).2
        simpa using this), cnt_filter I]
      rw [lev_eq n (I.filter isTupT) (c + (ls.map fun l => (kids l).length).sum) (fun l hl => (List.mem_filter.mp hl).2) (by omega)]
      rw [← Nat.add_assoc]
      cases (I.filter fun t => !isTupT t).all isPlain <;> simp
theorem val_eq (t : T) : isVal t = (lval 5 t && decide (cnt t ≤ 50)) := by
  unfold isVal
  cases h : isTupT t with
  | false =>
    rw [cnt_noTup h, plain_eq h]
    simp
  | true =>
    rw [if_pos rfl, lev_eq 5 [t] 0 (fun l hl => by rw [List.mem_singleton.mp hl]; exact h) (by decide)]
    simp only [List.all_cons, List.all_nil, Bool.and_true, List.map_cons, List.map_nil, List.sum_cons, List.sum_nil]
    congr 1
    apply decide_eq_decide.mpr
    omega
end My
namespace My
open PySem PySem.Spec PyProof.Rows L2 TW
/-! ### what a word, a node, a text is -/
def dgS : Str := "0123456789"
def cut1 (x : Str) : Str := ⟨x.cps.toList.tail.toArray⟩
def hd (x : Str) (c : Nat) : Bool := decide (x.cps.toList.head? = some c)
def isDigs (l : List Nat) : Bool := l.all fun c => decide (48 ≤ c) && decide (c ≤ 57)
def intL (l : List Nat) : Int := match l with
  | 45 :: cs => -((NumText.digitsVal cs : Nat) : Int)
  | cs => ((NumText.digitsVal cs : Nat) : Int)
def digP (x : Str) : Str := if hd x 45 = true then cut1 x else x
def badD (d : Str) : Bool := decide (d = "") || (decide ((60 : Int) < (d.length : Int)) || !onlyS d dgS)
def wordF (x : Str) : T := if hd x 39 = true then .str (cut1 x) else if badD (digP x) = true then .non else .int (intL x.cps.toList)
mutual
def valF : Nd → T
  | .w x => wordF x
  | .b o ns => if o = "[" then .tup (valAll ns) else .non
def valAll : List Nd → List T
  | [] => []
  | n :: ns => valF n :: valAll ns
end
mutual
def txF : T → Str
  | .int i => Str.ofString (toString i)
  | .str x => ("'" : Str) ++ x
  | .tup ts => (("[" : Str) ++ Txt.join " " (txAll ts)) ++ ("]" : Str)
  | _ => ""
def txAll : List T → List Str
  | [] => []
  | t :: ts => txF t :: txAll ts
end
def readF (x : Str) : T := match nodesF (wordsF x) [] [] with
  | [n] => if isVal (valF n) && decide (txF (valF n) = x) then valF n else .non
  | _ => .non
theorem startswith_one (x : Str) (c : Nat) : Txt.startswith x ⟨#[c]⟩ = hd x c := by
  have h := StrLaws.subAt_one x c 0
  have e : x.cps.toList.head? = x.cps.toList[0]? := by cases x.cps.toList <;> rfl
  unfold Txt.startswith hd
  rw [e]
  by_cases q : x.cps.toList[0]? = some c
  · obtain ⟨h1, h2⟩ := h.mpr q
    rw [decide_eq_true q, h2, decide_eq_true h1]
    rfl
  · rw [decide_eq_false q]
    rw [Bool.eq_false_iff]
    intro z
    rw [Bool.and_eq_true] at z
    exact q (h.mp ⟨of_decide_eq_true z.1, z.2⟩)
theorem cut1_cut (x : Str) : cutS x (some 1) none = cut1 x := by
  unfold cutS cut1
  rw [HT.sIx_none, show HT.sIx x.length 0 (some 1) = min 1 x.length from HT.sIx_nat _ _ 1]
  congr 2
  have hl : x.length = x.cps.toList.length := str_len x
  rw [hl]
  cases x.cps.toList with
  | nil => rfl
  | cons a l =>
    rw [show min 1 (a :: l).length = 1 by simp]
    simp
theorem digit_mem (c : Nat) : decide (c ∈ dgS.cps.toList) = (decide (48 ≤ c) && decide (c ≤ 57)) := by
  have e : dgS.cps.toList = [48, 49, 50, 51, 52, 53, 54, 55, 56, 57] := by decide +kernel
  rw [e, ← Bool.decide_and]
  apply decide_eq_decide.mpr
  simp
  omega
theorem onlyS_digits (x : Str) : onlyS x dgS = isDigs x.cps.toList := by
  rw [onlyS_eq]
  unfold offS isDigs
  induction x.cps.toList with
  | nil => rfl
  | cons a l ih =>
    rw [List.filter_cons, List.all_cons, ← ih, digit_mem]
    cases (decide (48 ≤ a) && decide (a ≤ 57)) <;> simp
theorem digs_all {l : List Nat} (h : isDigs l = true) : NumText.AllDigits l := fun c hc => by
  have := List.all_eq_true.mp h c hc
  rw [Bool.and_eq_true] at this
  exact ⟨of_decide_eq_true this.1, of_decide_eq_true this.2⟩
theorem all_digs {l : List Nat} (h : NumText.AllDigits l) : isDigs l = true := List.all_eq_true.mpr fun c hc => by
  have := h c hc
  rw [decide_eq_true this.1, decide_eq_true this.2]
  rfl
theorem cut1_list (x : Str) : (cut1 x).cps.toList = x.cps.toList.tail := by simp [cut1]
theorem cut1_len (x : Str) : (cut1 x).length ≤ x.length := by
  rw [str_len, cut1_list, str_len, List.length_tail]
  omega
theorem empty_list {x : Str} : x = "" ↔ x.cps.toList = [] := by
  have e0 : ("" : Str).cps.toList = [] := by decide +kernel
  constructor
  · intro h
    rw [h, e0]
  · intro h
    exact TL.ext_tl (h.trans e0.symm)
theorem word_int {x : Str} (h : badD (digP x) = false) : intText? x = some (intL x.cps.toList) ∧ x.length ≤ 61 := by
  unfold badD at h
  rw [Bool.or_eq_false_iff, Bool.or_eq_false_iff] at h
  obtain ⟨h1, h2, h3⟩ := h
  have h1' : ¬ digP x = "" := of_decide_eq_false h1
  have h2' : ¬ (60 : Int) < ((digP x).length : Int) := of_decide_eq_false h2
  have h3' : isDigs (digP x).cps.toList = true := by
    rw [onlyS_digits] at h3
    simpa using h3
  have hne : (digP x).cps.toList ≠ [] := fun z => h1' (empty_list.mpr z)
  cases hh : hd x 45 with
  | true =>
    have ed : digP x = cut1 x := by
      unfold digP
      rw [hh, if_pos rfl]
    rw [ed] at h2' h3' hne
    rw [cut1_list] at h3' hne
    have hx : x.cps.toList.head? = some 45 := of_decide_eq_true hh
    cases e : x.cps.toList with
    | nil => rw [e] at hx; cases hx
    | cons a cs =>
      rw [e] at hx h3' hne
      simp only [List.head?_cons, Option.some.injEq] at hx
      subst hx
      have hl : x.length ≤ 61 := by
        have := str_len (cut1 x)
        rw [cut1_list, e] at this
        have h4 := str_len x
        rw [e] at h4
        simp only [List.tail_cons, List.length_cons] at this h4
        omega
      refine ⟨?_, hl⟩
      exact PySem.intText_neg e (digs_all h3') hne (by omega)
  | false =>
    have ed : digP x = x := by
      unfold digP
      rw [hh, if_neg Bool.false_ne_true]
    rw [ed] at h2' h3' hne
    refine ⟨?_, by omega⟩
    rw [PySem.intText_digits (digs_all h3') hne (by omega)]
    have hx : ¬ x.cps.toList.head? = some 45 := of_decide_eq_false hh
    cases e : x.cps.toList with
    | nil => rfl
    | cons a cs =>
      rw [e] at hx
      have ha : a ≠ 45 := fun z => hx (by rw [z]; rfl)
      unfold intL
      split
      · rename_i e2
        cases e2
        exact absurd rfl ha
      · rfl
theorem valAll_map : ∀ ns : List Nd, valAll ns = ns.map valF
  | [] => rfl
  | n :: ns => by
    simp only [valAll, List.map_cons]
    rw [valAll_map ns]
theorem txAll_map : ∀ ts : List T, txAll ts = ts.map txF
  | [] => rfl
  | t :: ts => by
    simp only [txAll, List.map_cons]
    rw [txAll_map ts]
end My
namespace My
open PySem PySem.Spec PyProof.Rows L2 TW
theorem thTup {H : Hp} {p : Addr} {ts : List T} {xs : List V} (h : H p = some (.tup xs)) (hl : xs.length < 4000000) (ha : ThAll H ts xs) : Th H (.tup ts) (.ref p) := by
  unfold Th
  exact ⟨p, xs, rfl, h, hl, ha⟩
theorem thInt {H : Hp} {i : Int} : Th H (.int i) (.int i) := by
  unfold Th
  rfl
theorem thStr {H : Hp} {x : Str} : Th H (.str x) (.str x) := by
  unfold Th
  rfl
theorem thNon {H : Hp} : Th H .non .non := by
  unfold Th
  rfl
theorem taNil {H : Hp} : ThAll H [] [] := by
  unfold ThAll
  rfl
theorem taCons {H : Hp} {t : T} {v : V} {ts : List T} {vs : List V} (h : Th H t v) (hs : ThAll H ts vs) : ThAll H (t :: ts) (v :: vs) := by
  unfold ThAll
  exact ⟨v, vs, rfl, h, hs⟩
/-! ### value_of_word -/
def vW : T → V
  | .str x => .str x
  | .int i => .int i
  | _ => .non
theorem th_word {H : Hp} (x : Str) : Th H (wordF x) (vW (wordF x)) := by
  unfold wordF
  split
  · exact thStr
  · split
    · exact thNon
    · exact thInt
theorem scWord : FnScope ["word", "digits"] ["word"] (defScope sValueOfWord) := ⟨rfl, rfl, rfl, by decide +kernel, rfl, by decide +kernel, by decide +kernel⟩
structure TxtO (mg : Str → Option Value) : Prop where
  len : mg "len" = none
  int : mg "int" = none
  dg : ∃ t, mg "DIGITS" = some (.str dgS t)
  md : ∃ t, mg "MOST_DIGITS" = some (.int 60 t)
def spWord : Sp := fun vs H Q _ => ∃ x : Str, vs = [.str x] ∧ x.length ≤ 1000000 ∧ Q (vW (wordF x)) H
section
variable {P : Program} {w : World} {K : PySem.W.Frag} {mg : Str → Option Value} {base : Heap}
theorem ok_word {f fO : Addr} {fd fdO : FuncData} (F : Fun K "value_of_word" "value_of_word" sValueOfWord f fd)
    (FO : Fun K "has_only" "has_only" sHasOnly fO fdO) (bO : Binds K fdO ["text", "characters"] []) (gO : mg "has_only" = some (.ref fO)) (TO : TxtO mg) : FnOk P w K mg base CX0 2 f fd ["word"] spWord := by
  have GO : FnOk P w K mg base CX0 1 fO fdO ["text", "characters"] spHasOnly := ok_hasOnly FO
  obtain ⟨t1, m1⟩ := TO.dg
  obtain ⟨t2, m2⟩ := TO.md
  refine F.ok scWord (fun vs H Q E h => ?_) (fun cdv A outer s H vs Q E hr h => ?_)
  · obtain ⟨x, rfl, _⟩ := h
    rfl
  · obtain ⟨x, rfl, hx, q⟩ := h
    have ND := scWord.nd
    refine ⟨_, pss_cons (ps_if (pt_val (pe_m1 PySem.F.slot_str_startswith PySem.F.type_str_startswith mt_startswith (pv 0) pe_str)) (pss_one (ps_ret (pe_slice sl_str (pv 0) (po_some pe_int) po_none))) pss_nil)
      (C8.pss_cut (ps_set (i := 1) ND rfl (.inl rfl) (pe_ifExp (pt_val (pe_m1 PySem.F.slot_str_startswith PySem.F.type_str_startswith mt_startswith (pv 0) pe_str)) (pe_slice sl_str (pv 0) (po_some pe_int) po_none) (pv 0)))
      (pss_cons (ps_if (PW.pt (pw_or (pt_cmpR op_eq (pv 1) pe_str (nomark _)) (pw_or (pt_cmpR op_gt (pe_callB call_len_str (by rfl) TO.len PySem.boot_len (pa_cons (pv 1) pa_nil)) (pe_glob (v := .int 60) rfl m2 ⟨_, rfl⟩) (nomark _))
          (pw_or1 (pt_not (pt_val (pe_call GO hr rfl gO FO.kp bO .nil pass0 (pa_cons (pv 1) (pa_cons (pe_glob (v := .str dgS) rfl m1 ⟨_, rfl⟩) pa_nil))))))))) (pss_one (ps_ret pe_non)) pss_nil)
      (pss_one (ps_ret (pe_callTy call_int_str (by rfl) TO.int (by decide +kernel) (pa_cons (pv 0) pa_nil)))))), ?_⟩
    have hz : x.length ≤ sizeLine := Nat.le_trans hx (by decide)
    have st : ∀ c, Txt.startswith x ⟨#[c]⟩ = hd x c := startswith_one x
    refine ⟨_, rfl, ⟨_, rfl⟩, _, _, rfl, rfl, _, rfl, ?_⟩
    rw [show Txt.startswith x ("'" : Str) = hd x 39 from st 39]
    cases h1 : hd x 39 with
    | true =>
      refine iteT ⟨_, rfl, 1, rfl, x, rfl, hz, ?_⟩
      rw [cut1_cut]
      rw [show wordF x = .str (cut1 x) by unfold wordF; rw [h1, if_pos rfl]] at q
      exact q
    | false =>
      have ew : wordF x = if badD (digP x) = true then .non else .int (intL x.cps.toList) := by
        unfold wordF
        rw [h1, if_neg Bool.false_ne_true]
      refine iteF ?_
      refine ⟨fun σ' H' => σ' = [some (.str x), some (.str (digP x))] ∧ H' = H, ?_, ?_⟩
      · refine ⟨_, rfl, ⟨_, rfl⟩, _, _, rfl, rfl, _, rfl, ?_⟩
        rw [show Txt.startswith x ("-" : Str) = hd x 45 from st 45]
        cases h2 : hd x 45 with
        | true =>
          refine iteT ⟨_, rfl, 1, rfl, x, rfl, hz, ?_⟩
          rw [cut1_cut, show cut1 x = digP x by unfold digP; rw [h2, if_pos rfl]]
          exact ⟨rfl, rfl⟩
        | false =>
          refine iteF ⟨_, rfl, ?_⟩
          rw [show digP x = x by unfold digP; rw [h2, if_neg Bool.false_ne_true]]
          exact ⟨rfl, rfl⟩
      · rintro σ' H' ⟨rfl, rfl⟩
        have hdl : (digP x).length ≤ x.length := by
          unfold digP
          split
          · exact cut1_len x
          · exact Nat.le_refl _
        have bad : badD (digP x) = true → Q .non H' := fun hb => by
          rw [ew, if_pos hb] at q
          exact q
        refine ⟨_, rfl, rfl, _, rfl, ?_⟩
        rw [dec_str]
        cases e1 : decide (digP x = "") with
        | true =>
          refine iteT (iteT ?_)
          exact bad (by unfold badD; rw [e1]; rfl)
        | false =>
          refine iteF ⟨_, rfl, _, rfl, Nat.le_trans hdl hz, _, _, rfl, rfl, _, rfl, ?_⟩
          cases e2 : decide ((60 : Int) < ((digP x).length : Int)) with
          | true =>
            refine iteT (iteT ?_)
            exact bad (by unfold badD; rw [e1, e2]; rfl)
          | false =>
            refine iteF ⟨_, rfl, _, _, rfl, by have := of_decide_eq_false e2; omega, _, rfl, ?_⟩
            cases e3 : onlyS (digP x) dgS with
            | false =>
              refine iteT ?_
              exact bad (by unfold badD; rw [e1, e2, e3]; rfl)
            | true =>
              refine iteF ?_
              have hb : badD (digP x) = false := by unfold badD; rw [e1, e2, e3]; rfl
              obtain ⟨h3, h4⟩ := word_int hb
              refine ⟨_, rfl, x, _, rfl, h3, by omega, ?_⟩
              rw [ew, if_neg (by rw [hb]; exact Bool.false_ne_true)] at q
              exact q
end
end My
namespace My
open PySem PySem.Spec PyProof.Rows L2 TW
/-! ### items_behind, value_of -/
theorem scItems : FnScope ["opening", "node"] ["opening", "node"] (defScope sItemsBehind) := ⟨rfl, rfl, rfl, by decide +kernel, rfl, by decide +kernel, by decide +kernel⟩
theorem scValueOf : FnScope ["node", "items", "item"] ["node"] (defScope sValueOf) := ⟨rfl, rfl, rfl, by decide +kernel, rfl, by decide +kernel, by decide +kernel⟩
def spItems : Sp := fun vs H Q _ => ∃ (op o : Str) (a l : Addr) (us : List V), vs = [.str op, .ref a] ∧ H a = some (.tup [.str o, .ref l]) ∧ H l = some (.lst us) ∧ Q (if o = op then .ref l else .non) H
mutual
def ndep : Nd → Nat
  | .w _ => 0
  | .b _ ns => ndepAll ns + 1
def ndepAll : List Nd → Nat
  | [] => 0
  | n :: ns => max (ndep n) (ndepAll ns)
end
theorem ndep_mem : ∀ {ns : List Nd} {n : Nd}, n ∈ ns → ndep n ≤ ndepAll ns
  | [], _, h => nomatch h
  | u :: ns, n, h => by
    simp only [ndepAll]
    rcases List.mem_cons.mp h with rfl | h
    · exact Nat.le_max_left _ _
    · exact Nat.le_trans (ndep_mem h) (Nat.le_max_right _ _)
theorem ndepAll_le {ns : List Nd} {k : Nat} (h : ∀ n ∈ ns, ndep n ≤ k) : ndepAll ns ≤ k := by
  induction ns with
  | nil => exact Nat.zero_le _
  | cons n ns ih =>
    simp only [ndepAll]
    exact Nat.max_le.mpr ⟨h n List.mem_cons_self, ih fun m hm => h m (List.mem_cons_of_mem _ hm)⟩
/-- what stands beside open brackets is not too deep -/
def stkDep : List (Str × List Nd) → Prop
  | [] => True
  | (_, bs) :: un => (∀ n ∈ bs, ndep n + un.length ≤ 30) ∧ stkDep un
theorem nodes_dep : ∀ (ws : List Str) (ns : List Nd) (un : List (Str × List Nd)), un.length < 30 → (∀ n ∈ ns, ndep n + un.length ≤ 30) → stkDep un → ∀ n ∈ nodesF ws ns un, ndep n ≤ 30
  | [], ns, un, _, h, _, n, hn => by
    have := h n hn
    omega
  | x :: ws, ns, un, hu, h, hs, n, hn => by
    unfold nodesF at hn
    split at hn
    · split at hn
      · cases hn
      · exact nodes_dep ws [] ((x, ns) :: un) (by simp only [List.length_cons]; omega) (fun m hm => by cases hm) ⟨h, hs⟩ n hn
    · split at hn
      · cases un with
        | nil => cases hn
        | cons p un' =>
          obtain ⟨o, bs⟩ := p
          dsimp only at hn
          split at hn
          · cases hn
          · simp only [List.length_cons] at hu h
            obtain ⟨hb, hs'⟩ := hs
            refine nodes_dep ws _ un' (by omega) (fun m hm => ?_) hs' n hn
            rcases List.mem_append.mp hm with z | z
            · exact hb m z
            · rw [List.mem_singleton.mp z]
              have : ndepAll ns ≤ 30 - (un'.length + 1) := ndepAll_le fun k hk => by
                have := h k hk
                omega
              simp only [ndep]
              omega
      · split at hn
        · cases hn
        · refine nodes_dep ws _ un hu (fun m hm => ?_) hs n hn
          rcases List.mem_append.mp hm with z | z
          · exact h m z
          · rw [List.mem_singleton.mp z]
            simp only [ndep]
            omega
theorem ndAll_get {M : List Addr} {H : Hp} : ∀ {ns : List Nd} {vs : List V} {i : Nat} (_ : NdAll M H ns vs) (_ : i < ns.length), ∃ n v, ns[i]? = some n ∧ vs[i]? = some v ∧ NdAt M H n v
  | [], _, _, _, h => by simp at h
  | n :: ns, vs, 0, hs, _ => by
    simp only [NdAll] at hs
    obtain ⟨v, r, rfl, h1, _⟩ := hs
    exact ⟨n, v, rfl, rfl, h1⟩
  | n :: ns, vs, i + 1, hs, h => by
    simp only [NdAll] at hs
    obtain ⟨v, r, rfl, _, h2⟩ := hs
    obtain ⟨m, u, e1, e2, h3⟩ := ndAll_get (i := i) h2 (by simpa using h)
    exact ⟨m, u, by simpa using e1, by simpa using e2, h3⟩
theorem NdAt.same {H H' : Hp} (s : Same H H') {n : Nd} {v : V} (h : NdAt [] H n v) : NdAt [] H' n v := NdAt.keep (fun b o _ e => s b o e) (fun b hb => by cases hb) n v h
theorem NdAll.same {H H' : Hp} (s : Same H H') {n : List Nd} {v : List V} (h : NdAll [] H n v) : NdAll [] H' n v := NdAll.keep (fun b o _ e => s b o e) (fun b hb => by cases hb) n v h
def spVof : Nat → Sp
  | 0 => fun vs _ _ _ => vs.length = 1 ∧ False
  | n + 1 => fun vs H Q _ => ∃ (nd : Nd) (v : V), vs = [v] ∧ NdAt [] H nd v ∧ ndep nd ≤ n ∧ ∀ H' u, Same H H' → Th H' (valF nd) u → Q u H'
structure TxtU (mg : Str → Option Value) : Prop where
  tuple : mg "tuple" = none
section
variable {P : Program} {w : World} {K : PySem.W.Frag} {mg : Str → Option Value} {base : Heap}
theorem ok_items {f fK : Addr} {fd fdK : FuncData} (F : Fun K "items_behind" "items_behind" sItemsBehind f fd) (FK : Fun K "kind_of" "kind_of" sKind fK fdK) (bK : Binds K fdK ["value"] []) (gK : mg "kind_of" = some (.ref fK)) (TK : TxtK mg) :
    FnOk P w K mg base CX0 2 f fd ["opening", "node"] spItems := by
  have GK : FnOk P w K mg base CX0 1 fK fdK ["value"] spKind := ok_kind FK TK
  refine F.ok scItems (fun vs H Q E h => ?_) (fun cdv A outer s H vs Q E hr h => ?_)
  · obtain ⟨op, o, a, l, us, rfl, _⟩ := h
    rfl
  · obtain ⟨op, o, a, l, us, rfl, ha, hl, q⟩ := h
    refine ⟨_, pss_one (ps_ret (pe_ifExp (PW.pt (pw_and (pt_cmpR op_eq (pe_call GK hr rfl gK FK.kp bK .nil pass0 (pa_cons (pv 1) pa_nil)) pe_str (nomark _))
        (pw_and1 (pt_cmpR op_eq (pe_ix ix_tup (pv 1) pe_int (fun _ _ => rfl)) (pv 0) (nomark _))))) (pe_ix ix_tup (pv 1) pe_int (fun _ _ => rfl)) pe_non)), ?_⟩
    have hT : Th H (.tup [.str o, .oth false]) (.ref a) := thTup ha (by show 2 < 4000000; decide) (taCons thStr (taCons (by unfold Th; exact ⟨l, rfl, us, hl⟩) taNil))
    refine ⟨_, rfl, _, _, rfl, hT, rfl, _, rfl, ?_⟩
    rw [kindS_list]
    refine iteT ⟨_, rfl, a, _, 0, .str o, rfl, rfl, SqT.of ha, rfl, _, rfl, rfl, _, rfl, ?_⟩
    rw [dec_str]
    by_cases e : o = op
    · rw [decide_eq_true e]
      rw [if_pos e] at q
      exact iteT ⟨_, rfl, a, _, 1, .ref l, rfl, rfl, SqT.of ha, rfl, q⟩
    · rw [decide_eq_false e]
      rw [if_neg e] at q
      exact iteF q
theorem ok_valueOf {f fK fW fO fI : Addr} {fd fdK fdW fdO fdI : FuncData} (F : Fun K "value_of" "value_of" sValueOf f fd) (bF : Binds K fd ["node"] []) (gF : mg "value_of" = some (.ref f))
    (FK : Fun K "kind_of" "kind_of" sKind fK fdK) (bK : Binds K fdK ["value"] []) (gK : mg "kind_of" = some (.ref fK)) (TK : TxtK mg)
    (FW : Fun K "value_of_word" "value_of_word" sValueOfWord fW fdW) (bW : Binds K fdW ["word"] []) (gW : mg "value_of_word" = some (.ref fW)) (GW : FnOk P w K mg base CX0 2 fW fdW ["word"] spWord)
    (FI : Fun K "items_behind" "items_behind" sItemsBehind fI fdI) (bI : Binds K fdI ["opening", "node"] []) (gI : mg "items_behind" = some (.ref fI)) (GI : FnOk P w K mg base CX0 2 fI fdI ["opening", "node"] spItems) (TU : TxtU mg) :
    ∀ n : Nat, FnOk P w K mg base CX0 (n + 3) f fd ["node"] (spVof n) := by
  have GK : FnOk P w K mg base CX0 1 fK fdK ["value"] spKind := ok_kind FK TK
  intro n
  induction n with
  | zero => exact F.ok scValueOf (fun vs H Q E h => h.1) (fun cdv A outer s H vs Q E hr h => h.2.elim)
  | succ n GR =>
    refine F.ok scValueOf (fun vs H Q E h => ?_) (fun cdv A outer s H vs Q E hr h => ?_)
    · obtain ⟨nd, v, rfl, _⟩ := h
      rfl
    · obtain ⟨nd, v, rfl, hnd, hdp, q⟩ := h
      have ND := scValueOf.nd
      have hr1 : Room 1 _ := hr.mono (by omega)
      have hr2 : Room 2 _ := hr.mono (by omega)
      refine ⟨_, pss_cons (ps_if (pt_cmpR op_eq (pe_call GK hr1 rfl gK FK.kp bK .nil pass0 (pa_cons (pv 0) pa_nil)) pe_str (nomark _)) (pss_one (ps_ret (pe_call GW hr2 rfl gW FW.kp bW .nil pass0 (pa_cons (pv 0) pa_nil)))) pss_nil)
        (pss_cons (ps_set (i := 1) ND rfl (.inl rfl) (pe_call GI hr2 rfl gI FI.kp bI .nil pass0 (pa_cons pe_str (pa_cons (pv 0) pa_nil))))
        (pss_one (ps_ret (pe_ifExp (pt_cmpR op_isN (pv 1) pe_non (nomark _)) pe_non (pe_callTy call_tuple_of (by rfl) TU.tuple (by decide +kernel) (pa_cons
          (pe_lc (own := [("item", 2)]) (g := gName 2) (tt := tYes) rfl ND (pi_list (pv 1)) (blkOk_by (own := [("item", 2)]) (N := ["node", "items", "item"]) (sc := defScope sValueOf) (by decide +kernel))
            (fun _ _ _ _ _ => pg_name (i := 2) ND rfl (Or.inl rfl)) (fun _ _ _ _ _ => pts_nil) (fun _ _ _ _ _ => pe_call GR hr rfl gF F.kp bF .nil pass0 (pa_cons (pv 2) pa_nil))) pa_nil)))))), ?_⟩
      cases nd with
      | w x =>
        simp only [NdAt] at hnd
        obtain ⟨rfl, hx⟩ := hnd
        refine ⟨_, rfl, .str x, _, rfl, thStr, rfl, _, rfl, ?_⟩
        rw [kindS_text]
        refine iteT ⟨_, rfl, x, rfl, hx, q H _ (Same.refl H) ?_⟩
        simp only [valF]
        exact th_word x
      | b o ns =>
        simp only [NdAt] at hnd
        obtain ⟨a, l, us, rfl, ha, _, _, hl, hul, hns⟩ := hnd
        have hT : Th H (.tup [.str o, .oth false]) (.ref a) := thTup ha (by show 2 < 4000000; decide) (taCons thStr (taCons (by unfold Th; exact ⟨l, rfl, us, hl⟩) taNil))
        simp only [ndep] at hdp
        obtain ⟨n', rfl⟩ : ∃ n', n = n' + 1 := ⟨n - 1, by omega⟩
        refine ⟨_, rfl, _, _, rfl, hT, rfl, _, rfl, ?_⟩
        rw [kindS_text]
        refine iteF ⟨_, rfl, _, o, a, l, us, rfl, ha, hl, ?_⟩
        by_cases ho : o = "["
        · rw [if_pos ho]
          have hv : valF (.b o ns) = .tup (ns.map valF) := by
            simp only [valF]
            rw [if_pos ho, valAll_map]
          rw [hv] at q
          refine ⟨_, rfl, rfl, _, rfl, iteF ?_⟩
          refine ⟨_, rfl, l, rfl, ⟨us, .inl (.inl hl)⟩, fun D nD => ?_⟩
          have hlen := ndAll_len hns
          refine lc_list (K := K) (a := l) (xs := us) (fun j G => ∃ acc : List V, G D = some (.lst acc) ∧ ThAll G ((ns.take j).map valF) acc ∧ Same H G) ⟨[], upd_same, taNil, same_upd nD⟩ (fun j G _ ⟨_, _, _, s2⟩ => .inl (.inl (s2 _ _ hl))) (fun j y G hy ⟨acc, hD, hacc, s2⟩ => ?_) (fun G ⟨acc, hD, hacc, s2⟩ => ?_)
          · have hj : j < ns.length := by
              have := (List.getElem?_eq_some_iff.mp hy).1
              omega
            obtain ⟨m, y', e1, e2, hm⟩ := ndAll_get hns hj
            have ey : y' = y := Option.some.inj (e2.symm.trans hy)
            subst ey
            have hmem : m ∈ ns := List.mem_of_getElem? e1
            have hdm : ndep m ≤ n' := by
              have := ndep_mem hmem
              omega
            refine ⟨rfl, tYes_if ?_⟩
            refine ⟨_, rfl, m, y', rfl, hm.same s2, hdm, fun H' u sm hu => ?_⟩
            have hD' := sm _ _ hD
            have hal := thAll_len hacc
            rw [List.length_map, List.length_take] at hal
            have ml : Mild H' (upd H' D (.lst (acc ++ [u]))) := Mild.updL hD'
            refine ⟨acc, hD', smallB (by omega), acc ++ [u], upd_same, ?_, fun b o' e => ?_⟩
            · rw [List.take_add_one, e1, List.map_append]
              exact ml.thAll (thAll_snoc hu (ThAll.same sm _ _ hacc))
            · rw [upd_ne (ne_of_none e nD)]
              exact sm _ _ (s2 _ _ e)
          · rw [← hlen, List.take_length] at hacc
            have hal := thAll_len hacc
            rw [List.length_map] at hal
            refine ⟨D, acc, rfl, .inl ⟨.inl (.inl hD), fun p np => ?_⟩⟩
            exact q _ _ (s2.trans (same_upd np)) (thTup upd_same (by omega) (ThAll.same (same_upd np) _ _ hacc))
        · rw [if_neg ho]
          have hv : valF (.b o ns) = .non := by
            simp only [valF]
            rw [if_neg ho]
          rw [hv] at q
          exact ⟨_, rfl, rfl, _, rfl, iteT (q H _ (Same.refl H) thNon)⟩
end
end My
namespace My
open PySem PySem.Spec PyProof.Rows L2 TW
/-! ### the text of an int, of a value: how long -/
def intC (i : Int) : List Nat := if i < 0 then 45 :: TL.numL i.natAbs else TL.numL i.natAbs
theorem ofS_list (s : String) : (Str.ofString s).cps.toList = s.toList.map Char.toNat := by
  rw [PySem.Str.ofString_eq_toList]
theorem int_list (i : Int) : (Str.ofString (toString i)).cps.toList = intC i := by
  unfold intC
  cases i with
  | ofNat n =>
    rw [if_neg (show ¬ Int.ofNat n < 0 by simp)]
    exact TL.tl_num n
  | negSucc n =>
    rw [if_pos (Int.negSucc_lt_zero n)]
    have e : toString (Int.negSucc n) = "-" ++ toString (((n + 1 : Nat) : Nat) : Int) := rfl
    rw [e, ofS_list, String.toList_append, List.map_append]
    have h := TL.tl_num (n + 1)
    show ("-" : String).toList.map Char.toNat ++ _ = _
    have h2 : ((toString (((n + 1 : Nat) : Nat) : Int)).toList.map Char.toNat) = TL.numL (n + 1) := by
      rw [← ofS_list]
      exact h
    rw [h2]
    rfl
theorem intC_len {i : Int} (h1 : -(10 ^ 60) < i) (h2 : i < 10 ^ 60) : (intC i).length ≤ 61 := by
  have h : i.natAbs < 10 ^ 60 := by omega
  have := TL.numL_len (n := i.natAbs) (k := 60) (by decide) h
  unfold intC
  split
  · simp only [List.length_cons]
    omega
  · omega
theorem app_len (x y : Str) : (x ++ y).length = x.length + y.length := PySem.Str.length_append x y
theorem join_len (ys : List Str) : (Txt.join " " ys).length ≤ (ys.map fun y => y.length + 1).sum := by
  rw [TL.join_eq, str_len, show (Str.join " " ys).cps.toList = TL.joinL [32] (ys.map TL.tl) by rw [show ([32] : List Nat) = TL.tl (" " : Str) from blank_list.symm]; exact TL.tl_join " " ys]
  induction ys with
  | nil => exact Nat.zero_le _
  | cons y ys ih =>
    cases ys with
    | nil =>
      simp only [List.map_cons, List.map_nil, TL.joinL, List.sum_cons, List.sum_nil]
      have := TL.len_tl y
      omega
    | cons z ys =>
      simp only [List.map_cons, TL.joinL, List.sum_cons] at ih ⊢
      rw [List.length_append, List.length_append]
      have := TL.len_tl y
      have h9 := ih
      simp only [List.length_cons, List.length_nil]
      omega
theorem plain_len : ∀ {t : T}, isPlain t = true → (txF t).length ≤ 61
  | .int i, h => by
    simp only [isPlain, Bool.and_eq_true, decide_eq_true_eq] at h
    simp only [txF]
    rw [str_len, int_list]
    exact intC_len h.1 h.2
  | .str x, h => by
    simp only [isPlain, textS, Bool.and_eq_true, Bool.not_eq_true', decide_eq_false_iff_not] at h
    simp only [txF]
    rw [app_len]
    have : ("'" : Str).length = 1 := by decide +kernel
    omega
  | .non, h => by simp [isPlain] at h
  | .bl _, h => by simp [isPlain] at h
  | .oth _, h => by simp [isPlain] at h
  | .tup _, h => by simp [isPlain] at h
theorem one_len : ("[" : Str).length = 1 ∧ ("]" : Str).length = 1 := by decide +kernel
theorem tx_len : ∀ (n : Nat) (t : T), lval n t = true → (txF t).length ≤ 64 * (1 + cnt t)
  | 0, .tup ts, h => by simp [lval] at h
  | n + 1, .tup ts, h => by
    simp only [lval, Bool.and_eq_true] at h
    have ih : ∀ u ∈ ts, (txF u).length ≤ 64 * (1 + cnt u) := fun u hu => tx_len n u (List.all_eq_true.mp h.2 u hu)
    simp only [txF]
    rw [app_len, app_len, one_len.1, one_len.2, txAll_map]
    have hj := join_len (ts.map txF)
    have hs : ((ts.map txF).map fun y => y.length + 1).sum ≤ 64 * cntAll ts + ts.length := by
      clear h hj
      induction ts with
      | nil => exact Nat.zero_le _
      | cons u us ih2 =>
        have h1 := ih u List.mem_cons_self
        have h2 := ih2 fun v hv => ih v (List.mem_cons_of_mem _ hv)
        simp only [List.map_cons, List.sum_cons, cntAll, List.length_cons]
        omega
    have hl : ts.length ≤ 50 := by
      have h1 := h.1
      simp only [Bool.not_eq_true', decide_eq_false_iff_not] at h1
      omega
    simp only [cnt]
    omega
  | n, .int i, h => by
    have e : lval n (.int i) = isPlain (.int i) := plain_eq rfl
    rw [e] at h
    have := plain_len h
    omega
  | n, .str x, h => by
    have e : lval n (.str x) = isPlain (.str x) := plain_eq rfl
    rw [e] at h
    have := plain_len h
    omega
  | n, .non, h => by
    have e : lval n .non = isPlain .non := plain_eq rfl
    rw [e] at h
    simp [isPlain] at h
  | n, .bl b, h => by
    have e : lval n (.bl b) = isPlain (.bl b) := plain_eq rfl
    rw [e] at h
    simp [isPlain] at h
  | n, .oth d, h => by
    have e : lval n (.oth d) = isPlain (.oth d) := plain_eq rfl
    rw [e] at h
    simp [isPlain] at h
theorem tx_len_all : ∀ {ts : List T}, (∀ t ∈ ts, (txF t).length ≤ 64 * (1 + cnt t)) → (((ts.map txF).map (·.length)).sum) ≤ 64 * cntAll ts
  | [], _ => Nat.le_refl _
  | t :: ts, h => by
    have h1 := h t List.mem_cons_self
    have h2 := tx_len_all fun u hu => h u (List.mem_cons_of_mem _ hu)
    simp only [List.map_cons, List.sum_cons, cntAll]
    omega
theorem cnt_mem : ∀ {ts : List T} {t : T}, t ∈ ts → cnt t ≤ cntAll ts
  | u :: ts, t, h => by
    simp only [cntAll]
    rcases List.mem_cons.mp h with rfl | h
    · omega
    · have := cnt_mem h
      omega
end My
namespace My
open PySem PySem.Spec PyProof.Rows L2 TW
/-! ### text_of_value, read_value -/
theorem scText : FnScope ["value", "kind", "item"] ["value"] (defScope sTextOf) := ⟨rfl, rfl, rfl, by decide +kernel, rfl, by decide +kernel, by decide +kernel⟩
theorem scRead : FnScope ["text", "nodes", "value"] ["text"] (defScope sReadValue) := ⟨rfl, rfl, rfl, by decide +kernel, rfl, by decide +kernel, by decide +kernel⟩
def spTx : Nat → Sp
  | 0 => fun vs _ _ _ => vs.length = 1 ∧ False
  | n + 1 => fun vs H Q _ => ∃ (t : T) (v : V), vs = [v] ∧ Th H t v ∧ lval n t = true ∧ cnt t ≤ 5000 ∧ ∀ H', Same H H' → Q (.str (txF t)) H'
def spRead : Sp := fun vs H Q _ => ∃ x : Str, vs = [.str x] ∧ x.length ≤ 1000000 ∧ ∀ H' u, Same H H' → Th H' (readF x) u → Q u H'
structure TxtX (mg : Str → Option Value) : Prop where
  str : mg "str" = none
  len : mg "len" = none
theorem lval_kid {n : Nat} {ts : List T} (h : lval n (.tup ts) = true) : ∃ m, n = m + 1 ∧ ts.length ≤ 50 ∧ ∀ t ∈ ts, lval m t = true := by
  cases n with
  | zero => simp [lval] at h
  | succ m =>
    simp only [lval, Bool.and_eq_true, Bool.not_eq_true', decide_eq_false_iff_not] at h
    exact ⟨m, rfl, by omega, List.all_eq_true.mp h.2⟩
theorem sum_plus : ∀ ys : List Str, (ys.map fun y => y.length + 1).sum = (ys.map (·.length)).sum + ys.length
  | [] => rfl
  | y :: ys => by
    have := sum_plus ys
    simp only [List.map_cons, List.sum_cons, List.length_cons]
    omega
section
variable {P : Program} {w : World} {K : PySem.W.Frag} {mg : Str → Option Value} {base : Heap}
theorem ok_text {f fK : Addr} {fd fdK : FuncData} (F : Fun K "text_of_value" "text_of_value" sTextOf f fd) (bF : Binds K fd ["value"] []) (gF : mg "text_of_value" = some (.ref f))
    (FK : Fun K "kind_of" "kind_of" sKind fK fdK) (bK : Binds K fdK ["value"] []) (gK : mg "kind_of" = some (.ref fK)) (TK : TxtK mg) (TX : TxtX mg) :
    ∀ n : Nat, FnOk P w K mg base CX0 (n + 2) f fd ["value"] (spTx n) := by
  have GK : FnOk P w K mg base CX0 1 fK fdK ["value"] spKind := ok_kind FK TK
  intro n
  induction n with
  | zero => exact F.ok scText (fun vs H Q E h => h.1) (fun cdv A outer s H vs Q E hr h => h.2.elim)
  | succ n GR =>
    refine F.ok scText (fun vs H Q E h => ?_) (fun cdv A outer s H vs Q E hr h => ?_)
    · obtain ⟨t, v, rfl, _⟩ := h
      rfl
    · obtain ⟨t, v, rfl, ht, hlv, hct, q⟩ := h
      have ND := scText.nd
      have hr1 : Room 1 _ := hr.mono (by omega)
      refine ⟨_, pss_cons (ps_set (i := 1) ND rfl (.inl rfl) (pe_call GK hr1 rfl gK FK.kp bK .nil pass0 (pa_cons (pv 0) pa_nil)))
        (pss_cons (ps_if (pt_cmpR op_eq (pv 1) pe_str (nomark _)) (pss_one (ps_ret (pe_callTy call_str_int (by rfl) TX.str (by decide +kernel) (pa_cons (pv 0) pa_nil)))) pss_nil)
        (pss_cons (ps_if (pt_cmpR op_eq (pv 1) pe_str (nomark _)) (pss_one (ps_ret (pe_op op_add_str pe_str (pv 0)))) pss_nil)
        (pss_one (ps_ret (pe_op op_add_str (pe_op op_add_str pe_str (pe_join pe_str
          (pe_lc (own := [("item", 2)]) (g := gName 2) (tt := tYes) rfl ND (pi_tup (pv 0)) (blkOk_by (own := [("item", 2)]) (N := ["value", "kind", "item"]) (sc := defScope sTextOf) (by decide +kernel))
            (fun _ _ _ _ _ => pg_name (i := 2) ND rfl (Or.inl rfl)) (fun _ _ _ _ _ => pts_nil) (fun _ _ _ _ _ => pe_call GR hr rfl gF F.kp bF .nil pass0 (pa_cons (pv 2) pa_nil))))) pe_str))))), ?_⟩
      refine ⟨_, rfl, t, v, rfl, ht, _, rfl, rfl, _, rfl, ?_⟩
      rw [kindS_int]
      have hpl : isTupT t = false → isPlain t = true := fun hb => by
        rw [plain_eq hb] at hlv
        exact hlv
      cases t with
      | int i =>
        have hp := hpl rfl
        simp only [isPlain, Bool.and_eq_true, decide_eq_true_eq] at hp
        have hn : i.natAbs < 10 ^ 60 := by omega
        have hlog : i.natAbs.log2 < 1920 := by
          by_cases h0 : i.natAbs = 0
          · rw [h0]
            decide
          · rw [Nat.log2_lt h0]
            exact Nat.lt_of_lt_of_le hn (Nat.le_trans (show (10 : Nat) ^ 60 ≤ 2 ^ 200 by decide) (Nat.pow_le_pow_right (by decide) (by decide)))
        simp only [Th] at ht
        subst ht
        refine iteT ⟨_, rfl, i, rfl, hlog, ?_⟩
        have q1 := q H (Same.refl H)
        simp only [txF] at q1
        exact q1
      | str x =>
        have hp := plain_len (hpl rfl)
        simp only [txF] at hp
        rw [app_len] at hp
        simp only [Th] at ht
        subst ht
        refine iteF ⟨_, rfl, rfl, _, rfl, ?_⟩
        rw [kindS_text]
        refine iteT ⟨_, rfl, _, x, rfl, rfl, Nat.le_trans hp (by decide), ?_⟩
        have q1 := q H (Same.refl H)
        simp only [txF] at q1
        exact q1
      | tup ts =>
        obtain ⟨m, rfl, hl50, hkids⟩ := lval_kid hlv
        simp only [Th] at ht
        obtain ⟨a, xs, rfl, ha, hxl, hxs⟩ := ht
        have hlen := thAll_len hxs
        refine iteF ⟨_, rfl, rfl, _, rfl, ?_⟩
        rw [kindS_text]
        refine iteF ⟨⟨_, rfl⟩, _, rfl, a, rfl, ⟨xs, SqT.of ha⟩, fun D nD => ?_⟩
        refine lc_tup (K := K) (a := a) (xs := xs) (fun j G => G D = some (.lst (((ts.take j).map txF).map V.str)) ∧ Same H G) ⟨upd_same, same_upd nD⟩ (fun j G _ ⟨_, s2⟩ => SqT.of (s2 _ _ ha)) (fun j y G hy ⟨hD, s2⟩ => ?_) (fun G ⟨hD, s2⟩ => ?_)
        · have hj : j < ts.length := by
            have := (List.getElem?_eq_some_iff.mp hy).1
            omega
          obtain ⟨u, y', e1, e2, hu⟩ := thAll_get hxs hj
          have ey : y' = y := Option.some.inj (e2.symm.trans hy)
          subst ey
          have hmem : u ∈ ts := List.mem_of_getElem? e1
          have hcu := cnt_mem hmem
          simp only [cnt] at hct
          refine ⟨rfl, tYes_if ?_⟩
          refine ⟨_, rfl, u, y', rfl, Th.same s2 _ _ hu, hkids u hmem, by omega, fun H' sm => ⟨_, sm _ _ hD, smallB ?_, ?_, fun b o e => ?_⟩⟩
          · rw [List.length_map, List.length_map, List.length_take]
            omega
          · rw [upd_same, List.take_add_one, e1]
            simp
          · rw [upd_ne (ne_of_none e nD)]
            exact sm _ _ (s2 _ _ e)
        · rw [← hlen, List.take_length] at hD
          simp only [cnt] at hct
          have hs := tx_len_all fun u hu => tx_len m u (hkids u hu)
          have hb : (" " : Str).length = 1 := by decide +kernel
          have hjl := join_len (ts.map txF)
          have hjs := sum_plus (ts.map txF)
          rw [List.length_map] at hjs
          refine ⟨_, D, ts.map txF, rfl, rfl, .inl (.inl (.inl hD)), ?_, ?_⟩
          · rw [List.length_map, hb]
            omega
          · refine ⟨_, _, rfl, rfl, ?_, _, _, rfl, rfl, ?_, ?_⟩
            · rw [one_len.1]
              show _ ≤ 16777216
              omega
            · rw [app_len, one_len.1, one_len.2]
              show _ ≤ 16777216
              omega
            · have q1 := q G s2
              simp only [txF] at q1
              rw [txAll_map] at q1
              exact q1
      | non => exact absurd (hpl rfl) (by simp [isPlain])
      | bl b => exact absurd (hpl rfl) (by simp [isPlain])
      | oth d => exact absurd (hpl rfl) (by simp [isPlain])
end
end My
namespace My
open PySem PySem.Spec PyProof.Rows L2 TW
/-! ### read_value -/
theorem short_word {x : Str} (h : x.length ≤ 1000000) : shortA (wordF x) := by
  have h1 := cut1_len x
  unfold wordF
  split
  · simp only [shortA]
    omega
  · split <;> simp only [shortA]
mutual
theorem nd_short {M : List Addr} {H : Hp} : ∀ (n : Nd) (v : V), NdAt M H n v → shortA (valF n)
  | .w x, v, h => by
    simp only [NdAt] at h
    simp only [valF]
    exact short_word h.2
  | .b o ns, v, h => by
    simp only [NdAt] at h
    obtain ⟨a, l, vs, _, _, _, _, _, _, h6⟩ := h
    simp only [valF]
    split
    · simp only [shortA]
      exact nds_short ns vs h6
    · simp only [shortA]
theorem nds_short {M : List Addr} {H : Hp} : ∀ (ns : List Nd) (vs : List V), NdAll M H ns vs → shortAll (valAll ns)
  | [], vs, h => by simp only [valAll, shortAll]
  | n :: ns, vs, h => by
    simp only [NdAll] at h
    obtain ⟨v, r, _, h1, h2⟩ := h
    simp only [valAll, shortAll]
    exact ⟨nd_short n v h1, nds_short ns r h2⟩
end
section
variable {P : Program} {w : World} {K : PySem.W.Frag} {mg : Str → Option Value} {base : Heap}
theorem ok_read {f fN fV fI fT : Addr} {fd fdN fdV fdI fdT : FuncData} (F : Fun K "read_value" "read_value" sReadValue f fd)
    (FN : Fun K "nodes_of" "nodes_of" sNodesOf fN fdN) (bN : Binds K fdN ["text"] []) (gN : mg "nodes_of" = some (.ref fN)) (GN : FnOk P w K mg base CX0 2 fN fdN ["text"] spNodes)
    (FV : Fun K "value_of" "value_of" sValueOf fV fdV) (bV : Binds K fdV ["node"] []) (gV : mg "value_of" = some (.ref fV)) (GV : ∀ n, FnOk P w K mg base CX0 (n + 3) fV fdV ["node"] (spVof n))
    (FI : Fun K "is_value" "is_value" sIsValue fI fdI) (bI : Binds K fdI ["value"] []) (gI : mg "is_value" = some (.ref fI)) (GI : FnOk P w K mg base CX0 5 fI fdI ["value"] spVal)
    (FT : Fun K "text_of_value" "text_of_value" sTextOf fT fdT) (bT : Binds K fdT ["value"] []) (gT : mg "text_of_value" = some (.ref fT)) (GT : ∀ n, FnOk P w K mg base CX0 (n + 2) fT fdT ["value"] (spTx n)) (TX : TxtX mg) :
    FnOk P w K mg base CX0 35 f fd ["text"] spRead := by
  refine F.ok scRead (fun vs H Q E h => ?_) (fun cdv A outer s H vs Q E hr h => ?_)
  · obtain ⟨x, rfl, _⟩ := h
    rfl
  · obtain ⟨x, rfl, hx, q⟩ := h
    have ND := scRead.nd
    refine ⟨_, pss_cons (ps_set (i := 1) ND rfl (.inl rfl) (pe_call GN (hr.mono (by decide)) rfl gN FN.kp bN .nil pass0 (pa_cons (pv 0) pa_nil)))
      (pss_cons (ps_if (pt_cmpR op_ne (pe_callB call_len_seq (by rfl) TX.len PySem.boot_len (pa_cons (pv 1) pa_nil)) pe_int (nomark _)) (pss_one (ps_ret pe_non)) pss_nil)
      (pss_cons (ps_set (i := 2) ND rfl (.inl rfl) (pe_call (GV 31) hr rfl gV FV.kp bV .nil pass0 (pa_cons (pe_ix ix_list (pv 1) pe_int (fun _ _ => rfl)) pa_nil)))
      (pss_one (ps_ret (pe_ifExp (PW.pt (pw_and (pt_val (pe_call GI (hr.mono (by decide)) rfl gI FI.kp bI .nil pass0 (pa_cons (pv 2) pa_nil)))
          (pw_and1 (pt_cmpR op_eq (pe_call (GT 6) (hr.mono (by decide)) rfl gT FT.kp bT .nil pass0 (pa_cons (pv 2) pa_nil)) (pv 0) (nomark _))))) (pv 2) pe_non))))), ?_⟩
    refine ⟨_, rfl, x, rfl, hx, fun H1 p us sm np hp hul hns => ?_⟩
    have hdep := nodes_dep (wordsF x) [] [] (by decide) (fun n hn => by cases hn) True.intro
    have er : readF x = match nodesF (wordsF x) [] [] with
      | [n] => if isVal (valF n) && decide (txF (valF n) = x) then valF n else .non
      | _ => .non := rfl
    generalize nodesF (wordsF x) [] [] = ns at *
    have hlen := ndAll_len hns
    refine ⟨_, rfl, p, us, rfl, .inl (.inl (.inl hp)), rfl, _, rfl, ?_⟩
    refine ite2 (fun h => ?_) (fun h => ?_)
    · have h' : ¬ us.length = 1 := fun z => by
        rw [z] at h
        simp at h
      have e : readF x = .non := by
        rw [er]
        match ns, hlen with
        | [], _ => rfl
        | [_], hl => exact absurd hl.symm h'
        | _ :: _ :: _, _ => rfl
      have q1 := q H1 .non sm (by rw [e]; exact thNon)
      exact q1
    · have h' : us.length = 1 := by
        by_cases z : us.length = 1
        · exact z
        · refine absurd ?_ h
          rw [decide_eq_false fun e => z (by have := V.int.inj e; omega)]
          rfl
      obtain ⟨n, rfl⟩ : ∃ n, ns = [n] := by
        match ns, hlen with
        | [], hl => simp at hl; omega
        | [n], _ => exact ⟨n, rfl⟩
        | _ :: _ :: _, hl => simp at hl; omega
      simp only [NdAll] at hns
      obtain ⟨u, r, rfl, hn, rfl⟩ := hns
      refine ⟨_, rfl, p, _, 0, u, rfl, rfl, SqL.of hp, rfl, n, u, rfl, hn, hdep n List.mem_cons_self, fun H2 v sm2 hv => ?_⟩
      have hsh := nd_short n u hn
      have e0 : readF x = if isVal (valF n) && decide (txF (valF n) = x) then valF n else .non := er
      clear er
      generalize valF n = t at *
      refine ⟨_, rfl, t, v, rfl, hv, hsh, fun H3 sm3 => ?_⟩
      have sm' := (sm.trans sm2).trans sm3
      cases hi : isVal t with
      | false =>
        rw [hi] at e0
        refine ⟨_, rfl, iteF ?_⟩
        exact q H3 .non sm' (by rw [e0]; exact thNon)
      | true =>
        rw [hi] at e0
        have hg := hi
        rw [val_eq, Bool.and_eq_true] at hg
        refine ⟨_, rfl, iteT ?_⟩
        refine ⟨_, rfl, t, v, rfl, Th.same sm3 _ _ hv, hg.1, by have := of_decide_eq_true hg.2; omega, fun H4 sm4 => ?_⟩
        refine ⟨_, rfl, rfl, _, rfl, ?_⟩
        rw [dec_str]
        cases hd' : decide (txF t = x) with
        | true =>
          rw [hd'] at e0
          exact iteT ⟨_, rfl, q H4 v (sm'.trans sm4) (by rw [e0]; exact Th.same (sm3.trans sm4) _ _ hv)⟩
        | false =>
          rw [hd'] at e0
          exact iteF (q H4 .non (sm'.trans sm4) (by rw [e0]; exact thNon))
end
end My
namespace LX
open PySem PySem.Spec PySem.W PySem.Calls PyProof.Rows
/-- def __init__(self, p): super().__init__(msg); self.p = p -/
def ibody (p msg : Str) (q0 q1 q2 q3 q4 q5 q6 q7 q8 q9 : Pos) (j : Nat) : List Stmt :=
  [.Expr (.Call (.Attribute (.Call (.Name "super" q0) [] [] q1) "__init__" q2) [.Constant (.str msg) j q3] [] q4) q5,
   .Assign [.Attribute (.Name "self" q6) p q7] (.Name p q8) q9]
def isc (p : Str) : Scope := { kind := .function, names := [("self", .local), (p, .local), ("__class__", .free), ("super", .globalImplicit)], isGenerator := false, isCoroutine := false, more := [] }
/-- a built-in error's __init__ -/
structure InF (B initId : String) : Prop where
  kind : builtinKind initId = some .slot
  row : Manifest.signature? initId = some ⟨.positional, "*", B, .self, [⟨"args", .varPos, false⟩]⟩
  star : (B != "*") = true
  plain : plainId initId = true
  entry : entryFor table initId = some Builtin.«BaseException.__init__»
theorem InF.of {B newId initId : String} (F : ExcCallFacts B newId initId) : InF B initId := ⟨F.initKind, F.initRow, F.noStar, F.init.plain, F.initEntry⟩
/-- what stands of the class at C in the written part -/
structure ExF (prog : Program) (K : Frag) (C : Addr) (bm0 : List Value) (B newId initId : String) (bmB : List Value) (cn p : Str) : Prop where
  FB : ∃ (B1 i1 : String) (b1 : List Value), ExcBaseFacts B1 newId i1 b1 ∧ bmB.contains (.type B1) = true
  noA : bmB.contains (.type "AttributeError") = false
  noN : bmB.contains (.type "NameError") = false
  IF : InF B initId
  KF : KxsFacts B initId
  pass : ∀ self : Value, refuseLoop self "__setattr__" bmB = pure ()
  ob : bmB.contains (.type "object") = true
  q : excInitIn K C bmB newId = true
  ov : excOver K C bmB = true
  init : ∃ (fI cc cda : Addr) (par : Arguments) (msg : Str) (q0 q1 q2 q3 q4 q5 q6 q7 q8 q9 : Pos) (j : Nat) (kV doc pm ct : Value) (an : Option Addr) (oc : Value) (od : Option Addr) (osl : Array (Option Value)) (ar a2 : Arg)
      (ccl cl : Value) (cdd cld : Option Addr) (ccs csl : Array (Option Value)) (vs : Array Value) (file : Str) (tf : Tok) (qn : Str),
    findIn K (.ref C) "__init__" = some (some (.ref fI)) ∧ typeIn K (.ref fI) = some (.type "function") ∧
    K.lookup fI = some ⟨oc, od, .func (ksFn "__init__" qn par (ibody p msg q0 q1 q2 q3 q4 q5 q6 q7 q8 q9 j) (isc p) .none kV doc pm an (.ref cda) ct cc), osl⟩ ∧
    codeIn K (.ref cda) qn = true ∧ (par.posonlyargs ++ par.args) = [ar, a2] ∧ ar.arg = ("self" : Str) ∧
    (∀ (u v : Value) , bindArgs (ksFn "__init__" qn par (ibody p msg q0 q1 q2 q3 q4 q5 q6 q7 q8 q9 j) (isc p) .none kV doc pm an (.ref cda) ct cc) ⟨[u, v], []⟩ = pure [(("self" : Str), u), (p, v)]) ∧
    (∀ (u v : Value) , bindArgs (ksFn "__init__" qn par (ibody p msg q0 q1 q2 q3 q4 q5 q6 q7 q8 q9 j) (isc p) .none kV doc pm an (.ref cda) ct cc) ⟨[u], [(p, v)]⟩ = pure [(("self" : Str), u), (p, v)]) ∧
    K.lookup cda = some ⟨ccl, cdd, .fields vs, ccs⟩ ∧ vs[2]? = some (.str file tf) ∧ ((prog.main.file : Str) == file) = true ∧
    K.lookup cc = some ⟨cl, cld, .cell (some (.ref C)), csl⟩ ∧ (q2.endLine == q4.line) = true
  noany : nsIn K cStatics "thirdparty.any" = some none
  sup : ks_superIn K C C "__init__" = some (some (.builtin initId))
  subB : subIn K (.ref C) (.type B) = some true
  subC : mroIn K C (.ref C) = some true
  topS : (prog.main.scope.names.lookup ("super" : Str)).isSome = false
  sa : findIn K (.ref C) "__setattr__" = some (some (.builtin "object.__setattr__"))
  hd : hasDictIn K C = true
  hf : findIn K (.ref C) p = some none
  ps : p ≠ ("self" : Str)
  pc : p ≠ ("__class__" : Str)
  pd : (p == ("__debug__" : Str)) = false
  pu : p ≠ ("super" : Str)
/-- an exception's object, without and with its dict -/
abbrev eo (C t : Addr) (dd : Option Addr) : Obj := { cls := .ref C, dict := dd, data := .fields #[.ref t, .none, .none, .none, .bool false, .none] }
section
variable {prog : Program} {w : World} {A : Around} {R : Result → Shared → Prop} {hp : Heap} {g : Array GenState} {d : Drawn} {t : Nat} {os : OsState}
/-- self.p = v on an exception without a dict, the class's tail any -/
theorem osa_any {K : Frag} {name : Str} {tk : Tok} {v : Value} {x C t0 : Addr} {bmB : List Value} {m : List Value}
    (X : K.In hp) (hx : hp.get? x = some (eo C t0 none)) (hov : excOver K C bmB = true) (hob : bmB.contains (.type "object") = true) (pass : ∀ self : Value, refuseLoop self "__setattr__" bmB = pure ()) (hh : hasDictIn K C = true) (ha : findIn K (.ref C) name = some none)
    (hq : ∀ h' tk' dx, (∀ b o, b ≠ x → hp.get? b = some o → h'.get? b = some o) → hp.objs.size ≤ dx → dx ≠ x → h'.get? x = some (eo C t0 (some dx)) →
      h'.Ns1 dx (fun y => if y = name then some v else none) → R (.ok (.ret .none)) ⟨h', g, d, tk', os⟩) :
    codeAny (model prog w) A (.call (.builtin "object.__setattr__") ⟨[.ref x, .str name tk, v], []⟩) R ⟨hp, g, d, t, os⟩ := by
  obtain ⟨cd, hcd, hdct⟩ := any_some hh
  have hmro : ∃ bm, cd.mro = .ref C :: bm ∧ excTail bmB bm = true := by
    unfold excOver at hov
    rw [hcd] at hov
    simp only [Option.any_some] at hov
    split at hov
    · rename_i C' bm e
      simp only [Bool.and_eq_true, beq_iff_eq] at hov
      obtain ⟨rfl, ht⟩ := hov
      exact ⟨bm, e, ht⟩
    · cases hov
  obtain ⟨bm, hm, ht⟩ := hmro
  have hpass := excTail_pass (.ref x) (pass (.ref x)) bm ht
  have hcon := excTail_contains "object" bm ht
  have I : InstAt hp x (eo C t0 none) C none := ⟨hx, rfl, rfl, trivial⟩
  have SF := F.store_object
  have hxs : x ≠ hp.objs.size := Nat.ne_of_lt (Heap.lt_size hx)
  have sub : Looks (model prog w) hp (isInstance (.ref x) (.type "object")) true := I.type.andThen (looks_mroIn X (by
    unfold mroIn
    rw [hcd, Option.bind_some, hm, if_neg (show ¬ (List.isEmpty (Value.ref C :: bm) = true) from Bool.false_ne_true), List.contains_cons, hcon, hob, Bool.or_true]))
  have hcls : Looks (model prog w) hp (classData C) cd := looks_clsIn X hcd
  have hmr : Looks (model prog w) hp (mroOf (.ref C)) (.ref C :: bm) := by
    rw [← hm]
    exact (looks_clsIn X hcd).andThen .now
  have L3 : Looks (model prog w) hp (Builtin.ObjectAttr.storeTaker? none) none := .now
  refine codeAny_call_builtin SF.slot.plain SF.entry (@check_slot (model prog w) _ _ ⟨hp, g, d, t, os⟩ "object.__setattr__" "object" "__setattr__" (.ref x) [.str name tk, v] [] _ SF.kind SF.split sub (SF.args (.ref x) (.str name tk) v) ?_)
  rw [osa_eq, refuse_eq]
  refine wpAny_bind (wpAny_bind (I.type.at (wpAny_bind (hmr.at ?_))))
  rw [refuseLoop_ref, hpass]
  refine wpAny_pure (wpAny_bind (I.type.at (wpAny_bind ((looks_findIn X ha).at (wpAny_bind (L3.at ?_))))))
  show wpAny _ _ (Builtin.ObjectAttr.storeInOwnDict (.ref x) (.ref C) (.str name tk) name v false) _ _ _
  obtain ⟨nm, bs, mro, ns, qn, hdd, sn, sb, ab, col, del⟩ := cd
  dsimp only at hdct
  subst hdct
  unfold Builtin.ObjectAttr.storeInOwnDict Builtin.ObjectAttr.ownDictForStores
  repeat (first | with_reducible refine HandSPX.store_in_new ?_ ?_ | with_reducible refine wpAny_loadPart_at hx ?_ | with_reducible refine hcls.at ?_ | wp_step)
  · exact ⟨_, #[], _, (Heap.get?_update_ne _ _ _ _ hxs.symm).trans (Heap.get?_push_at rfl rfl), rfl, fun e he => absurd he (by simp), fun _ => rfl⟩
  · intro h' tk' hn' hs
    have hx₁ : (hp.push { cls := .type "dict", data := .dict #[] }).get? x = some (eo C t0 none) := Heap.get?_push_of_some _ hx
    refine hq h' tk' hp.objs.size (fun b o hb ho => ?_) (Nat.le_refl _) hxs.symm ?_ hn'
    · exact (hs.2 b (Nat.ne_of_lt (Heap.lt_size ho))).trans ((Heap.get?_update_ne _ _ _ _ hb).trans (Heap.get?_push_of_some _ ho))
    · exact (hs.2 x hxs).trans (Heap.get?_update_self _ hx₁ rfl)
end
end LX
namespace LX
open PySem PySem.Spec PySem.W PySem.Calls PyProof.Rows
section
variable {prog : Program} {w : World} {K : Frag} {C : Addr} {bm0 bmB : List Value} {B newId initId : String} {cn p : Str}
theorem isc_self : (isc p).names.lookup ("self" : Str) = some .local := rfl
theorem isc_p (h : p ≠ ("self" : Str)) : (isc p).names.lookup p = some .local := by
  have e : (p == ("self" : Str)) = false := beq_eq_false_iff_ne.mpr h
  unfold isc
  simp [List.lookup, e]
theorem isc_cls (h : p ≠ ("__class__" : Str)) : (isc p).names.lookup ("__class__" : Str) = some .free := by
  have e : (("__class__" : Str) == p) = false := beq_eq_false_iff_ne.mpr (Ne.symm h)
  have e1 : (("__class__" : Str) == ("self" : Str)) = false := by decide
  unfold isc
  simp [List.lookup, e, e1]
theorem isc_sup (h : p ≠ ("super" : Str)) : (isc p).names.lookup ("super" : Str) = some .globalImplicit := by
  have e : (("super" : Str) == p) = false := beq_eq_false_iff_ne.mpr (Ne.symm h)
  have e1 : (("super" : Str) == ("self" : Str)) = false := by decide
  have e2 : (("super" : Str) == ("__class__" : Str)) = false := by decide
  unfold isc
  simp [List.lookup, e, e1, e2]
theorem call_shape {o : Expr} {q2 q4 q3 : Pos} {msg : Str} {j : Nat} {env : Env} {n : Str} (h : (q2.endLine == q4.line) = true) : eval (.Call (.Attribute o n q2) [.Constant (.str msg) j q3] [] q4) env = (do
      let ov ← attributeBase o n env (eval o env)
      standAt q2.atName
      let (f, first) ← holding [ov] (getMethod ov n (do return (← importBound o env).getD true))
      callWith q4 f first (backTo q4 (starEach [.Constant (.str msg) j q3] env)) []) := by
  rw [arm_eval_Call]
  have e : methodCallForm ([Expr.Constant (.str msg) j q3].length + ([] : List Keyword).length) (backTo q4 (starEach [.Constant (.str msg) j q3] env)) (backToKw q4 (keywordEach [] env)) = true := rfl
  have e2 : ∀ ov : Value, methodCall o n q2 q4 env ov ([Expr.Constant (.str msg) j q3].length + ([] : List Keyword).length) (backTo q4 (starEach [.Constant (.str msg) j q3] env)) (backToKw q4 (keywordEach [] env)) = (do
      let (f, first) ← holding [ov] (getMethod ov n (do return (← importBound o env).getD true))
      callWith q4 f first (backTo q4 (starEach [.Constant (.str msg) j q3] env)) []) := fun ov => by
    unfold methodCall methodCallPos calleeOf
    rw [e]
    simp only [h, Bool.not_true, Bool.false_or, if_true]
    rfl
  simp only [e2]
theorem check_b {M : Model} {A : Around} {E : Value → Shared → Prop} {h : Heap} {g : Array GenState} {d : Drawn} {t : Nat} {os : OsState} (IF : InF B initId) {nm q : Str} {N e : Addr} {oe : Obj} {bs bm : List Value} {hdct : Bool} {sn : List Str} {sub : List Value} {ab : Bool} {col : Option Bool} {dd : Option Addr} {k0 k1 k2 k3 k5 : Option Value} {rest : List Value} {Q : Unit → Shared → Prop}
    (hC : h.get? C = some (excClassObj nm q C N bs bm hdct sn sub ab col dd k0 k1 k2 k3 k5 newId)) (he : h.get? e = some oe) (hcls : oe.cls = .ref C) (hq : Q () ⟨h, g, d, t, os⟩) : wpAny M A (checkBoundCall initId { pos := .ref e :: rest, kw := [] }) Q E ⟨h, g, d, t, os⟩ := by
  have hstar := IF.star
  simp only [checkBoundCall, IF.kind, IF.row]
  repeat (first
    | (with_reducible refine wpAny_loadPart_at he ?_; rw [hcls])
    | with_reducible refine wpAny_loadPart_at hC ?_
    | wp_step)
  refine wpAny_onRaise ?_
  have e0 : ∀ (x y : String) (n : Nat), Bind.check ⟨.positional, "*", B, .self, [⟨"args", .varPos, false⟩]⟩ x y n (List.map (fun z => z.fst) ({ pos := Value.ref e :: rest } : Args).kw) = pure () := fun x y n => check_star_args _ _ _ _ _ _
  rw [e0]
  exact wpAny_pure hq
/-- the built-in __init__, bound to e, called with these -/
theorem call_bound {A : Around} {E : Value → Shared → Prop} {s : Shared} {u e t0 : Addr} {rest : List Value} {Q : Value → Shared → Prop} (IF : InF B initId) (q : excInitIn K C bmB newId = true) (X : K.In s.heap)
    (hu : s.heap.get? u = some (kxs_mw initId e)) (he : s.heap.get? e = some (eo C t0 none)) (hz : rest.length ≤ sizeLine)
    (h : ∀ h' t1, (∀ b o, b ≠ e → s.heap.get? b = some o → h'.get? b = some o) → h'.get? e = some (eo C t1 none) → Q .none { s with heap := h' }) :
    wpAny (model prog w) A (call (.ref u) rest) Q E s := by
  obtain ⟨nm, N', qn, bs, bm, hdct, sn, sub, ab, col, dd, k0, k1, k2, k3, k5, hC, hT⟩ := excInit_of X q
  obtain ⟨hh, g, d, tk, os⟩ := s
  refine wpAny_call (codeAny_of_tree ?_)
  show wpAny _ A.in1 (callAny (.ref u) { pos := rest, kw := [] }) _ _ _
  simp only [callAny]
  refine wpAny_bind (wpAny_load hu ?_)
  have hb : (Value.type "method-wrapper" == Value.type "method" || Value.type "method-wrapper" == Value.type "builtin_function_or_method" || Value.type "method-wrapper" == Value.type "method-wrapper") = true := by decide
  simp only [kxs_mw, hb, if_true]
  refine KFB.if_so (by decide) (wpAny_bind (check_b IF hC he rfl ?_))
  refine wpAny_bind (wpAny_pure (wpAny_pure ⟨plainId_quiet IF.plain _, codeAny_builtin IF.entry ?_⟩))
  exact exc_init_tree (cls := .ref C) (t0 := t0) (dv := none) (c2 := .none) (c3 := .none) (b4 := .bool false) he hz fun h' k e' _ => h h' _ k e'
/-- the __init__ of such a class, called -/
theorem init_run (T : ExF prog K C bm0 B newId initId bmB cn p) : ∃ fI : Addr, findIn K (.ref C) "__init__" = some (some (.ref fI)) ∧ typeIn K (.ref fI) = some (.type "function") ∧
    ∀ {A : Around} {R : Result → Shared → Prop} {s : Shared} {e t0 : Addr} {v : Value} {args : Args} {mg mb : Str → Option Value} (X : K.In s.heap) (G : s.heap.Ns mainGlobals mg) (hs : mg "super" = none) (Bl : s.heap.Ns builtinsNs mb) (hb : mb "super" = some (.type "super"))
      (lim : s.heap.NoLimit) (hroom : A.depth < recursionLimit) (ke : K.lookup e = none) (he : s.heap.get? e = some (eo C t0 none)) (ha : args = { pos := [.ref e, v], kw := [] } ∨ args = { pos := [.ref e], kw := [(p, v)] })
      (hq : ∀ h' tk' dx t1, (∀ b o, b ≠ e → s.heap.get? b = some o → h'.get? b = some o) → s.heap.objs.size ≤ dx → dx ≠ e → h'.get? e = some (eo C t1 (some dx)) →
        h'.Ns1 dx (fun y => if y = p then some v else none) → R (.ok (.ret .none)) { s with heap := h', toks := tk' }),
      codeAny (model prog w) A (.call (.ref fI) args) R s := by
  obtain ⟨fI, cc, cda, par, msg, q0, q1, q2, q3, q4, q5, q6, q7, q8, q9, j, kV, doc, pm, ct, an, oc, od, osl, ar, a2, ccl, cl, cdd, cld, ccs, csl, vs, file, tf, qn, h1, h2, h3, h4, h5, h6, h7, h8, h9, h10, h11, h12, h13⟩ := T.init
  refine ⟨fI, h1, h2, fun {A R s e t0 v args mg mb} X G hs Bl hb lim hroom ke he ha hq => ?_⟩
  have hbind : bindArgs (ksFn "__init__" qn par (ibody p msg q0 q1 q2 q3 q4 q5 q6 q7 q8 q9 j) (isc p) .none kV doc pm an (.ref cda) ct cc) args = pure [(("self" : Str), .ref e), (p, v)] := by
    rcases ha with rfl | rfl
    · exact h7 _ _
    · exact h8 _ _
  have hl : (fun x => ([(("self" : Str), Value.ref e), (p, v)] : List (Str × Value)).reverse.lookup x) ("self" : Str) = some (.ref e) := by
    have e1 : (("self" : Str) == p) = false := beq_eq_false_iff_ne.mpr (Ne.symm T.ps)
    simp [List.lookup, e1]
  have hl2 : (fun x => ([(("self" : Str), Value.ref e), (p, v)] : List (Str × Value)).reverse.lookup x) p = some v := by simp [List.lookup]
  obtain ⟨cd, hcd, hdct⟩ := any_some T.hd
  obtain ⟨oD, hD1, hD2⟩ : ∃ oD, s.heap.get? C = some oD ∧ oD.data = .cls cd := by
    have hcd' := hcd
    unfold clsIn at hcd'
    split at hcd'
    · rename_i c d cd' sl ho
      cases hcd'
      exact ⟨_, X _ _ ho, rfl⟩
    · cases hcd'
  have hal : alongIn K "__init__" ((cd.mro.dropWhile (· != .ref C)).drop 1) = some (some (.builtin initId)) := by
    have z := T.sup
    unfold ks_superIn at z
    rw [hcd] at z
    exact z
  refine ks_codeAny_call_defAt (fd := ksFn "__init__" qn par (ibody p msg q0 q1 q2 q3 q4 q5 q6 q7 q8 q9 j) (isc p) .none kV doc pm an (.ref cda) ct cc) (binds := [(("self" : Str), .ref e), (p, v)]) hroom (X _ _ h3) rfl lim (codeRec_of X h4) rfl (.of_eq hbind)
    (fun x hx => ?_) (fun x hx => ?_) (fun h₀ hns k0 => ?_)
  · have hx' : x ∈ (isc p).names := hx
    unfold isc at hx'
    simp only [List.mem_cons, List.not_mem_nil, or_false] at hx'
    rcases hx' with rfl | rfl | rfl | rfl <;> exact fun z => nomatch z
  · simp only [List.mem_cons, List.not_mem_nil, or_false] at hx
    rcases hx with rfl | rfl
    · exact isc_self
    · exact isc_p T.ps
  · show PySem.wpAt _ (A.deeper (ksEnv qn (isc p) s.heap.objs.size fI (.ref cda) cc)) (.func (ibody p msg q0 q1 q2 q3 q4 q5 q6 q7 q8 q9 j) (ksEnv qn (isc p) s.heap.objs.size fI (.ref cda) cc)) (execs (ibody p msg q0 q1 q2 q3 q4 q5 q6 q7 q8 q9 j) (ksEnv qn (isc p) s.heap.objs.size fI (.ref cda) cc)) _ _ _
    have X0 : K.In h₀ := X.keeps k0
    have hk : (ksEnv qn (isc p) s.heap.objs.size fI (.ref cda) cc).scope.kind = .function := rfl
    have sz0 : s.heap.objs.size ≤ h₀.objs.size := by
      obtain ⟨oL, _, _, hL, _⟩ := hns
      exact Nat.le_of_lt (Heap.lt_size hL)
    obtain ⟨hh, g, d, t, os⟩ := s
    refine ks_wpAt_execs_cons (ks_wpAt_Expr_any (ks_wpAt_MethodCall ?_ (call_shape h13)))
    refine ks_wpAt_super_base (env := ksEnv qn (isc p) hh.objs.size fI (.ref cda) cc) (isc_sup T.pu) (isc_cls T.pc) (by decide) rfl (X0 _ _ h3) rfl (ar := ar) ?_ rfl (X0 _ _ h9) rfl h10 h11 T.topS ?_
    · show (par.posonlyargs ++ par.args).head? = some ar
      rw [h5]
      rfl
    refine ks_loadName_global hk (isc_sup T.pu) (loadGlobal_builtin (env := ksEnv qn (isc p) hh.objs.size fI (.ref cda) cc) (G.keeps k0) hs (Bl.keeps k0) hb ⟨rfl, ?_⟩)
    refine wpAny_loadName_free hk (isc_cls T.pc) rfl ⟨_, X0 _ _ h12, rfl⟩ ?_
    rw [h6]
    refine wpAny_loadName_local hk isc_self hns hl ?_
    refine ks_wpAny_isType_cls (k0 _ _ hD1) hD2 ⟨rfl, ?_⟩
    refine ks_wpAny_call_super (k0 _ _ hD1) hD2 (k0 _ _ he) rfl (fun c z => nomatch z) (looks_mroIn X0 T.subC) (fun h2 es k2 => ?_)
    have X2 : K.In h2 := X0.keeps k2
    have he2 : h2.get? e = some (eo C t0 none) := k2 _ _ (k0 _ _ he)
    have I2 : InstAt h2 e (eo C t0 none) C none := ⟨he2, rfl, rfl, trivial⟩
    have neC : e ≠ C := by
      rintro rfl
      rw [he] at hD1
      cases hD1
      cases hD2
    refine kxs_getMethod T.KF es (looks_opaque X2 T.noany) (l₀ := cd.mro) ((looks_clsIn X2 hcd).andThen .now) rfl X2 hal (I2.type.andThen (looks_subIn X2 T.subB)) neC (by decide) ?_
    have k3 : ∀ b o, h2.get? b = some o → (h2.push (kxs_mw initId e)).get? b = some o := fun b o z => Heap.get?_push_of_some _ z
    have hu3 : (h2.push (kxs_mw initId e)).get? h2.objs.size = some (kxs_mw initId e) := Heap.get?_push_at rfl rfl
    refine kxs_callWith (i := initId) (x := e) (by rfl) (evalArgs_plain ?_)
    show wpAny _ _ (spliced ((false, eval (.Constant (.str msg) j q3) (ksEnv qn (isc p) hh.objs.size fI (.ref cda) cc)) :: [])) _ _ _
    refine spliced_cons (Constant_str (spliced_nil ⟨hu3, ?_⟩))
    refine call_bound T.IF T.q (X2.keeps k3) hu3 (k3 _ _ he2) (by show 1 ≤ sizeLine; rw [sizeLine_eq]; omega) (fun h4' t1 k4 e4 => ?_)
    -- the field
    have kA : ∀ b o, b ≠ e → hh.get? b = some o → h4'.get? b = some o := fun b o n z => k4 b o n (k3 _ _ (k2 _ _ (k0 _ _ z)))
    have kB : ∀ b o, b ≠ e → h₀.get? b = some o → h4'.get? b = some o := fun b o n z => k4 b o n (k3 _ _ (k2 _ _ z))
    have eL : hh.objs.size ≠ e := Nat.ne_of_gt (Heap.lt_size he)
    have ns4 : h4'.Ns hh.objs.size (fun x => ([(("self" : Str), Value.ref e), (p, v)] : List (Str × Value)).reverse.lookup x) := by
      obtain ⟨oL, es', ep, hL, r⟩ := hns
      exact ⟨oL, es', ep, kB _ _ eL hL, r⟩
    have X4 : K.In h4' := fun b o z => by
      refine kA b o (fun y => ?_) (X b o z)
      rw [y] at z
      exact absurd (show K.lookup e = some o from z) (by rw [ke]; exact fun y => nomatch y)
    show PySem.wpAt _ _ _ (execs [.Assign [.Attribute (.Name "self" q6) p q7] (.Name p q8) q9] _) _ _ _
    refine ks_wpAt_execs_cons (ks_wpAt_Assign_Attr ?_)
    refine wpAt_of_wpAny (wpAny_Name ?_ T.pd)
    refine wpAny_loadName_local (m := fun x => ([(("self" : Str), Value.ref e), (p, v)] : List (Str × Value)).reverse.lookup x) hk (isc_p T.ps) ns4 hl2 ?_
    refine wpAny_Name ?_ (by decide)
    refine wpAny_loadName_local (m := fun x => ([(("self" : Str), Value.ref e), (p, v)] : List (Str × Value)).reverse.lookup x) hk isc_self ns4 hl ?_
    have I4 : InstAt h4' e (eo C t1 none) C none := ⟨e4, rfl, rfl, trivial⟩
    refine set_plain (od := none) X4 I4 T.sa ?_
    refine osa_any (m := []) X4 e4 T.ov T.ob T.pass T.hd T.hf fun h5' tk' dx k5 hdx dne e5 ns5 => ?_
    have sz4 : hh.objs.size ≤ h4'.objs.size := by
      obtain ⟨oL, es', ep, hL, r⟩ := ns4
      exact Nat.le_of_lt (Heap.lt_size hL)
    show PySem.wpAt _ _ _ (execs [] _) _ _ _
    exact wpAt_of_wpAny (wpAny_pure (hq h5' _ dx t1 (fun b o n z => k5 b o n (kA b o n z)) (Nat.le_trans sz4 hdx) dne e5 ns5))
end
end LX
namespace LX
open PySem PySem.Spec PySem.W PySem.Calls PyProof.Rows
section
variable {prog : Program} {w : World} {A : Around} {E : Value → Shared → Prop} {R : Result → Shared → Prop} {h : Heap} {g : Array GenState} {d : Drawn} {t : Nat} {os : OsState}
variable {nm q : Str} {C N : Addr} {bs bm bmB : List Value} {hdct : Bool} {sn : List Str} {sub : List Value} {ab : Bool} {col : Option Bool} {dd : Option Addr} {k0 k1 k2 k3 k5 : Option Value} {B newId initId : String}
theorem kcheck_new {M : Model} (F : ExcBaseFacts B newId initId bmB) (hB : bm.contains (.type B) = true) (hA : bm.contains (.type "AttributeError") = false) (hN : bm.contains (.type "NameError") = false) {rest : List Value} {kw : List (Str × Value)} {Q : Unit → Shared → Prop}
    (hC : h.get? C = some (excClassObj nm q C N bs bm hdct sn sub ab col dd k0 k1 k2 k3 k5 newId)) (hq : Q () ⟨h, g, d, t, os⟩) : wpAny M A (checkBuiltinCall newId { pos := .ref C :: rest, kw := kw }) Q E ⟨h, g, d, t, os⟩ := by
  have c1 : (Value.ref C :: bm).contains (.type B) = true := by
    rw [List.contains_cons, hB]
    exact Bool.or_true _
  have c2 := F.noStar
  simp only [checkBuiltinCall, F.newKind, F.newSplit, F.newRow]
  repeat (first
    | refine wpAny_loadPart_at hC ?_
    | (refine wpAny_isSubtype_exc hC ?_; rw [c1])
    | refine wpAny_staticBase_exc hC ?_
    | refine wpAny_madeBy_exc hC ?_
    | simp only [bne_self_eq_false, Bool.false_eq_true, if_false]
    | wp_step)
  exact hq
theorem knew (F : ExcBaseFacts B newId initId bmB) (hB : bm.contains (.type B) = true) (hA : bm.contains (.type "AttributeError") = false) (hN : bm.contains (.type "NameError") = false) {rest : List Value} {kw : List (Str × Value)} (hz : rest.length ≤ sizeLine)
    (hC : h.get? C = some (excClassObj nm q C N bs bm hdct sn sub ab col dd k0 k1 k2 k3 k5 newId))
    (hq : R (.ok (.ret (.ref (h.objs.size + 1)))) ⟨(h.push (kdv_tup rest)).push (eo C h.objs.size none), g, d, t, os⟩) :
    codeAny (model prog w) A (.builtin newId { pos := .ref C :: rest, kw := kw }) R ⟨h, g, d, t, os⟩ := by
  have c0 := F.ends
  have c1 : (Value.ref C :: bm).contains (.type B) = true := by
    rw [List.contains_cons, hB]
    exact Bool.or_true _
  have c2 : (Value.ref C :: bm).contains (.type "AttributeError") = false := by
    rw [List.contains_cons, hA]
    exact rfl
  have c3 : (Value.ref C :: bm).contains (.type "NameError") = false := by
    rw [List.contains_cons, hN]
    exact rfl
  refine codeAny_builtinAt F.entry ?_
  unfold Builtin.«BaseException.__new__»
  refine PySem.wpAt_bind ?_
  show PySem.wpAt _ _ _ (stack >>= _) _ _ _
  refine PySem.wpAt_bind (PySem.wpAt_stack fun p below => wpAt_of_wpAny ?_)
  wp_walk
  refine wpAt_of_wpAny ?_
  rw [F.owner]
  repeat (first
    | with_reducible refine wpAny_madeHere_exc F.canon hC ?_
    | with_reducible refine wpAny_loadPart_at hC ?_
    | (with_reducible refine wpAny_isSubtype_exc hC ?_; first | rw [c1] | rw [c2] | rw [c3])
    | wp_step)
  show R _ _
  rw [Heap.size_push]
  exact hq
theorem ktype (F : ExcBaseFacts B newId initId bmB) (hB : bm.contains (.type B) = true) (hA : bm.contains (.type "AttributeError") = false) (hN : bm.contains (.type "NameError") = false) {rest : List Value} {kw : List (Str × Value)} (hz : rest.length ≤ sizeLine) {fI : Addr} {Q : Fin → Shared → Prop}
    (hC : h.get? C = some (excClassObj nm q C N bs bm hdct sn sub ab col dd k0 k1 k2 k3 k5 newId))
    (hi : Looks (model prog w) h (typeLookup (.ref C) "__init__") (some (.ref fI))) (hb : ∀ self, Looks (model prog w) h (bindSpecial (.ref fI) self) (.ref fI, [self]))
    (hq : codeAny (model prog w) A (.call (.ref fI) { pos := .ref (h.objs.size + 1) :: rest, kw := kw })
      (fun r s' => match r with | .ok (.ret v) => v = .none ∧ Q (.done (.ret (.ref (h.objs.size + 1)))) s' | .ok _ => False | .error e => E e s')
      ⟨(h.push (kdv_tup rest)).push (eo C h.objs.size none), g, d, t, os⟩) :
    wpAny (model prog w) A (Builtin.«type.__call__» { pos := .ref C :: rest, kw := kw }) Q E ⟨h, g, d, t, os⟩ := by
  repeat (first
    | with_reducible refine wpAny_loadPart_at hC ?_
    | with_reducible refine wpAny_madeBy_exc hC ?_
    | wp_step)
  refine codeAny_call_builtin_code (Code.quiet_builtin _ F.quiet) (kcheck_new F hB hA hN hC (knew F hB hA hN hz hC ?_))
  show wpAny _ _ _ _ _ _
  have k : ∀ b o, h.get? b = some o → ((h.push (kdv_tup rest)).push (eo C h.objs.size none)).get? b = some o := fun b o e => Heap.get?_push_of_some _ (Heap.get?_push_of_some _ e)
  have hC1 := k _ _ hC
  have hget : ((h.push (kdv_tup rest)).push (eo C h.objs.size none)).get? (h.objs.size + 1) = some (eo C h.objs.size none) := by heap_get
  have c1 : (Value.ref C :: bm).contains (.ref C) = true := by simp
  have i1 := hi.keeps k
  have b1 := (hb (.ref (h.objs.size + 1))).keeps k
  unfold isInstance
  repeat (first
    | with_reducible refine wpAny_loadPart_at hget ?_
    | (with_reducible refine wpAny_isSubtype_exc hC1 ?_; rw [c1])
    | wp_step)
  show wpAny _ _ (typeLookup (.ref C) _) _ _ _
  refine i1.at (wpAny_holding (wpAny_bind (b1.at (wpAny_bind (wpAny_call (codeAny_mono hq fun r s' z => ?_))))))
  rcases r with e | (v | _ | _ | _) <;> first | exact z | exact z.elim | skip
  obtain ⟨rfl, z⟩ := z
  first
    | exact wpAny_pure (wpAny_pure z)
    | (wp_walk; exact z)
theorem kcall (F : ExcBaseFacts B newId initId bmB) (hB : bm.contains (.type B) = true) (hA : bm.contains (.type "AttributeError") = false) (hN : bm.contains (.type "NameError") = false) {rest : List Value} {kw : List (Str × Value)} (hz : rest.length ≤ sizeLine) {fI : Addr}
    (hC : h.get? C = some (excClassObj nm q C N bs bm hdct sn sub ab col dd k0 k1 k2 k3 k5 newId))
    (hi : Looks (model prog w) h (typeLookup (.ref C) "__init__") (some (.ref fI))) (hb : ∀ self, Looks (model prog w) h (bindSpecial (.ref fI) self) (.ref fI, [self]))
    (hq : codeAny (model prog w) (A.under (.builtin "type.__call__" { pos := .ref C :: rest, kw := kw })) (.call (.ref fI) { pos := .ref (h.objs.size + 1) :: rest, kw := kw }) (InitBack (h.objs.size + 1) R)
      ⟨(h.push (kdv_tup rest)).push (eo C h.objs.size none), g, d, t, os⟩) :
    codeAny (model prog w) A (.call (.ref C) { pos := rest, kw := kw }) R ⟨h, g, d, t, os⟩ := by
  have f1 := PySem.tc_lookup
  have f2 := PySem.tc_bind (.ref C)
  have hTy : (⟨h, g, d, t, os⟩ : Shared).TypeIs (.ref C) "type" := ⟨_, hC, rfl⟩
  refine codeAny_of_tree ?_
  show wpAny _ _ (callAny (.ref C) _) _ _ _
  repeat (any_goals (first | assumption | with_reducible refine wpAny_loadPart_at hC ?_ | wp_step))
  refine ⟨rfl, codeAny_call_builtin_at (Code.quiet_builtin _ (by decide +kernel)) entry_typeCall (wpAny_check_type_call_sub hC (ktype F hB hA hN hz hC hi hb ?_))⟩
  refine codeAny_mono hq fun r s' z => ?_
  rcases r with e | (v | _ | _ | _) <;> exact z
end
end LX
namespace LX
open PySem PySem.Spec PyProof.Rows L2
/-- at a: an error of the class at C, its dict at d -/
def er (a C d : Addr) : HO := .ext fun h => ∃ t1 : Addr, h.get? a = some (eo C t1 (some d))
theorem er_ok {P : Program} {w : World} {H : Hp} {h : Heap} {a C d t1 : Addr} (e : h.get? a = some (eo C t1 (some d))) : ObjOk P w H h a (er a C d) :=
  ⟨⟨t1, e⟩, ⟨_, e⟩, fun h1 h2 z k => by
    obtain ⟨t, q⟩ := z
    exact ⟨t, k _ q⟩⟩
theorem er_at {P : Program} {w : World} {H : Hp} {h : Heap} {a C d : Addr} (hok : HOk P w H h) (e : H a = some (er a C d)) : ∃ t1 : Addr, h.get? a = some (eo C t1 (some d)) := by
  have x : ObjOk P w H h a (.ext fun h => ∃ t1 : Addr, h.get? a = some (eo C t1 (some d))) := hok a _ e
  exact x.1
section
variable {X : Cx} {pins : List (Addr × Obj)} {σ : L2.St} {H : Hp} {s : Shared}
/-- two new objects laid and tracked -/
theorem laid2 {h' : Heap} {a d : Addr} {oa od : HO} {t' : Nat} (I : Inv X pins σ H s) (k : ∀ b u, s.heap.get? b = some u → h'.get? b = some u) (pa : s.heap.objs.size ≤ a) (pd : s.heap.objs.size ≤ d) (ne : d ≠ a)
    (na : ObjOk X.prog X.w (upd (upd H d od) a oa) h' a oa) (nd : ObjOk X.prog X.w (upd (upd H d od) a oa) h' d od) : Inv X pins σ (upd (upd H d od) a oa) { s with heap := h', toks := t' } := by
  have ha : H a = none := I.hok.fresh pa
  have hd : H d = none := I.hok.fresh pd
  have xa : ∀ {b : Addr} {u : Obj}, s.heap.get? b = some u → b ≠ a := fun {b u} q => Nat.ne_of_lt (Nat.lt_of_lt_of_le (Heap.lt_size q) pa)
  have xd : ∀ {b : Addr} {u : Obj}, s.heap.get? b = some u → b ≠ d := fun {b u} q => Nat.ne_of_lt (Nat.lt_of_lt_of_le (Heap.lt_size q) pd)
  have ya : ∀ {b : Addr} {u : HO}, H b = some u → b ≠ a := fun {b u} q => ne_of_none q ha
  have yd : ∀ {b : Addr} {u : HO}, H b = some u → b ≠ d := fun {b u} q => ne_of_none q hd
  refine I.un { keep := fun b u q _ _ _ => k b u q, slot := fun b u q _ _ _ => ⟨u.slots, k b u q⟩, free := fun b u q n _ => ?_, there := fun b u q _ => ⟨u, k b u q⟩, tups := fun b xs q => ?_, frzs := fun b u xs q => ?_, tbls := fun b ps q => ⟨#[], ?_⟩ } (fun b u e => ?_)
  · rw [upd_ne (xa q), upd_ne (xd q)]
    exact n
  · rw [upd_ne (ya q), upd_ne (yd q)]
    exact q
  · rw [upd_ne (ya q), upd_ne (yd q)]
    exact q
  · rw [upd_ne (ya q), upd_ne (yd q), q]
    simp
  · by_cases hb : b = a
    · subst hb
      rw [upd_same] at e
      cases e
      exact na
    · rw [upd_ne hb] at e
      by_cases hb2 : b = d
      · subst hb2
        rw [upd_same] at e
        cases e
        exact nd
      · rw [upd_ne hb2] at e
        exact (I.hok b u e).stay (fun c v _ q => k c v q) (fun c q => by rw [upd_ne (ya q), upd_ne (yd q)]; exact q) fun c xs q => by rw [upd_ne (ya q), upd_ne (yd q)]; exact q
/-- the reading of a new error with this field -/
def rNew (C : Addr) (p : Str) (y : V) (H : Hp) (Q : VK) : Prop := ∀ a d, H a = none → H d = none → d ≠ a → Q (.ref a) (upd (upd H d (.xd [(p, y)])) a (er a C d))
variable {C : Addr} {bm0 bmB : List Value} {B newId initId : String} {cn p : Str}
theorem one_rel {p : Str} {y : V} {u : Value} (ry : RelV y u) (f : Str) : RelO (([(p, y)] : List (Str × V)).lookup f) (if f = p then some u else none) := by
  by_cases e : f = p
  · subst e
    simp [List.lookup]
    exact ry
  · have e' : (f == p) = false := beq_eq_false_iff_ne.mpr e
    simp [List.lookup, e', e]
    trivial
theorem new_core (T : ExF X.prog X.K C bm0 B newId initId bmB cn p) (hr : Room 2 X.A) (hs : X.mg "super" = none) (I : Inv X pins σ H s) {u : Value} {us : List Value} {kw : List (Str × Value)} {R : Value → Shared → Prop} {E : Value → Shared → Prop}
    (ha : (us = [u] ∧ kw = []) ∨ (us = [] ∧ kw = [(p, u)]))
    (h : ∀ h' tk' dx t1, (∀ b o, s.heap.get? b = some o → h'.get? b = some o) → s.heap.objs.size ≤ dx → dx ≠ s.heap.objs.size + 1 → h'.get? (s.heap.objs.size + 1) = some (eo C t1 (some dx)) →
      h'.Ns1 dx (fun y => if y = p then some u else none) → R (.ref (s.heap.objs.size + 1)) { s with heap := h', toks := tk' }) :
    wpAny (model X.prog X.w) X.A (call (.ref C) us kw) R E s := by
  obtain ⟨fI, i1, i2, run⟩ := init_run (w := X.w) T
  have KX := I.kIn
  obtain ⟨nm, N', qn, bs, bm, hdct, sn, sub, ab, col, dd, k0, k1, k2, k3, k5, hC, hT⟩ := PySem.W.excInit_of KX T.q
  obtain ⟨mb, b1, b2⟩ := I.mod.blt
  have hz : us.length ≤ sizeLine := by
    rcases ha with ⟨rfl, _⟩ | ⟨rfl, _⟩ <;> (rw [sizeLine_eq]; simp)
  have lim := I.nolimit
  have glob := I.mod.glob.keeps I.bk
  have blt := b1.keeps I.bk
  have ke : X.K.lookup (s.heap.objs.size + 1) = none := by
    cases z : X.K.lookup (s.heap.objs.size + 1) with
    | none => rfl
    | some o => exact absurd (Heap.lt_size (KX _ _ z)) (Nat.not_lt_of_le (Nat.le_succ _))
  obtain ⟨hp, g, dr, tk, os⟩ := s
  obtain ⟨B1, i1', b1', FB, hcB⟩ := T.FB
  refine wpAny_call (kcall FB ((hT _).trans hcB) ((hT _).trans T.noA) ((hT _).trans T.noN) hz hC (PySem.W.looks_findIn KX i1) (fun self => PySem.W.bind_fn KX self i2) ?_)
  have kk : ∀ b o, hp.get? b = some o → ((hp.push (PySem.W.kdv_tup us)).push (eo C hp.objs.size none)).get? b = some o := fun b o e => Heap.get?_push_of_some _ (Heap.get?_push_of_some _ e)
  have hget : ((hp.push (PySem.W.kdv_tup us)).push (eo C hp.objs.size none)).get? (hp.objs.size + 1) = some (eo C hp.objs.size none) := by heap_get
  have hsz : ((hp.push (PySem.W.kdv_tup us)).push (eo C hp.objs.size none)).objs.size = hp.objs.size + 2 := by rw [Heap.size_push, Heap.size_push]
  refine run (v := u) (s := ⟨(hp.push (PySem.W.kdv_tup us)).push (eo C hp.objs.size none), g, dr, tk, os⟩) (KX.keeps kk) (glob.keeps kk) hs (blt.keeps kk) ((b2 "super" (by decide)).trans (by first | rfl | kernel_rfl)) (lim.keeps kk) (hr.make C us kw).depth ke hget ?_ (fun h' tk' dx t1 k3 hdx dne e5 ns5 => ?_)
  · rcases ha with ⟨rfl, rfl⟩ | ⟨rfl, rfl⟩
    · exact .inl rfl
    · exact .inr rfl
  · have pa : hp.objs.size ≤ hp.objs.size + 1 := Nat.le_succ _
    have pd : hp.objs.size ≤ dx := by
      rw [hsz] at hdx
      omega
    have kf : ∀ b o, hp.get? b = some o → h'.get? b = some o := fun b o z => k3 b o (Nat.ne_of_lt (Nat.lt_succ_of_lt (Heap.lt_size z))) (kk b o z)
    exact ⟨rfl, h h' tk' dx t1 kf pd dne e5 ns5⟩
theorem new_run (T : ExF X.prog X.K C bm0 B newId initId bmB cn p) (hr : Room 2 X.A) (hs : X.mg "super" = none) (I : Inv X pins σ H s) {y : V} {u : Value} {us : List Value} {kw : List (Str × Value)} {Q : VK}
    (ha : (us = [u] ∧ kw = []) ∨ (us = [] ∧ kw = [(p, u)])) (ry : RelV y u) (h : rNew C p y H Q) :
    wpAny (model X.prog X.w) X.A (call (.ref C) us kw) (EP X pins σ Q) X.xe s := by
  refine new_core T hr hs I ha fun h' tk' dx t1 kf pd dne e5 ns5 => ?_
  have pa : s.heap.objs.size ≤ s.heap.objs.size + 1 := Nat.le_succ _
  have J := laid2 (t' := tk') (oa := er (s.heap.objs.size + 1) C dx) (od := .xd [(p, y)]) I kf pa pd dne (er_ok e5) ⟨_, ns5, one_rel ry⟩
  exact ⟨.ref (s.heap.objs.size + 1), _, J, rfl, h _ _ (I.hok.fresh pa) (I.hok.fresh pd) dne⟩
end
end LX
namespace LX
open PySem PySem.Spec PyProof.Rows L2
section
variable {X : Cx} {C : Addr} {bm0 bmB : List Value} {B newId initId : String} {cn p x : Str} {e : Expr} {te : TE} {q pos kpos : Pos}
/-- C(e) -/
def tNw (C : Addr) (p : Str) (te : TE) : TE := fun σ H Q => te σ H fun y H1 => rNew C p y H1 Q
theorem pe_nw (T : ExF X.prog X.K C bm0 B newId initId bmB cn p) (hr : Room 2 X.A) (hs : X.mg "super" = none) (gC : X.mg x = some (.ref C)) (kC : PySem.W.keepIn X.K (.ref C) = true) (hg : Gl X x) (he : PE X e te)
    (hst : starEach [e] X.env = (false, eval e X.env) :: starEach [] X.env := by rfl) (hdb : (x == ("__debug__" : Str)) = false := by decide) : PE X (.Call (.Name x q) [e] [] pos) (tNw C p te) := by
  refine ⟨fun pins s σ H Q I h => wpAny_Call_Name_kw (ld_glob I hg gC ?_ hdb)⟩
  refine PySem.W.callWith_K (h₀ := X.base) I.ok.mod.kin kC ?_ hst (by rfl)
  rw [hst]
  show wpAny _ _ (spliced ((false, eval e X.env) :: backTo pos (starEach [] X.env))) _ _ s
  refine Calls.spliced_cons (thn (he.run pins s σ H _ I h) fun u s1 hu => ?_)
  obtain ⟨y, H1, I1, r1, q1⟩ := hu
  exact Calls.spliced_nil ⟨I1.kIn, new_run (us := [u]) (kw := []) T hr hs I1 (.inl ⟨rfl, rfl⟩) r1 q1⟩
/-- C(p=e) -/
theorem pe_nwK (T : ExF X.prog X.K C bm0 B newId initId bmB cn p) (hr : Room 2 X.A) (hs : X.mg "super" = none) (gC : X.mg x = some (.ref C)) (kC : PySem.W.keepIn X.K (.ref C) = true) (hg : Gl X x) (he : PE X e te)
    (hdb : (x == ("__debug__" : Str)) = false := by decide) (hpl : ((backTo pos (starEach [] X.env)).any (·.1) || (backToKw pos (keywordEach [⟨some p, e, kpos⟩] X.env)).any (·.1.isNone)) = false := by rfl) :
    PE X (.Call (.Name x q) [] [⟨some p, e, kpos⟩] pos) (tNw C p te) := by
  refine ⟨fun pins s σ H Q I h => wpAny_Call_Name_kw (ld_glob I hg gC ?_ hdb)⟩
  refine PySem.W.callWith_KW0 (h₀ := X.base) I.ok.mod.kin kC rfl ?_ hpl
  show wpAny _ _ (evalAll [(do
    let v ← eval e X.env
    standAt pos
    pure v)]) _ _ s
  refine wpAny_evalAll_cons (wpAny_bind (thn (he.run pins s σ H _ I h) fun u s1 hu => wpAny_bind (wpAny_standAt (wpAny_pure ?_))))
  obtain ⟨y, H1, I1, r1, q1⟩ := hu
  exact wpAny_evalAll_nil ⟨I1.kIn, new_run (us := []) (kw := [(p, u)]) T hr hs I1 (.inr ⟨rfl, rfl⟩) r1 q1⟩
/-- e.p, e an error -/
def tFld (C : Addr) (p : Str) (te : TE) : TE := fun σ H Q => te σ H fun x H1 => ∃ a d y, x = .ref a ∧ H1 a = some (er a C d) ∧ H1 d = some (.xd [(p, y)]) ∧ Q y H1
structure FlC (K : PySem.W.Frag) (C : Addr) (p : Str) : Prop where
  ga : PySem.W.findIn K (.ref C) "__getattribute__" = some (some (.builtin "BaseException.__getattribute__"))
  gg : PySem.W.findIn K (.ref C) "__getattr__" = some none
  exC : PySem.W.subIn K (.ref C) (.type "BaseException") = some true
  hdC : PySem.W.hasDictIn K C = true
  no : PySem.W.findIn K (.ref C) p = some none
theorem pe_fld (F : FlC X.K C p) (he : PE X e te) (hb : attributeBase e p X.env (eval e X.env) = eval e X.env := by rfl) :
    PE X (.Attribute e p pos) (tFld C p te) := by
  refine ⟨fun pins s σ H Q I h => attr_of hb (thn (he.run pins s σ H _ I h) fun u s1 hh => ?_)⟩
  obtain ⟨x, H1, I1, rx, a, d, y, ex, ha, hd, q⟩ := hh
  subst ex
  obtain rfl : u = Value.ref a := rx
  obtain ⟨t1, ho⟩ := er_at I1.hok ha
  have hx : ObjOk X.prog X.w H1 s1.heap d (.xd [(p, y)]) := I1.hok d _ hd
  obtain ⟨mA, hns, hr⟩ := hx
  obtain ⟨od, ho2, hl⟩ := lookIn_ns hns
  obtain ⟨v, hv, rv⟩ := RelO.some_of (v := y) (o := mA p) (by have z := hr p; simpa [List.lookup] using z)
  exact HandSPX.exc_get I1.kIn (od := some od) ⟨ho, rfl, rfl, ho2⟩ F.ga F.gg F.exC (PySem.W.findObj_own F.hdC F.no rfl (by rw [hl, hv])) (handed_of rv) ⟨y, H1, I1.tok _, rv, q⟩
end
end LX
namespace LX
open PySem PySem.Spec PyProof.Rows L2
/-- what isinstance asks of an error's class -/
structure IsC (K : PySem.W.Frag) (C : Addr) : Prop where
  ga : PySem.W.findIn K (.ref C) "__getattribute__" = some (some (.builtin "BaseException.__getattribute__"))
  gg : PySem.W.findIn K (.ref C) "__getattr__" = some none
  exC : PySem.W.subIn K (.ref C) (.type "BaseException") = some true
  hdC : PySem.W.hasDictIn K C = true
  cl : PySem.W.findIn K (.ref C) "__class__" = some (some (.builtin "object.__class__"))
  obj : PySem.W.mroIn K C (.type "object") = some true
structure IsG (K : PySem.W.Frag) : Prop where
  sp : PySem.W.specialIn K (.builtin "object.__class__") "__get__" = some (some (.builtin "getset_descriptor.__get__"))
  tk : PySem.W.takesIn K (.builtin "object.__class__") = some true
/-- isinstance(e, c), e an error -/
def rIsX (K : PySem.W.Frag) : List V → Hp → VK → Prop := fun xs H Q => ∃ (a C d : Addr) (fs : List (Str × V)) (c : V) (cv : Value) (b : Bool), xs = [.ref a, c] ∧ H a = some (er a C d) ∧ H d = some (.xd fs) ∧ IsC K C ∧ (∀ u, RelV c u → u = cv) ∧ PySem.W.kitOne K (.ref C) cv = some b ∧ Q (.bl b) H
theorem call_isX {X : Cx} (G : IsG X.K) : CallR X (.builtin "isinstance") (rIsX X.K) := by
  intro pins s σ H xs us Q I r h
  obtain ⟨a, C, d, fs, c, cv, b, rfl, ha, hd, T, hcv, e, q⟩ := h
  obtain ⟨u, v, rfl, ru, rv⟩ := vals2 r
  obtain rfl : u = Value.ref a := ru
  have ec := hcv _ rv
  subst ec
  obtain ⟨t1, ho⟩ := er_at I.hok ha
  have hx : ObjOk X.prog X.w H s.heap d (.xd fs) := I.hok d _ hd
  obtain ⟨mA, hns, _⟩ := hx
  obtain ⟨od, ho2, _⟩ := lookIn_ns hns
  have J : PySem.W.InstAt s.heap a (eo C t1 (some d)) C (some od) := ⟨ho, rfl, rfl, ho2⟩
  obtain ⟨cd, hc, _⟩ := PySem.W.any_some T.hdC
  exact PySem.W.kia_one (PySem.W.kitx_exc (by rw [hc]; rfl) T.ga T.gg T.exC T.cl G.sp G.tk T.obj) I.kIn J e (fun z => nomatch z) fun tk => ⟨.bl b, H, I.kept (t' := tk) fun _ _ z => z, rfl, q⟩
end LX
namespace LX
open PySem PySem.Spec PyProof.Rows L2
section
variable {X : Cx} {C : Addr} {bm0 bmB : List Value} {B newId initId : String} {cn p x : Str} {e : Expr} {te : TE} {q pos kpos : Pos}
/-- raise C(e): what the raised error is made of; its dict stands at d -/
theorem pmk_nw (T : ExF X.prog X.K C bm0 B newId initId bmB cn p) (hr : Room 2 X.A) (hs : X.mg "super" = none) (gC : X.mg x = some (.ref C)) (kC : PySem.W.keepIn X.K (.ref C) = true) (exC : PySem.W.subIn X.K (.ref C) (.type "BaseException") = some true)
    (tyC : PySem.W.typeIn X.K (.ref C) = some (.type "type")) (hg : Gl X x) (he : PE X e te) (hst : starEach [e] X.env = (false, eval e X.env) :: starEach [] X.env := by rfl) (hdb : (x == ("__debug__" : Str)) = false := by decide) :
    PMk X (.Call (.Name x q) [e] [] pos) (fun σ H Q => te σ H fun y H1 => ∀ d, H1 d = none → Q (.ref C) (some d) (upd H1 d (.xd [(p, y)]))) := by
  intro pins s σ H Q I h
  refine wpAny_Call_Name_kw (ld_glob I hg gC ?_ hdb)
  refine PySem.W.callWith_K (h₀ := X.base) I.ok.mod.kin kC ?_ hst (by rfl)
  rw [hst]
  show wpAny _ _ (spliced ((false, eval e X.env) :: backTo pos (starEach [] X.env))) _ _ s
  refine Calls.spliced_cons (thn (he.run pins s σ H _ I h) fun u s1 hu => ?_)
  obtain ⟨y, H1, I1, r1, q1⟩ := hu
  refine Calls.spliced_nil ⟨I1.kIn, ?_⟩
  refine new_core (us := [u]) (kw := []) T hr hs I1 (.inl ⟨rfl, rfl⟩) fun h' tk' dx t1 kf pd dne e5 ns5 => ?_
  obtain ⟨G, g1, g2⟩ := restrict h' fun b => decide (b ≠ s1.heap.objs.size + 1)
  have ga : G.get? (s1.heap.objs.size + 1) = none := g2 _ (by simp)
  have gk : ∀ b, b ≠ s1.heap.objs.size + 1 → G.get? b = h'.get? b := fun b hb => g1 b (decide_eq_true hb)
  have up : ∀ b o, G.get? b = some o → h'.get? b = some o := fun b o z => by
    rw [← gk b (fun w => by rw [w, ga] at z; cases z)]
    exact z
  have kG : ∀ b o, s1.heap.get? b = some o → G.get? b = some o := fun b o z => by
    rw [gk b (Nat.ne_of_lt (Nat.lt_succ_of_lt (Heap.lt_size z)))]
    exact kf b o z
  have J : Inv X pins σ (upd H1 dx (.xd [(p, y)])) { s1 with heap := G, toks := tk' } := I1.laid (t' := tk') (a := dx) (o := .xd [(p, y)]) kG pd ⟨_, ns5.at fun o z => (gk dx dne).trans z, one_rel r1⟩
  have na : H1 (s1.heap.objs.size + 1) = none := I1.hok.fresh (Nat.le_succ _)
  exact ⟨s1.heap.objs.size + 1, _, _, { s1 with heap := G, toks := tk' }, upd H1 dx (.xd [(p, y)]), .ref C, some dx, rfl, J, up, ga, e5, ⟨rfl, rfl⟩, rfl, rfl, (upd_ne (Ne.symm dne)).trans na, rfl, J.bare, raises_own exC tyC, q1 dx (I1.hok.fresh pd)⟩
end
end LX
namespace My
open PySem PySem.Spec PyProof.Rows L2 TW LX
/-! ### the doors: check_string, format_value, parse_value -/
theorem none_of {H H' : Hp} {r : Addr} (s : Same H H') (h : H' r = none) : H r = none := by
  cases e : H r with
  | none => rfl
  | some o =>
    have z := s r o e
    rw [h] at z
    cases z
/-- an error class whose __init__ keeps one field p -/
structure EK (prog : Program) (K : PySem.W.Frag) (mg : Str → Option Value) (x p : Str) (C : Addr) : Prop where
  T : ∃ (bm0 : List Value) (B newId initId : String) (bmB : List Value), ExF prog K C bm0 B newId initId bmB x p
  g : mg x = some (.ref C)
  k : PySem.W.keepIn K (.ref C) = true
  ex : PySem.W.subIn K (.ref C) (.type "BaseException") = some true
  ty : PySem.W.typeIn K (.ref C) = some (.type "type")
theorem scCheckS : FnScope ["text"] ["text"] (defScope sCheckString) := ⟨rfl, rfl, rfl, by decide +kernel, rfl, by decide +kernel, by decide +kernel⟩
theorem scFormat : FnScope ["value"] ["value"] (defScope sFormatValue) := ⟨rfl, rfl, rfl, by decide +kernel, rfl, by decide +kernel, by decide +kernel⟩
theorem scParse : FnScope ["text", "value"] ["text"] (defScope sParseValue) := ⟨rfl, rfl, rfl, by decide +kernel, rfl, by decide +kernel, by decide +kernel⟩
def Raises (H : Hp) (E : XK) (C : Addr) (p : Str) (v : V) : Prop := ∀ H' d, Same H H' → H d = none → H' d = some (.xd [(p, v)]) → E (.ref C) (some d) H'
def spCheckS (C : Addr) : Sp := fun vs H Q E => ∃ (t : T) (v : V), vs = [v] ∧ Th H t v ∧ (isStrT t = true → Q .non H) ∧ (isStrT t = false → Raises H E C "text" v)
def spFormat (C : Addr) : Sp := fun vs H Q E => ∃ (t : T) (v : V), vs = [v] ∧ Th H t v ∧ shortA t ∧ (isVal t = true → ∀ H', Same H H' → Q (.str (txF t)) H') ∧ (isVal t = false → Raises H E C "value" v)
/-- what a thing is read as -/
def readT : T → T
  | .str x => readF x
  | _ => .non
def isNonT : T → Bool
  | .non => true
  | _ => false
def lenT : T → Prop
  | .str x => x.length ≤ 1000000
  | _ => True
def spParse (C : Addr) : Sp := fun vs H Q E => ∃ (t : T) (v : V), vs = [v] ∧ Th H t v ∧ lenT t ∧ (isNonT (readT t) = false → ∀ H' u, Same H H' → Th H' (readT t) u → Q u H') ∧ (isNonT (readT t) = true → Raises H E C "text" v)
theorem Raises.same {H H1 : Hp} {E : XK} {C : Addr} {p : Str} {v : V} (s : Same H H1) (h : Raises H E C p v) : Raises H1 E C p v := fun H' d s2 n e => h H' d (s.trans s2) (none_of s n) e
theorem Raises.new {H : Hp} {E : XK} {C : Addr} {p : Str} {v : V} (h : Raises H E C p v) {d : Addr} (hd : H d = none) : E (.ref C) (some d) (upd H d (.xd [(p, v)])) := h _ d (same_upd hd) hd upd_same
theorem isN_th {K : PySem.W.Frag} {H : Hp} {t : T} {v : V} (h : Th H t v) : decide (v = V.non) = isNonT t := by
  cases t with
  | non =>
    simp only [Th] at h
    subst h
    rfl
  | bl b =>
    simp only [Th] at h
    subst h
    exact decide_eq_false fun z => nomatch z
  | int i =>
    simp only [Th] at h
    subst h
    exact decide_eq_false fun z => nomatch z
  | str x =>
    simp only [Th] at h
    subst h
    exact decide_eq_false fun z => nomatch z
  | oth d =>
    simp only [Th] at h
    obtain ⟨a, rfl, _⟩ := h
    exact decide_eq_false fun z => nomatch z
  | tup ts =>
    simp only [Th] at h
    obtain ⟨a, xs, rfl, _⟩ := h
    exact decide_eq_false fun z => nomatch z
section
variable {P : Program} {w : World} {K : PySem.W.Frag} {mg : Str → Option Value} {base : Heap}
theorem ok_checkS {f fK C : Addr} {fd fdK : FuncData} (F : Fun K "check_string" "check_string" sCheckString f fd) (FK : Fun K "kind_of" "kind_of" sKind fK fdK) (bK : Binds K fdK ["value"] []) (gK : mg "kind_of" = some (.ref fK)) (TK : TxtK mg)
    (hsu : mg "super" = none) (IE : EK P K mg "ParseError" "text" C) : FnOk P w K mg base (L2.CX P w) 4 f fd ["text"] (spCheckS C) := by
  have GK : FnOk P w K mg base CX0 1 fK fdK ["value"] spKind := ok_kind FK TK
  obtain ⟨bm0, B, newId, initId, bmB, TE⟩ := IE.T
  refine F.okX scCheckS (fun vs H Q E h => ?_) (fun cdv A outer s H vs Q E hr h => ?_)
  · obtain ⟨t, v, rfl, _⟩ := h
    rfl
  · obtain ⟨t, v, rfl, ht, q, qe⟩ := h
    refine ⟨_, pss_one (ps_if (pt_cmpR op_ne (pe_call GK (hr.mono (by decide)) rfl gK FK.kp bK .nil pass0 (pa_cons (pv 0) pa_nil)) pe_str (nomark _))
      (pss_one (ps_raise rfl (takes_of rfl rfl rfl rfl) (pmk_nw TE (hr.mono (by decide)) hsu IE.g IE.k IE.ex IE.ty rfl (pv 0)))) pss_nil), ?_⟩
    refine ⟨_, rfl, t, v, rfl, ht, rfl, _, rfl, ?_⟩
    rw [kindS_text]
    cases hb : isStrT t with
    | true => exact iteF (q hb)
    | false => exact iteT ⟨_, rfl, fun d hd => (qe hb).new hd⟩
theorem ok_format {f fI fT C : Addr} {fd fdI fdT : FuncData} (F : Fun K "format_value" "format_value" sFormatValue f fd)
    (FI : Fun K "is_value" "is_value" sIsValue fI fdI) (bI : Binds K fdI ["value"] []) (gI : mg "is_value" = some (.ref fI)) (GI : FnOk P w K mg base CX0 5 fI fdI ["value"] spVal)
    (FT : Fun K "text_of_value" "text_of_value" sTextOf fT fdT) (bT : Binds K fdT ["value"] []) (gT : mg "text_of_value" = some (.ref fT)) (GT : ∀ n, FnOk P w K mg base CX0 (n + 2) fT fdT ["value"] (spTx n))
    (hsu : mg "super" = none) (IE : EK P K mg "InvalidState" "value" C) : FnOk P w K mg base (L2.CX P w) 9 f fd ["value"] (spFormat C) := by
  obtain ⟨bm0, B, newId, initId, bmB, TE⟩ := IE.T
  refine F.okX scFormat (fun vs H Q E h => ?_) (fun cdv A outer s H vs Q E hr h => ?_)
  · obtain ⟨t, v, rfl, _⟩ := h
    rfl
  · obtain ⟨t, v, rfl, ht, hs, q, qe⟩ := h
    refine ⟨_, pss_cons (ps_if (pt_not (pt_val (pe_call GI (hr.mono (by decide)) rfl gI FI.kp bI .nil pass0 (pa_cons (pv 0) pa_nil))))
        (pss_one (ps_raise rfl (takes_of rfl rfl rfl rfl) (pmk_nw TE (hr.mono (by decide)) hsu IE.g IE.k IE.ex IE.ty rfl (pv 0)))) pss_nil)
      (pss_one (ps_ret (pe_call (GT 6) hr rfl gT FT.kp bT .nil pass0 (pa_cons (pv 0) pa_nil)))), ?_⟩
    refine ⟨_, rfl, t, v, rfl, ht, hs, fun H1 s1 => ⟨_, rfl, ?_⟩⟩
    cases hb : isVal t with
    | false => exact iteT ⟨_, rfl, fun d hd => ((qe hb).same s1).new hd⟩
    | true =>
      have hg := hb
      rw [val_eq, Bool.and_eq_true] at hg
      exact iteF ⟨_, rfl, t, v, rfl, Th.same s1 _ _ ht, hg.1, by have := of_decide_eq_true hg.2; omega, fun H2 s2 => q hb H2 (s1.trans s2)⟩
theorem ok_parse {f fC fR C : Addr} {fd fdC fdR : FuncData} (F : Fun K "parse_value" "parse_value" sParseValue f fd)
    (FC : Fun K "check_string" "check_string" sCheckString fC fdC) (bC : Binds K fdC ["text"] []) (gC : mg "check_string" = some (.ref fC)) (GC : FnOk P w K mg base (L2.CX P w) 4 fC fdC ["text"] (spCheckS C))
    (FR : Fun K "read_value" "read_value" sReadValue fR fdR) (bR : Binds K fdR ["text"] []) (gR : mg "read_value" = some (.ref fR)) (GR : FnOk P w K mg base CX0 35 fR fdR ["text"] spRead)
    (hsu : mg "super" = none) (IE : EK P K mg "ParseError" "text" C) : FnOk P w K mg base (L2.CX P w) 36 f fd ["text"] (spParse C) := by
  obtain ⟨bm0, B, newId, initId, bmB, TE⟩ := IE.T
  refine F.okX scParse (fun vs H Q E h => ?_) (fun cdv A outer s H vs Q E hr h => ?_)
  · obtain ⟨t, v, rfl, _⟩ := h
    rfl
  · obtain ⟨t, v, rfl, ht, hl, q, qe⟩ := h
    have ND := scParse.nd
    refine ⟨_, pss_cons (ps_expr (pe_call (E := E) GC (hr.mono (by decide)) rfl gC FC.kp bC .nil (passes_call (takes_of rfl rfl rfl rfl) (fun _ _ _ _ h => h)) (pa_cons (pv 0) pa_nil)))
      (pss_cons (ps_set (i := 1) ND rfl (.inl rfl) (pe_call GR hr rfl gR FR.kp bR .nil pass0 (pa_cons (pv 0) pa_nil)))
      (pss_cons (ps_if (pt_cmpR op_isN (pv 1) pe_non (nomark _)) (pss_one (ps_raise rfl (takes_of rfl rfl rfl rfl) (pmk_nw TE (hr.mono (by decide)) hsu IE.g IE.k IE.ex IE.ty rfl (pv 0)))) pss_nil)
      (pss_one (ps_ret (pv 1))))), ?_⟩
    refine ⟨_, rfl, t, v, rfl, ht, fun hb => ?_, fun hb => qe (by cases t <;> first | rfl | (simp [isStrT] at hb))⟩
    cases t with
    | str x =>
      simp only [Th] at ht
      subst ht
      simp only [lenT] at hl
      refine ⟨_, rfl, x, rfl, hl, fun H1 u s1 hu => ?_⟩
      refine ⟨_, rfl, rfl, _, rfl, ?_⟩
      rw [isN_th (K := K) hu]
      simp only [readT] at q qe
      cases hn : isNonT (readF x) with
      | true => exact iteT ⟨_, rfl, fun d hd => ((qe hn).same s1).new hd⟩
      | false => exact iteF ⟨_, rfl, q hn H1 u s1 hu⟩
    | _ => simp [isStrT] at hb
end
end My
namespace My
open PySem PySem.Spec PyProof.Rows L2 TW
/-! ### there and back -/
abbrev mkS (l : List Nat) : Str := ⟨l.toArray⟩
theorem mk_list (x : Str) : mkS x.cps.toList = x := TL.ext_tl (by simp [mkS, TL.tl])
theorem list_mk (l : List Nat) : (mkS l).cps.toList = l := by simp [mkS]
def txL (t : T) : List Nat := (txF t).cps.toList
def tkT : T → List (List Nat)
  | .tup ts => [91] :: (tkAll ts ++ [[93]])
  | t => [txL t]
where tkAll : List T → List (List Nat)
  | [] => []
  | t :: ts => tkT t ++ tkAll ts
def ndT : T → Nd
  | .tup ts => .b "[" (ndAllT ts)
  | t => .w (txF t)
where ndAllT : List T → List Nd
  | [] => []
  | t :: ts => ndT t :: ndAllT ts
def sepL : List Nat → Prop
  | [] => True
  | c :: _ => c = 32 ∨ c ∈ brL
def wordL (w : List Nat) : Prop := w ≠ [] ∧ ∀ c ∈ w, c ≠ 32 ∧ c ∉ brL
theorem tok_app : ∀ (w cur r : List Nat), (∀ c ∈ w, c ≠ 32 ∧ c ∉ brL) → tokL cur (w ++ r) = tokL (cur ++ w) r
  | [], cur, r, _ => by rw [List.nil_append, List.append_nil]
  | a :: w, cur, r, h => by
    obtain ⟨h1, h2⟩ := h a List.mem_cons_self
    rw [List.cons_append, tokL, if_neg h1, if_neg h2, tok_app w _ r fun c hc => h c (List.mem_cons_of_mem _ hc)]
    simp
theorem tok_blank (r : List Nat) : tokL [] (32 :: r) = tokL [] r := by
  rw [tokL, if_pos rfl]
  rfl
theorem tok_br {b : Nat} (hb : b ∈ brL) (r : List Nat) : tokL [] (b :: r) = [b] :: tokL [] r := by
  have h : b ≠ 32 := fun z => by rw [z] at hb; exact absurd hb (by decide)
  rw [tokL, if_neg h, if_pos hb]
  rfl
theorem tok_word1 {w r : List Nat} (hw : wordL w) (hr : sepL r) : tokL [] (w ++ r) = w :: tokL [] r := by
  rw [tok_app w [] r hw.2, List.nil_append]
  have hf : fl w = [w] := by
    unfold fl
    rw [if_neg hw.1]
  cases r with
  | nil =>
    show fl w = w :: fl []
    rw [hf]
    rfl
  | cons c r =>
    rcases hr with rfl | hb
    · rw [tok_blank, tokL, if_pos rfl, hf]
      rfl
    · have h : c ≠ 32 := fun z => by rw [z] at hb; exact absurd hb (by decide)
      rw [tok_br hb, tokL, if_neg h, if_pos hb, hf]
      rfl
theorem num_range {n c : Nat} (h : c ∈ TL.numL n) : 48 ≤ c ∧ c ≤ 57 := TL.numL_digits n c h
theorem brL_not {c : Nat} (h : (48 ≤ c ∧ c ≤ 57) ∨ c = 45 ∨ c = 39 ∨ (97 ≤ c ∧ c ≤ 122)) : c ≠ 32 ∧ c ∉ brL := by
  constructor
  · omega
  · intro z
    simp only [brL, List.mem_cons, List.not_mem_nil, or_false] at z
    omega
theorem intC_word (i : Int) : wordL (intC i) := by
  unfold intC
  split
  · refine ⟨by simp, fun c hc => brL_not ?_⟩
    rcases List.mem_cons.mp hc with z | z
    · exact .inr (.inl z)
    · exact .inl (num_range z)
  · exact ⟨TL.numL_ne _, fun c hc => brL_not (.inl (num_range hc))⟩
theorem textS_mem {x : Str} (h : textS x = true) : x.length ≤ 60 ∧ ∀ c ∈ x.cps.toList, c ∈ ldS.cps.toList := by
  simp only [textS, Bool.and_eq_true, Bool.not_eq_true', decide_eq_false_iff_not] at h
  refine ⟨by omega, ?_⟩
  have h2 := h.2
  rw [onlyS_eq] at h2
  unfold offS at h2
  rw [List.isEmpty_iff, List.filter_eq_nil_iff] at h2
  intro c hc
  simpa using h2 c hc
theorem ld_range {c : Nat} (h : c ∈ ldS.cps.toList) : (48 ≤ c ∧ c ≤ 57) ∨ (97 ≤ c ∧ c ≤ 122) := by
  have : ∀ c ∈ ldS.cps.toList, (48 ≤ c ∧ c ≤ 57) ∨ (97 ≤ c ∧ c ≤ 122) := by decide +kernel
  exact this c h
theorem quote_list : ("'" : Str).cps.toList = [39] ∧ ("[" : Str).cps.toList = [91] ∧ ("]" : Str).cps.toList = [93] := by decide +kernel
theorem app_list (x y : Str) : (x ++ y).cps.toList = x.cps.toList ++ y.cps.toList := TL.tl_append x y
theorem txL_str (x : Str) : txL (.str x) = 39 :: x.cps.toList := by
  unfold txL
  simp only [txF]
  rw [app_list, quote_list.1]
  rfl
theorem txL_int (i : Int) : txL (.int i) = intC i := by
  unfold txL
  simp only [txF]
  exact int_list i
theorem txL_tup (ts : List T) : txL (.tup ts) = 91 :: (TL.joinL [32] (ts.map txL) ++ [93]) := by
  unfold txL
  simp only [txF]
  rw [app_list, app_list, quote_list.2.1, quote_list.2.2, txAll_map, TL.join_eq]
  have h : (Str.join " " (ts.map txF)).cps.toList = TL.joinL [32] ((ts.map txF).map TL.tl) := by
    rw [show ([32] : List Nat) = TL.tl (" " : Str) from blank_list.symm]
    exact TL.tl_join " " _
  rw [h, List.map_map]
  rfl
theorem plain_word {t : T} (h : isPlain t = true) : wordL (txL t) := by
  cases t with
  | int i =>
    rw [txL_int]
    exact intC_word i
  | str x =>
    have hx := textS_mem h
    rw [txL_str]
    refine ⟨by simp, fun c hc => brL_not ?_⟩
    rcases List.mem_cons.mp hc with z | z
    · exact .inr (.inr (.inl z))
    · rcases ld_range (hx.2 c z) with q | q
      · exact .inl q
      · exact .inr (.inr (.inr q))
  | _ => simp [isPlain] at h
theorem lval_plain {n : Nat} {t : T} (h : lval n t = true) (ht : isTupT t = false) : isPlain t = true := by
  rw [plain_eq ht] at h
  exact h
theorem tok_tree : ∀ (n : Nat) (t : T), lval n t = true → ∀ r, sepL r → tokL [] (txL t ++ r) = tkT t ++ tokL [] r
  | 0, .tup ts, h, _, _ => by simp [lval] at h
  | n + 1, .tup ts, h, r, hr => by
    simp only [lval, Bool.and_eq_true] at h
    have hk := List.all_eq_true.mp h.2
    have items : ∀ us : List T, (∀ u ∈ us, lval n u = true) → tokL [] (TL.joinL [32] (us.map txL) ++ 93 :: r) = tkT.tkAll us ++ tokL [] (93 :: r) := by
      intro us
      induction us with
      | nil => intro _; rfl
      | cons u us ih =>
        intro hu
        have h1 := tok_tree n u (hu u List.mem_cons_self)
        cases us with
        | nil =>
          simp only [List.map_cons, List.map_nil, TL.joinL, tkT.tkAll, List.append_nil]
          exact h1 _ (.inr (by decide))
        | cons v us =>
          have h2 := ih fun w hw => hu w (List.mem_cons_of_mem _ hw)
          simp only [List.map_cons, TL.joinL, tkT.tkAll] at h2 ⊢
          have s32 : ∀ l, sepL ([32] ++ l) := fun l => Or.inl rfl
          rw [List.append_assoc, List.append_assoc, h1 _ (s32 _)]
          show tkT u ++ tokL [] (32 :: (TL.joinL [32] (txL v :: us.map txL) ++ 93 :: r)) = _
          rw [tok_blank, h2]
          simp
    rw [txL_tup, List.cons_append, tok_br (by decide), List.append_assoc]
    show [91] :: tokL [] (TL.joinL [32] (ts.map txL) ++ 93 :: r) = _
    rw [items ts hk, tok_br (by decide)]
    simp [tkT]
  | n, .int i, h, r, hr => tok_word1 (plain_word (lval_plain h rfl)) hr
  | n, .str x, h, r, hr => tok_word1 (plain_word (lval_plain h rfl)) hr
  | n, .non, h, _, _ => by have := lval_plain h rfl; simp [isPlain] at this
  | n, .bl b, h, _, _ => by have := lval_plain h rfl; simp [isPlain] at this
  | n, .oth d, h, _, _ => by have := lval_plain h rfl; simp [isPlain] at this
theorem words_tree {n : Nat} {t : T} (h : lval n t = true) : wordsF (txF t) = (tkT t).map mkS := by
  have e := words_list (txF t)
  have h2 := tok_tree n t h [] True.intro
  rw [List.append_nil] at h2
  rw [show (txF t).cps.toList = txL t from rfl, h2] at e
  have e2 : tkT t ++ tokL [] [] = tkT t := by
    show tkT t ++ fl [] = _
    simp [fl]
  rw [e2] at e
  rw [← e, List.map_map]
  have : ∀ ws : List Str, ws = ws.map (mkS ∘ fun w => w.cps.toList) := fun ws => by
    induction ws with
    | nil => rfl
    | cons w ws ih =>
      rw [List.map_cons, ← ih]
      congr 1
  exact this _
theorem nodesF_cons (x : Str) (xs : List Str) (ns : List Nd) (un : List (Str × List Nd)) : nodesF (x :: xs) ns un = if x ∈ opS then (if un.length + 1 = 30 then [] else nodesF xs [] ((x, ns) :: un))
    else if x ∈ clS then (match un with
      | [] => []
      | (o, bs) :: un' => if un'.length = 30 then [] else nodesF xs (bs ++ [.b o ns]) un')
    else if un.length = 30 then [] else nodesF xs (ns ++ [.w x]) un := rfl
/-! ### the nodes of such a text -/
theorem opS_list {x : Str} (h : x ∈ opS ∨ x ∈ clS) : ∃ b, b ∈ brL ∧ x.cps.toList = [b] := by
  have : ∀ x ∈ opS ++ clS, ∃ b, b ∈ brL ∧ x.cps.toList = [b] := by
    intro x hx
    simp only [opS, clS, List.cons_append, List.nil_append, List.mem_cons, List.not_mem_nil, or_false] at hx
    rcases hx with h | h | h | h | h | h
    · exact ⟨40, by decide, by rw [h]; decide +kernel⟩
    · exact ⟨91, by decide, by rw [h]; decide +kernel⟩
    · exact ⟨123, by decide, by rw [h]; decide +kernel⟩
    · exact ⟨41, by decide, by rw [h]; decide +kernel⟩
    · exact ⟨93, by decide, by rw [h]; decide +kernel⟩
    · exact ⟨125, by decide, by rw [h]; decide +kernel⟩
  exact this x (List.mem_append.mpr h)
theorem word_not {w : List Nat} (h : wordL w) : mkS w ∉ opS ∧ mkS w ∉ clS := by
  constructor
  · intro z
    obtain ⟨b, hb, e⟩ := opS_list (.inl z)
    rw [list_mk] at e
    exact (h.2 b (by rw [e]; exact List.mem_cons_self)).2 hb
  · intro z
    obtain ⟨b, hb, e⟩ := opS_list (.inr z)
    rw [list_mk] at e
    exact (h.2 b (by rw [e]; exact List.mem_cons_self)).2 hb
theorem br_eqs : mkS [91] = "[" ∧ mkS [93] = "]" ∧ ("[" : Str) ∈ opS ∧ ("]" : Str) ∉ opS ∧ ("]" : Str) ∈ clS := by decide +kernel
theorem nodes_tree : ∀ (n : Nat) (t : T), lval n t = true → ∀ (rest : List Str) (ns : List Nd) (un : List (Str × List Nd)), un.length + n < 30 → nodesF ((tkT t).map mkS ++ rest) ns un = nodesF rest (ns ++ [ndT t]) un
  | 0, .tup ts, h, _, _, _, _ => by simp [lval] at h
  | n + 1, .tup ts, h, rest, ns, un, hu => by
    simp only [lval, Bool.and_eq_true] at h
    have hk := List.all_eq_true.mp h.2
    have items : ∀ (us : List T), (∀ u ∈ us, lval n u = true) → ∀ (rest : List Str) (ns : List Nd) (un : List (Str × List Nd)), un.length + n < 30 → nodesF ((tkT.tkAll us).map mkS ++ rest) ns un = nodesF rest (ns ++ ndT.ndAllT us) un := by
      intro us
      induction us with
      | nil =>
        intro _ rest ns un _
        simp [tkT.tkAll, ndT.ndAllT]
      | cons u us ih =>
        intro hu rest ns un hn
        simp only [tkT.tkAll, ndT.ndAllT]
        rw [List.map_append, List.append_assoc, nodes_tree n u (hu u List.mem_cons_self) _ _ _ hn, ih (fun w hw => hu w (List.mem_cons_of_mem _ hw)) _ _ _ hn, List.append_assoc]
        rfl
    simp only [tkT, ndT, List.map_cons, List.map_append, List.map_nil, List.cons_append, List.append_assoc, List.nil_append]
    rw [br_eqs.1, br_eqs.2.1]
    rw [nodesF_cons, if_pos br_eqs.2.2.1, if_neg (by omega), items ts hk _ _ _ (by simp only [List.length_cons]; omega)]
    rw [List.nil_append, nodesF_cons, if_neg br_eqs.2.2.2.1, if_pos br_eqs.2.2.2.2]
    dsimp only
    rw [if_neg (by omega)]
  | n, .int i, h, rest, ns, un, hu => by
    obtain ⟨h1, h2⟩ := word_not (plain_word (lval_plain h rfl))
    show nodesF (mkS (txL (.int i)) :: rest) ns un = _
    rw [nodesF_cons, if_neg h1, if_neg h2, if_neg (by omega)]
    rw [show mkS (txL (.int i)) = txF (.int i) from mk_list _]
    simp only [ndT]
  | n, .str x, h, rest, ns, un, hu => by
    obtain ⟨h1, h2⟩ := word_not (plain_word (lval_plain h rfl))
    show nodesF (mkS (txL (.str x)) :: rest) ns un = _
    rw [nodesF_cons, if_neg h1, if_neg h2, if_neg (by omega)]
    rw [show mkS (txL (.str x)) = txF (.str x) from mk_list _]
    simp only [ndT]
  | n, .non, h, _, _, _, _ => by have := lval_plain h rfl; simp [isPlain] at this
  | n, .bl b, h, _, _, _, _ => by have := lval_plain h rfl; simp [isPlain] at this
  | n, .oth d, h, _, _, _, _ => by have := lval_plain h rfl; simp [isPlain] at this
/-! ### their values -/
theorem word_of_str (x : Str) : wordF (txF (.str x)) = .str x := by
  have e : (txF (.str x)).cps.toList = 39 :: x.cps.toList := txL_str x
  unfold wordF
  rw [if_pos (by unfold hd; rw [e]; rfl)]
  congr 1
  unfold cut1
  rw [e]
  exact mk_list x
theorem word_of_int {i : Int} (h : isPlain (.int i) = true) : wordF (txF (.int i)) = .int i := by
  have e : (txF (.int i)).cps.toList = intC i := txL_int i
  simp only [isPlain, Bool.and_eq_true, decide_eq_true_eq] at h
  have hn : i.natAbs < 10 ^ 60 := by omega
  have hlen := TL.numL_len (n := i.natAbs) (k := 60) (by decide) hn
  have hdig : isDigs (TL.numL i.natAbs) = true := all_digs (TL.numL_digits _)
  have hne := TL.numL_ne i.natAbs
  have good : ∀ d : Str, d.cps.toList = TL.numL i.natAbs → badD d = false := fun d hd' => by
    unfold badD
    rw [onlyS_digits, hd', hdig, decide_eq_false (show ¬ d = "" from fun z => hne (by rw [← hd']; exact empty_list.mp z)), decide_eq_false (show ¬ (60 : Int) < (d.length : Int) by rw [str_len, hd']; omega)]
    rfl
  have hh : (intC i).head? ≠ some 39 := by
    intro z
    unfold intC at z
    split at z
    · cases z
    · have : 39 ∈ TL.numL i.natAbs := List.mem_of_mem_head? z
      have := num_range this
      omega
  have h39 : hd (txF (.int i)) 39 = false := by
    unfold hd
    rw [e]
    exact decide_eq_false hh
  unfold wordF
  rw [h39, if_neg Bool.false_ne_true]
  have key : badD (digP (txF (.int i))) = false ∧ intL (txF (.int i)).cps.toList = i := by
    rw [e]
    by_cases hneg : i < 0
    · have ec : intC i = 45 :: TL.numL i.natAbs := by
        unfold intC
        rw [if_pos hneg]
      have h45 : hd (txF (.int i)) 45 = true := by
        unfold hd
        rw [e, ec]
        rfl
      refine ⟨good _ ?_, ?_⟩
      · unfold digP
        rw [if_pos h45, cut1_list, e, ec]
        rfl
      · rw [ec]
        show -((NumText.digitsVal (TL.numL i.natAbs) : Nat) : Int) = i
        rw [TL.numL_val]
        omega
    · have ec : intC i = TL.numL i.natAbs := by
        unfold intC
        rw [if_neg hneg]
      have hh45 : (TL.numL i.natAbs).head? ≠ some 45 := fun z => by
        have := num_range (List.mem_of_mem_head? z)
        omega
      have h45 : hd (txF (.int i)) 45 = false := by
        unfold hd
        rw [e, ec]
        exact decide_eq_false hh45
      refine ⟨good _ ?_, ?_⟩
      · unfold digP
        rw [if_neg (by rw [h45]; exact Bool.false_ne_true), e, ec]
      · rw [ec]
        have : intL (TL.numL i.natAbs) = ((NumText.digitsVal (TL.numL i.natAbs) : Nat) : Int) := by
          cases hl : TL.numL i.natAbs with
          | nil => rfl
          | cons a l =>
            rw [hl] at hh45
            unfold intL
            split
            · rename_i q
              cases q
              exact absurd rfl hh45
            · rfl
        rw [this, TL.numL_val]
        omega
  rw [if_neg (by rw [key.1]; exact Bool.false_ne_true), key.2]
theorem val_tree : ∀ (n : Nat) (t : T), lval n t = true → valF (ndT t) = t
  | 0, .tup ts, h => by simp [lval] at h
  | n + 1, .tup ts, h => by
    simp only [lval, Bool.and_eq_true] at h
    have hk := List.all_eq_true.mp h.2
    have items : ∀ us : List T, (∀ u ∈ us, lval n u = true) → valAll (ndT.ndAllT us) = us := by
      intro us
      induction us with
      | nil => intro _; rfl
      | cons u us ih =>
        intro hu
        simp only [ndT.ndAllT, valAll]
        rw [val_tree n u (hu u List.mem_cons_self), ih fun w hw => hu w (List.mem_cons_of_mem _ hw)]
    simp only [ndT, valF]
    simp only [if_true]
    rw [items ts hk]
  | n, .int i, h => by
    simp only [ndT, valF]
    exact word_of_int (lval_plain h rfl)
  | n, .str x, h => by
    simp only [ndT, valF]
    exact word_of_str x
  | n, .non, h => by have := lval_plain h rfl; simp [isPlain] at this
  | n, .bl b, h => by have := lval_plain h rfl; simp [isPlain] at this
  | n, .oth d, h => by have := lval_plain h rfl; simp [isPlain] at this
theorem read_tx {n : Nat} {t : T} (hn : n < 30) (h : lval n t = true) : readF (txF t) = if isVal t = true then t else .non := by
  unfold readF
  rw [words_tree h]
  have e := nodes_tree n t h [] [] [] (by simpa using hn)
  rw [List.append_nil] at e
  rw [e]
  show (match [ndT t] with
    | [n] => if isVal (valF n) && decide (txF (valF n) = txF t) then valF n else .non
    | _ => .non) = _
  dsimp only
  rw [val_tree n t h, decide_eq_true rfl, Bool.and_true]
end My
namespace My
open PySem PySem.Spec PyProof.Rows L2 TW
/-! ### the law's own text of a value, and how many values -/
theorem scLText : FnScope ["_law_worth", "_law_item"] ["_law_worth"] (defScope sLText) := ⟨rfl, rfl, rfl, by decide +kernel, rfl, by decide +kernel, by decide +kernel⟩
theorem scLItems : FnScope ["_law_worth", "_law_item"] ["_law_worth"] (defScope sLItems) := ⟨rfl, rfl, rfl, by decide +kernel, rfl, by decide +kernel, by decide +kernel⟩
structure TxtL (mg : Str → Option Value) : Prop where
  isi : mg "isinstance" = none
  str : mg "str" = none
  tuple : mg "tuple" = none
  sum : mg "sum" = none
theorem th_noTup {K : PySem.W.Frag} {H : Hp} {t : T} {v : V} (hn : isTupT t = false) (ht : Th H t v) : ∃ n, TyOf K H v (.type n) ∧ kitB n "tuple" = some false := by
  cases t with
  | non => unfold Th at ht; subst ht; exact ⟨_, .non, by decide +kernel⟩
  | bl b => unfold Th at ht; subst ht; exact ⟨_, .bl b, by decide +kernel⟩
  | int i => unfold Th at ht; subst ht; exact ⟨_, .int i, by decide +kernel⟩
  | str x => unfold Th at ht; subst ht; exact ⟨_, .str x, by decide +kernel⟩
  | tup ts => exact absurd hn (by simp [isTupT])
  | oth d =>
    unfold Th at ht
    obtain ⟨a, rfl, e⟩ := ht
    cases d with
    | true => exact ⟨_, .dK e, by decide +kernel⟩
    | false =>
      obtain ⟨xs, e⟩ := e
      exact ⟨_, .lst e, by decide +kernel⟩
theorem cntAll_sum : ∀ ts : List T, (ts.map fun u => ((1 : Int) + (cnt u : Int))).sum = (cntAll ts : Int)
  | [] => rfl
  | t :: ts => by
    rw [List.map_cons, List.sum_cons, cntAll_sum ts]
    simp only [cntAll]
    omega
def spLI : Nat → Sp
  | 0 => fun vs _ _ _ => vs.length = 1 ∧ False
  | n + 1 => fun vs H Q _ => ∃ (t : T) (v : V), vs = [v] ∧ Th H t v ∧ lval n t = true ∧ ∀ H', Same H H' → Q (.int (cnt t)) H'
section
variable {P : Program} {w : World} {K : PySem.W.Frag} {mg : Str → Option Value} {base : Heap}
theorem ok_lText {f : Addr} {fd : FuncData} (F : Fun K "_law_text" "_law_text" sLText f fd) (bF : Binds K fd ["_law_worth"] []) (gF : mg "_law_text" = some (.ref f)) (TL : TxtL mg) :
    ∀ n : Nat, FnOk P w K mg base CX0 (n + 1) f fd ["_law_worth"] (spTx n) := by
  intro n
  induction n with
  | zero => exact F.ok scLText (fun vs H Q E h => h.1) (fun cdv A outer s H vs Q E hr h => h.2.elim)
  | succ n GR =>
    refine F.ok scLText (fun vs H Q E h => ?_) (fun cdv A outer s H vs Q E hr h => ?_)
    · obtain ⟨t, v, rfl, _⟩ := h
      rfl
    · obtain ⟨t, v, rfl, ht, hlv, hct, q⟩ := h
      have ND := scLText.nd
      refine ⟨_, pss_cons (ps_if (pt_val (pe_callB call_isi (by rfl) TL.isi PyProof.Rows.boot_isinstance (pa_cons (pv 0) (pa_cons (pe_bltn (v := .ty "str") (by rfl) TL.str (by decide +kernel) rfl) pa_nil)))) (pss_one (ps_ret (pe_op op_add_str pe_str (pv 0)))) pss_nil)
        (pss_cons (ps_if (pt_val (pe_callB call_isi (by rfl) TL.isi PyProof.Rows.boot_isinstance (pa_cons (pv 0) (pa_cons (pe_bltn (v := .ty "tuple") (by rfl) TL.tuple (by decide +kernel) rfl) pa_nil)))) (pss_one (ps_ret (pe_op op_add_str (pe_op op_add_str pe_str (pe_join pe_str
          (pe_lc (own := [("_law_item", 1)]) (g := gName 1) (tt := tYes) rfl ND (pi_tup (pv 0)) (blkOk_by (own := [("_law_item", 1)]) (N := ["_law_worth", "_law_item"]) (sc := defScope sLText) (by decide +kernel))
            (fun _ _ _ _ _ => pg_name (i := 1) ND rfl (Or.inl rfl)) (fun _ _ _ _ _ => pts_nil) (fun _ _ _ _ _ => pe_call GR hr rfl gF F.kp bF .nil pass0 (pa_cons (pv 1) pa_nil))))) pe_str))) pss_nil)
        (pss_one (ps_ret (pe_callTy call_str_int (by rfl) TL.str (by decide +kernel) (pa_cons (pv 0) pa_nil))))), ?_⟩
      have hpl : isTupT t = false → isPlain t = true := fun hb => lval_plain hlv hb
      cases t with
      | int i =>
        have hp := hpl rfl
        simp only [isPlain, Bool.and_eq_true, decide_eq_true_eq] at hp
        have hn : i.natAbs < 10 ^ 60 := by omega
        have hlog : i.natAbs.log2 < 1920 := by
          by_cases h0 : i.natAbs = 0
          · rw [h0]
            decide
          · rw [Nat.log2_lt h0]
            exact Nat.lt_of_lt_of_le hn (Nat.le_trans (show (10 : Nat) ^ 60 ≤ 2 ^ 200 by decide) (Nat.pow_le_pow_right (by decide) (by decide)))
        simp only [Th] at ht
        subst ht
        refine ⟨_, rfl, _, _, _, _, false, rfl, .ty "str", .base (.int i), kit_ty (by decide +kernel), _, rfl, iteF ?_⟩
        refine ⟨_, rfl, _, _, _, _, false, rfl, .ty "tuple", .base (.int i), kit_ty (by decide +kernel), _, rfl, iteF ?_⟩
        refine ⟨_, rfl, i, rfl, hlog, ?_⟩
        have q1 := q H (Same.refl H)
        simp only [txF] at q1
        exact q1
      | str x =>
        have hp := plain_len (hpl rfl)
        simp only [txF] at hp
        rw [app_len] at hp
        simp only [Th] at ht
        subst ht
        refine ⟨_, rfl, _, _, _, _, true, rfl, .ty "str", .base (.str x), kit_ty (by decide +kernel), _, rfl, iteT ?_⟩
        refine ⟨_, rfl, _, x, rfl, rfl, Nat.le_trans hp (by decide), ?_⟩
        have q1 := q H (Same.refl H)
        simp only [txF] at q1
        exact q1
      | tup ts =>
        obtain ⟨m, rfl, hl50, hkids⟩ := lval_kid hlv
        simp only [Th] at ht
        obtain ⟨a, xs, rfl, ha, hxl, hxs⟩ := ht
        have hlen := thAll_len hxs
        refine ⟨_, rfl, _, _, _, _, false, rfl, .ty "str", .base (.tup ha), kit_ty (by decide +kernel), _, rfl, iteF ?_⟩
        refine ⟨_, rfl, _, _, _, _, true, rfl, .ty "tuple", .base (.tup ha), kit_ty (by decide +kernel), _, rfl, iteT ?_⟩
        refine ⟨⟨_, rfl⟩, _, rfl, a, rfl, ⟨xs, SqT.of ha⟩, fun D nD => ?_⟩
        refine lc_tup (K := K) (a := a) (xs := xs) (fun j G => G D = some (.lst (((ts.take j).map txF).map V.str)) ∧ Same H G) ⟨upd_same, same_upd nD⟩ (fun j G _ ⟨_, s2⟩ => SqT.of (s2 _ _ ha)) (fun j y G hy ⟨hD, s2⟩ => ?_) (fun G ⟨hD, s2⟩ => ?_)
        · have hj : j < ts.length := by
            have := (List.getElem?_eq_some_iff.mp hy).1
            omega
          obtain ⟨u, y', e1, e2, hu⟩ := thAll_get hxs hj
          have ey : y' = y := Option.some.inj (e2.symm.trans hy)
          subst ey
          have hmem : u ∈ ts := List.mem_of_getElem? e1
          have hcu := cnt_mem hmem
          simp only [cnt] at hct
          refine ⟨rfl, tYes_if ?_⟩
          refine ⟨_, rfl, u, y', rfl, Th.same s2 _ _ hu, hkids u hmem, by omega, fun H' sm => ⟨_, sm _ _ hD, smallB ?_, ?_, fun b o e => ?_⟩⟩
          · rw [List.length_map, List.length_map, List.length_take]
            omega
          · rw [upd_same, List.take_add_one, e1]
            simp
          · rw [upd_ne (ne_of_none e nD)]
            exact sm _ _ (s2 _ _ e)
        · rw [← hlen, List.take_length] at hD
          simp only [cnt] at hct
          have hs := tx_len_all fun u hu => tx_len m u (hkids u hu)
          have hb : (" " : Str).length = 1 := by decide +kernel
          have hjl := join_len (ts.map txF)
          have hjs := sum_plus (ts.map txF)
          rw [List.length_map] at hjs
          refine ⟨_, D, ts.map txF, rfl, rfl, .inl (.inl (.inl hD)), ?_, ?_⟩
          · rw [List.length_map, hb]
            omega
          · refine ⟨_, _, rfl, rfl, ?_, _, _, rfl, rfl, ?_, ?_⟩
            · rw [one_len.1]
              show _ ≤ 16777216
              omega
            · rw [app_len, one_len.1, one_len.2]
              show _ ≤ 16777216
              omega
            · have q1 := q G s2
              simp only [txF] at q1
              rw [txAll_map] at q1
              exact q1
      | non => exact absurd (hpl rfl) (by simp [isPlain])
      | bl b => exact absurd (hpl rfl) (by simp [isPlain])
      | oth d => exact absurd (hpl rfl) (by simp [isPlain])
theorem ok_lItems {f : Addr} {fd : FuncData} (F : Fun K "_law_items" "_law_items" sLItems f fd) (bF : Binds K fd ["_law_worth"] []) (gF : mg "_law_items" = some (.ref f)) (TL : TxtL mg) :
    ∀ n : Nat, FnOk P w K mg base CX0 (n + 1) f fd ["_law_worth"] (spLI n) := by
  intro n
  induction n with
  | zero => exact F.ok scLItems (fun vs H Q E h => h.1) (fun cdv A outer s H vs Q E hr h => h.2.elim)
  | succ n GR =>
    refine F.ok scLItems (fun vs H Q E h => ?_) (fun cdv A outer s H vs Q E hr h => ?_)
    · obtain ⟨t, v, rfl, _⟩ := h
      rfl
    · obtain ⟨t, v, rfl, ht, hlv, q⟩ := h
      have ND := scLItems.nd
      refine ⟨_, pss_one (ps_ret (pe_ifExp (pt_val (pe_callB call_isi (by rfl) TL.isi PyProof.Rows.boot_isinstance (pa_cons (pv 0) (pa_cons (pe_bltn (v := .ty "tuple") (by rfl) TL.tuple (by decide +kernel) rfl) pa_nil))))
        (pe_callB (cr_sum rfl) (by rfl) TL.sum (by decide +kernel) (pa_cons
          (pe_lc (own := [("_law_item", 1)]) (g := gName 1) (tt := tYes) rfl ND (pi_tup (pv 0)) (blkOk_by (own := [("_law_item", 1)]) (N := ["_law_worth", "_law_item"]) (sc := defScope sLItems) (by decide +kernel))
            (fun _ _ _ _ _ => pg_name (i := 1) ND rfl (Or.inl rfl)) (fun _ _ _ _ _ => pts_nil) (fun _ _ _ _ _ => pe_op op_add pe_int (pe_call GR hr rfl gF F.kp bF .nil pass0 (pa_cons (pv 1) pa_nil)))) pa_nil)) pe_int)), ?_⟩
      cases hT : isTupT t with
      | false =>
        obtain ⟨tn, ty, hk⟩ := th_noTup (K := K) hT ht
        refine ⟨_, rfl, _, _, _, _, false, rfl, .ty "tuple", .base ty, kit_ty hk, _, rfl, ?_⟩
        have q1 := q H (Same.refl _)
        rw [cnt_noTup hT] at q1
        exact iteF q1
      | true =>
        obtain ⟨a, xs, rfl, ha, hxl, hall⟩ := th_tup hT ht
        rw [tup_of hT] at hlv q
        generalize kids t = ts at hlv q hall
        have lts := thAll_len hall
        obtain ⟨m, rfl, hl50, hkids⟩ := lval_kid hlv
        refine ⟨_, rfl, _, _, _, _, true, rfl, .ty "tuple", .base (.tup ha), kit_ty (by decide +kernel), _, rfl, ?_⟩
        refine iteT ?_
        refine ⟨_, rfl, a, rfl, ⟨xs, .inl (.inl ha)⟩, fun D nD => ?_⟩
        refine lc_tup (K := K) (a := a) (xs := xs) (fun i G => G D = some (.lst (((ts.take i).map fun u => ((1 : Int) + (cnt u : Int))).map V.int)) ∧ Same H G)
          ⟨upd_same, same_upd nD⟩ (fun i G _ ⟨_, sm⟩ => .inl (.inl (sm _ _ ha))) (fun i x G hx ⟨hD, sm⟩ => ?_) (fun G ⟨hD, sm⟩ => ?_)
        · have hi : i < ts.length := by
            have := (List.getElem?_eq_some_iff.mp hx).1
            omega
          obtain ⟨u, x', e1, e2, hu⟩ := thAll_get hall hi
          have ex : x' = x := Option.some.inj (e2.symm.trans hx)
          subst ex
          have hmem := List.mem_of_getElem? e1
          refine ⟨rfl, tYes_if ?_⟩
          refine ⟨_, rfl, u, x', rfl, Th.same sm _ _ hu, hkids u hmem, fun G2 s2 => ?_⟩
          refine ⟨_, _, rfl, rfl, _, s2 _ _ hD, smallB ?_, ?_, fun o w eo => ?_⟩
          · rw [List.length_map, List.length_map, List.length_take]
            omega
          · rw [upd_same, List.take_add_one, e1]
            simp
          · rw [upd_ne (ne_of_none eo nD)]
            exact s2 _ _ (sm _ _ eo)
        · refine ⟨D, _, rfl, .inl (.inl hD), ?_⟩
          rw [List.take_of_length_le (by omega), cntAll_sum]
          have q1 := q G sm
          simp only [cnt] at q1
          exact q1
end
end My
namespace My
open PySem PySem.Spec PyProof.Rows L2 TW
/-! ### the law's values -/
theorem scRandom : FnScope ["_law_pool_here", "_law_levels", "_law_choice", "_law_signs", "_law_many", "_law_turn"] ["_law_pool_here", "_law_levels"] (defScope sRandom) := ⟨rfl, rfl, rfl, by decide +kernel, rfl, by decide +kernel, by decide +kernel⟩
structure TxtR (mg : Str → Option Value) : Prop where
  range : mg "range" = none
  tuple : mg "tuple" = none
def capN : Nat → Nat
  | 0 => 0
  | 1 => 50
  | n + 2 => 3 * (1 + capN (n + 1))
theorem pool_upd {H : Hp} {p : Addr} {g m : Int} (h1 : 0 ≤ g) (h2 : 0 ≤ m) (h3 : m < 2147483647) : PoolAt (upd H p (.lst [.int g, .int m])) p := ⟨g, m, upd_same, h1, h2, h3⟩
theorem PoolAt.ne {H : Hp} {p a : Addr} (h : PoolAt H p) (n : H a = none) : a ≠ p := by
  obtain ⟨_, _, ep, _⟩ := h
  exact (ne_of_none ep n).symm
theorem off_same {p : Addr} {H H1 H2 : Hp} (a : Off p H H1) (s : Same H1 H2) : Off p H H2 := a.trans (Off.of_same s)
theorem lval_leaf {n : Nat} {t : T} (h : isPlain t = true) (ht : isTupT t = false) : lval n t = true := by
  rw [plain_eq ht]
  exact h
theorem join_signs (cs : List Nat) : Txt.join "" (cs.map fun c => (⟨#[c]⟩ : Str)) = mkS cs := by
  rw [TL.join_eq]
  apply TL.ext_tl
  rw [TL.tl_join, show TL.tl ("" : Str) = [] from by decide +kernel, List.map_map, show TL.tl (mkS cs) = cs from list_mk cs]
  induction cs with
  | nil => rfl
  | cons c cs ih =>
    cases cs with
    | nil => rfl
    | cons d cs =>
      simp only [List.map_cons, TL.joinL] at ih ⊢
      rw [ih]
      rfl
theorem text_of_signs {cs : List Nat} (h : cs.length ≤ 60) (h2 : ∀ c ∈ cs, c ∈ ldS.cps.toList) : isPlain (.str (mkS cs)) = true := by
  simp only [isPlain, textS, Bool.and_eq_true, Bool.not_eq_true', decide_eq_false_iff_not]
  refine ⟨by rw [str_len, list_mk]; omega, ?_⟩
  rw [onlyS_eq]
  unfold offS
  rw [List.isEmpty_iff, List.filter_eq_nil_iff, list_mk]
  intro c hc
  simpa using h2 c hc
theorem signs_ld : ∀ c ∈ ("abcz0189" : Str).cps.toList, c ∈ ldS.cps.toList := by decide +kernel
theorem signs_len : ("abcz0189" : Str).cps.toList.length = 8 := by decide +kernel
def spRV : Nat → Sp
  | 0 => fun vs _ _ _ => vs.length = 2 ∧ False
  | n + 1 => fun vs H Q _ => ∃ (p : Addr), vs = [.ref p, .int n] ∧ PoolAt H p ∧ ∀ (t : T) (v : V) (H' : Hp), lval n t = true → cnt t ≤ capN n → Th H' t v → Off p H H' → PoolAt H' p → Q v H'
theorem cntAll_le {ts : List T} {k : Nat} (h : ∀ t ∈ ts, cnt t ≤ k) : cntAll ts ≤ ts.length * (1 + k) := by
  induction ts with
  | nil => simp [cntAll]
  | cons t ts ih =>
    have h1 := h t List.mem_cons_self
    have h2 := ih fun u hu => h u (List.mem_cons_of_mem _ hu)
    simp only [cntAll, List.length_cons]
    rw [Nat.succ_mul]
    omega
section
variable {P : Program} {w : World} {K : PySem.W.Frag} {mg : Str → Option Value} {base : Heap}
theorem ok_random {f fD : Addr} {fd fdD : FuncData} (F : Fun K "_law_random_value" "_law_random_value" sRandom f fd) (bF : Binds K fd ["_law_pool_here", "_law_levels"] []) (gF : mg "_law_random_value" = some (.ref f))
    (FD : Fun K "_law_draw" "_law_draw" sDraw fD fdD) (bD : Binds K fdD ["_law_pool_here", "_law_many"] []) (gD : mg "_law_draw" = some (.ref fD)) (TT : TxtR mg) :
    ∀ n : Nat, FnOk P w K mg base CX0 (n + 2) f fd ["_law_pool_here", "_law_levels"] (spRV n) := by
  have GD : FnOk P w K mg base CX0 1 fD fdD ["_law_pool_here", "_law_many"] spDraw := ok_draw FD
  intro n
  induction n with
  | zero => exact F.ok scRandom (fun vs H Q E h => h.1) (fun cdv A outer s H vs Q E hr h => h.2.elim)
  | succ n GR =>
    refine F.ok scRandom (fun vs H Q E h => ?_) (fun cdv A outer s H vs Q E hr h => ?_)
    · obtain ⟨p, rfl, _⟩ := h
      rfl
    · obtain ⟨p, rfl, hp, q⟩ := h
      have ND := scRandom.nd
      have hr1 : Room 1 _ := hr.mono (by omega)
      refine ⟨_, C8.pss_cut (ps_set (i := 2) ND rfl (.inl rfl) (pe_call GD hr1 rfl gD FD.kp bD .nil pass0 (pa_cons (pv 0) (pa_cons (pe_ifExp (pt_cmpR op_gt (pv 1) pe_int (nomark _)) pe_int pe_int) pa_nil))))
        (pss_cons (ps_if (pt_cmpR op_eq (pv 2) pe_int (nomark _)) (pss_one (ps_ret (pe_op op_sub (pe_call GD hr1 rfl gD FD.kp bD .nil pass0 (pa_cons (pv 0) (pa_cons pe_int pa_nil))) pe_int))) pss_nil)
        (pss_cons (ps_if (pt_cmpR op_eq (pv 2) pe_int (nomark _)) (pss_one (ps_ret (pe_op op_mul (pe_op op_sub (pe_call GD hr1 rfl gD FD.kp bD .nil pass0 (pa_cons (pv 0) (pa_cons (pe_op op_pow pe_int pe_int) pa_nil))) (pe_op op_pow pe_int pe_int))
            (pe_op op_sub pe_int (pe_op op_mul pe_int (pe_call GD hr1 rfl gD FD.kp bD .nil pass0 (pa_cons (pv 0) (pa_cons pe_int pa_nil)))))))) pss_nil)
        (pss_cons (ps_if (pt_cmpR op_lt (pv 2) pe_int (nomark _)) (pss_cons (ps_set (i := 3) ND rfl (.inr rfl) pe_str) (pss_one (ps_ret (pe_join pe_str
            (pe_lc (own := [("_law_turn", 5)]) (g := gName 5) (tt := tYes) rfl ND (pi_range1 rfl TT.range (pa_cons (pe_call GD hr1 rfl gD FD.kp bD .nil pass0 (pa_cons (pv 0) (pa_cons
                (pe_ix ix_list (pe_lst (pa_cons pe_int (pa_cons pe_int pa_nil))) (pe_call GD hr1 rfl gD FD.kp bD .nil pass0 (pa_cons (pv 0) (pa_cons pe_int pa_nil))) (fun _ _ => rfl)) pa_nil))) pa_nil))
              (blkOk_by (own := [("_law_turn", 5)]) (N := ["_law_pool_here", "_law_levels", "_law_choice", "_law_signs", "_law_many", "_law_turn"]) (sc := defScope sRandom) (by decide +kernel)) (fun _ _ _ _ _ => pg_name (i := 5) ND rfl (Or.inl rfl)) (fun _ _ _ _ _ => pts_nil)
              (fun _ _ _ _ _ => pe_ix ix_str (pv 3) (pe_call GD hr1 rfl gD FD.kp bD .nil pass0 (pa_cons (pv 0) (pa_cons pe_int pa_nil))) (fun _ _ => rfl))))))) pss_nil)
        (C8.pss_cut (ps_set (i := 4) ND rfl (.inl rfl) (pe_ifExp (pt_cmpR op_lt (pv 1) pe_int (nomark _))
            (pe_call GD hr1 rfl gD FD.kp bD .nil pass0 (pa_cons (pv 0) (pa_cons (pe_ix ix_list (pe_lst (pa_cons pe_int (pa_cons pe_int (pa_cons pe_int (pa_cons pe_int pa_nil))))) (pe_call GD hr1 rfl gD FD.kp bD .nil pass0 (pa_cons (pv 0) (pa_cons pe_int pa_nil))) (fun _ _ => rfl)) pa_nil)))
            (pe_call GD hr1 rfl gD FD.kp bD .nil pass0 (pa_cons (pv 0) (pa_cons pe_int pa_nil)))))
        (pss_one (ps_ret (pe_callTy call_tuple_of (by rfl) TT.tuple PyProof.Rows.boot_tuple (pa_cons
            (pe_lc (own := [("_law_turn", 5)]) (g := gName 5) (tt := tYes) rfl ND (pi_range1 rfl TT.range (pa_cons (pv 4) pa_nil))
              (blkOk_by (own := [("_law_turn", 5)]) (N := ["_law_pool_here", "_law_levels", "_law_choice", "_law_signs", "_law_many", "_law_turn"]) (sc := defScope sRandom) (by decide +kernel)) (fun _ _ _ _ _ => pg_name (i := 5) ND rfl (Or.inl rfl)) (fun _ _ _ _ _ => pts_nil)
              (fun _ _ _ _ _ => pe_call GR hr rfl gF F.kp bF .nil pass0 (pa_cons (pv 0) (pa_cons (pe_op op_sub (pv 1) pe_int) pa_nil)))) pa_nil)))))))), ?_⟩
      refine ⟨fun σ' H' => ∃ c : Int, σ' = [some (.ref p), some (.int n), some (.int c), none, none, none] ∧ 0 ≤ c ∧ (n = 0 → c < 4) ∧ PoolAt H' p ∧ Off p H H', ?_, ?_⟩
      · refine ⟨_, rfl, _, rfl, _, _, rfl, rfl, _, rfl, ?_⟩
        refine ite2 (fun hc => ?_) (fun hc => ?_)
        · have hc' := of_decide_eq_true hc
          exact ⟨p, 6, rfl, by decide, by decide, hp, fun r g m h0 h1 hg hm hm2 => ⟨r, rfl, h0, fun z => absurd hc' (by omega), pool_upd hg hm hm2, Off.upd⟩⟩
        · exact ⟨p, 4, rfl, by decide, by decide, hp, fun r g m h0 h1 hg hm hm2 => ⟨r, rfl, h0, fun z => h1, pool_upd hg hm hm2, Off.upd⟩⟩
      rintro σ' H1 ⟨c, rfl, hc0, hc4, hp1, o1⟩
      refine ⟨_, rfl, rfl, _, rfl, ?_⟩
      refine ite2 (fun h0 => ?_) (fun hn0 => ?_)
      · refine ⟨_, rfl, p, 10, rfl, by decide, by decide, hp1, fun r g m h0 h1 hg hm hm2 => ?_⟩
        refine ⟨_, _, rfl, rfl, ?_⟩
        refine q (.int (r - 4)) _ _ (lval_leaf (by simp only [isPlain, Bool.and_eq_true, decide_eq_true_eq]; omega) rfl) (by simp [cnt]) thInt (o1.trans Off.upd) (pool_upd hg hm hm2)
      refine ⟨_, rfl, rfl, _, rfl, ?_⟩
      refine ite2 (fun h0 => ?_) (fun hn1 => ?_)
      · refine ⟨_, rfl, _, _, rfl, rfl, ⟨by decide, by decide, by decide⟩, p, _, rfl, by decide, by decide, hp1, fun r g m h0 h1 hg hm hm2 => ?_⟩
        have h1' : r < 10 ^ 60 := h1
        refine ⟨_, _, rfl, rfl, ⟨by decide, by decide, by decide⟩, _, _, rfl, rfl, ?_⟩
        refine ⟨_, rfl, p, 2, rfl, by decide, by decide, pool_upd hg hm hm2, fun r2 g2 m2 h02 h12 hg2 hm3 hm4 => ?_⟩
        refine ⟨_, _, rfl, rfl, .inl ⟨by decide, by decide⟩, _, _, rfl, rfl, _, _, rfl, rfl, .inr ⟨by omega, by omega⟩, ?_⟩
        have ei : ∃ i : Int, (r - 10 ^ (59 : Int).toNat) * (1 - 2 * r2) = i ∧ -(10 ^ 60) < i ∧ i < 10 ^ 60 := by
          rw [show (10 : Int) ^ (59 : Int).toNat = 10 ^ 59 from rfl]
          rcases (by omega : r2 = 0 ∨ r2 = 1) with rfl | rfl
          · exact ⟨_, rfl, by omega, by omega⟩
          · exact ⟨_, rfl, by omega, by omega⟩
        obtain ⟨i, ei, hi1, hi2⟩ := ei
        show Q (V.int ((r - (10 : Int) ^ (59 : Int).toNat) * (1 - 2 * r2))) _
        rw [ei]
        exact q (.int i) _ _ (lval_leaf (by simp only [isPlain, Bool.and_eq_true, decide_eq_true_eq]; exact ⟨hi1, hi2⟩) rfl) (by simp [cnt]) thInt ((o1.trans Off.upd).trans Off.upd) (pool_upd hg2 hm3 hm4)
      refine ⟨_, rfl, _, _, rfl, rfl, _, rfl, ?_⟩
      refine ite2 (fun h0 => ?_) (fun hn4 => ?_)
      · refine ⟨⟨_, rfl⟩, _, rfl, by show 2 ≤ sizeLine; decide, fun l nl => ?_⟩
        have hl1 : (upd H1 l (.lst [V.int 4, .int 61])) l = some (.lst [V.int 4, .int 61]) := upd_same
        have npl : l ≠ p := hp1.ne nl
        have hp2 : PoolAt (upd H1 l (.lst [V.int 4, .int 61])) p := hp1.same (same_upd nl)
        have o2 : Off p H (upd H1 l (.lst [V.int 4, .int 61])) := off_same o1 (same_upd nl)
        generalize upd H1 l (.lst [V.int 4, .int 61]) = H2 at hl1 hp2 o2
        refine ⟨_, rfl, p, 2, rfl, by decide, by decide, hp2, fun r g m h0' h1' hg hm hm2 => ?_⟩
        obtain ⟨k, hk, hk1, hk61⟩ : ∃ k : Int, atI [V.int 4, .int 61] r = some (.int k) ∧ 0 < k ∧ k ≤ 61 := by
          rcases (by omega : r = 0 ∨ r = 1) with rfl | rfl
          · exact ⟨4, rfl, by decide, by decide⟩
          · exact ⟨61, rfl, by decide, by decide⟩
        refine ⟨l, _, r, _, rfl, rfl, .inl (.inl (by rw [upd_ne npl]; exact hl1)), hk, ?_⟩
        refine ⟨p, k, rfl, hk1, Int.le_trans hk61 (by decide), pool_upd hg hm hm2, fun many g' m' h0m h1m hg' hm' hm2' => ?_⟩
        have hp3 : PoolAt (upd (upd H2 p (.lst [V.int g, V.int m])) p (.lst [V.int g', V.int m'])) p := pool_upd hg' hm' hm2'
        have o3 : Off p H (upd (upd H2 p (.lst [V.int g, V.int m])) p (.lst [V.int g', V.int m'])) := (o2.trans Off.upd).trans Off.upd
        generalize upd (upd H2 p (.lst [V.int g, V.int m])) p (.lst [V.int g', V.int m']) = H3 at hp3 o3
        obtain ⟨mn, rfl⟩ := Int.eq_ofNat_of_zero_le h0m
        refine ⟨mn, rfl, by omega, by omega, fun D hD => ?_⟩
        have nDp : D ≠ p := hp3.ne hD
        refine lc_range (lo := 0) (n := ((mn : Nat) : Int).toNat) (fun i G => ∃ cs : List Nat, G D = some (.lst ((cs.map fun c => (⟨#[c]⟩ : Str)).map V.str)) ∧ cs.length = i ∧ (∀ c ∈ cs, c ∈ ldS.cps.toList) ∧ Off p H G ∧ PoolAt G p)
          ⟨[], upd_same, rfl, fun c hc => (by cases hc), off_same o3 (same_upd hD), hp3.same (same_upd hD)⟩ (fun i G hi hPv => ?_) (fun G hPv => ?_)
        · obtain ⟨cs, hDl, hcl, hcm, off, hpp⟩ := hPv
          rw [Int.toNat_natCast] at hi
          refine ⟨rfl, tYes_if ?_⟩
          refine ⟨_, rfl, _, rfl, p, 8, rfl, by decide, by decide, hpp, fun r3 g3 m3 h03 h13 hg3 hm3 hm4 => ?_⟩
          obtain ⟨j, rfl⟩ := Int.eq_ofNat_of_zero_le h03
          have hj : j < ("abcz0189" : Str).cps.toList.length := by
            rw [signs_len]
            omega
          have hat : atI ("abcz0189" : Str).cps.toList (j : Int) = some (("abcz0189" : Str).cps.toList[j]) := atI_nat (List.getElem?_eq_getElem hj)
          have hmem := signs_ld _ (List.getElem_mem hj)
          generalize ("abcz0189" : Str).cps.toList[j] = c at hat hmem
          refine ⟨_, _, c, rfl, rfl, by decide +kernel, hat, ?_⟩
          refine ⟨_, by rw [upd_ne nDp]; exact hDl, smallB (by rw [List.length_map, List.length_map]; omega), cs ++ [c], by rw [upd_same, List.map_append, List.map_append]; rfl, by rw [List.length_append, hcl]; rfl, fun d hd' => ?_, fun b o nb eb => ?_, ?_⟩
          · rcases List.mem_append.mp hd' with z | z
            · exact hcm d z
            · rw [List.mem_singleton.mp z]
              exact hmem
          · rw [upd_ne (ne_of_none (o3 b o nb eb) hD), upd_ne nb]
            exact off b o nb eb
          · exact ⟨g3, m3, by rw [upd_ne nDp.symm, upd_same], hg3, hm3, hm4⟩
        · obtain ⟨cs, hDl, hcl, hcm, off, hpp⟩ := hPv
          rw [Int.toNat_natCast] at hcl
          have hc60 : cs.length ≤ 60 := by omega
          have he0 : ("" : Str).length = 0 := by decide +kernel
          refine ⟨_, D, cs.map fun c => (⟨#[c]⟩ : Str), rfl, rfl, .inl (.inl (.inl hDl)), ?_, ?_⟩
          · rw [he0, Nat.mul_zero, List.map_map]
            have : ((cs.map ((fun x : Str => x.length) ∘ fun c => (⟨#[c]⟩ : Str)))).sum = cs.length := by
              clear hcl hcm hDl hc60
              induction cs with
              | nil => rfl
              | cons c cs ih =>
                rw [List.map_cons, List.sum_cons, ih, List.length_cons]
                show 1 + cs.length = _
                omega
            omega
          · rw [join_signs]
            exact q (.str (mkS cs)) _ _ (lval_leaf (text_of_signs hc60 hcm) rfl) (by simp [cnt]) thStr off hpp
      · have hn4' : ¬ c < 4 := fun z => hn4 (decide_eq_true z)
        obtain ⟨k, rfl⟩ : ∃ k, n = k + 1 := by
          cases n with
          | zero => exact absurd (hc4 rfl) hn4'
          | succ k => exact ⟨k, rfl⟩
        refine ⟨fun σ' G => ∃ many : Nat, σ' = [some (.ref p), some (.int ((k + 1 : Nat) : Int)), some (.int c), none, some (.int (many : Int)), none] ∧ many ≤ 50 ∧ (1 ≤ k → many ≤ 3) ∧ PoolAt G p ∧ Off p H G, ?_, ?_⟩
        · refine ⟨_, rfl, _, _, rfl, rfl, _, rfl, ?_⟩
          refine ite2 (fun h2 => ?_) (fun h2 => ?_)
          · have h2' := of_decide_eq_true h2
            refine ⟨_, rfl, by show 4 ≤ sizeLine; decide, fun l nl => ?_⟩
            have npl : l ≠ p := hp1.ne nl
            refine ⟨_, rfl, p, 4, rfl, by decide, by decide, hp1.same (same_upd nl), fun r g m h0' h1' hg hm hm2 => ?_⟩
            obtain ⟨b, hb, hb1, hb51⟩ : ∃ b : Int, atI [V.int 3, .int 4, .int 12, .int 51] r = some (.int b) ∧ 0 < b ∧ b ≤ 51 := by
              rcases (by omega : r = 0 ∨ r = 1 ∨ r = 2 ∨ r = 3) with rfl | rfl | rfl | rfl
              · exact ⟨3, rfl, by decide, by decide⟩
              · exact ⟨4, rfl, by decide, by decide⟩
              · exact ⟨12, rfl, by decide, by decide⟩
              · exact ⟨51, rfl, by decide, by decide⟩
            refine ⟨l, _, r, _, rfl, rfl, .inl (.inl (by rw [upd_ne npl, upd_same])), hb, ?_⟩
            refine ⟨p, b, rfl, hb1, Int.le_trans hb51 (by decide), pool_upd hg hm hm2, fun many g' m' h0m h1m hg' hm' hm2' => ?_⟩
            obtain ⟨mn, rfl⟩ := Int.eq_ofNat_of_zero_le h0m
            exact ⟨mn, rfl, by omega, fun z => by omega, pool_upd hg' hm' hm2', ((off_same o1 (same_upd nl)).trans Off.upd).trans Off.upd⟩
          · refine ⟨_, rfl, p, 4, rfl, by decide, by decide, hp1, fun many g' m' h0m h1m hg' hm' hm2' => ?_⟩
            obtain ⟨mn, rfl⟩ := Int.eq_ofNat_of_zero_le h0m
            exact ⟨mn, rfl, by omega, fun z => by omega, pool_upd hg' hm' hm2', o1.trans Off.upd⟩
        · rintro σ2 H3 ⟨many, rfl, hm50, hm3, hp3, o3⟩
          refine ⟨_, rfl, many, rfl, by omega, by omega, fun D hD => ?_⟩
          have nDp : D ≠ p := hp3.ne hD
          refine lc_range (lo := 0) (n := ((many : Nat) : Int).toNat) (fun i G => ∃ (acc : List V) (ts : List T), G D = some (.lst acc) ∧ ThAll G ts acc ∧ ts.length = i ∧ (∀ t ∈ ts, lval k t = true ∧ cnt t ≤ capN k) ∧ Off p H G ∧ PoolAt G p)
            ⟨[], [], upd_same, taNil, rfl, fun t ht => (by cases ht), off_same o3 (same_upd hD), hp3.same (same_upd hD)⟩ (fun i G hi hPv => ?_) (fun G hPv => ?_)
          · obtain ⟨acc, ts, hDl, hth, hts, hgd, off, hpp⟩ := hPv
            rw [Int.toNat_natCast] at hi
            refine ⟨rfl, tYes_if ?_⟩
            refine ⟨_, rfl, _, rfl, _, _, rfl, rfl, p, (by show [V.ref p, V.int (((k + 1 : Nat) : Int) - 1)] = [V.ref p, V.int (k : Int)]; rw [show ((k + 1 : Nat) : Int) - 1 = (k : Int) by omega]), hpp, fun t v H4 hlv hct hv o4 hp4 => ?_⟩
            have hD3 : H4 D = some (.lst acc) := o4 _ _ nDp hDl
            have ml : Mild G H4 := Mild.off o4 hpp hp4
            have hacc := thAll_len hth
            refine ⟨acc, hD3, smallB (by omega), acc ++ [v], ts ++ [t], upd_same, ?_, by rw [List.length_append, List.length_singleton, hts], ?_, ?_, ?_⟩
            · exact (Mild.updL hD3).thAll (thAll_snoc hv (ml.thAll hth))
            · intro u hu
              rcases List.mem_append.mp hu with hu | hu
              · exact hgd u hu
              · rw [List.mem_singleton.mp hu]
                exact ⟨hlv, hct⟩
            · intro b o nb eb
              rw [upd_ne (ne_of_none (o3 b o nb eb) hD)]
              exact (off.trans o4) b o nb eb
            · obtain ⟨g3, m3, e3, r3⟩ := hp4
              exact ⟨g3, m3, by rw [upd_ne nDp.symm]; exact e3, r3⟩
          · obtain ⟨acc, ts, hDl, hth, hts, hgd, off, hpp⟩ := hPv
            rw [Int.toNat_natCast] at hts
            have hacc := thAll_len hth
            have hca := cntAll_le (fun t ht => (hgd t ht).2)
            refine ⟨D, acc, rfl, .inl ⟨.inl (.inl hDl), fun l nl => ?_⟩⟩
            refine q (.tup ts) _ _ ?_ ?_ (thTup upd_same (by omega) (ThAll.same (same_upd nl) _ _ hth)) (off_same off (same_upd nl)) (hpp.same (same_upd nl))
            · simp only [lval, Bool.and_eq_true, Bool.not_eq_true', decide_eq_false_iff_not]
              exact ⟨by omega, List.all_eq_true.mpr fun t ht => (hgd t ht).1⟩
            · simp only [cnt]
              cases k with
              | zero =>
                simp only [capN] at hca ⊢
                omega
              | succ k =>
                have h3 := hm3 (by omega)
                simp only [capN]
                have : ts.length * (1 + capN (k + 1)) ≤ 3 * (1 + capN (k + 1)) := Nat.mul_le_mul_right _ (by omega)
                omega
end
end My
namespace My
open PySem PySem.Spec PyProof.Rows L2 TW CwR
/-! ### spoilt texts -/
section
variable {X : Cx} {e : Expr} {te : TE} {u : TS} {rest : List Stmt}
/-- behind a store to a local name a token is out -/
theorem pss_setT {i : Nat} {x : Str} {p' pos : Pos} (hN : X.N.Nodup) (hi : X.N[i]? = some x) (hk : X.env.scope.names.lookup x = some .local) (he : PE X e te) (h2 : PSsT X rest u)
    (hs : swapsWith e (some (.Name x p')) pos.line X.env = pure false := by rfl) : PSs X (.Assign [.Name x p'] e pos :: rest) (tSeq (tAsg te (gName i)) u) := by
  refine ⟨fun pins s σ H D I h => ?_⟩
  refine wpAny_execs_cons (wpAny_Assign_Name (thn (he.run pins s σ H _ I h) fun v s1 ⟨y, H1, I1, r1, q1⟩ => ?_) hs)
  have hcls : (X.env.scope.kind == .class || (X.env.scope.kind == .module && X.env.locals != X.env.globals)) = false := by rw [I1.ok.kind]; rfl
  obtain ⟨m, hn, hl⟩ := id I1.loc
  refine wpAny_storeName_local hk hn (fun h' hn' sb => ?_) hcls
  have I2 : Inv X pins (σ.set i (some y)) H1 { s1 with heap := h', toks := s1.toks + 1 } := inv_store I1 hN hi hk r1 hn hl hn' sb
  exact h2 pins _ _ H1 D (Nat.succ_pos _) I2 q1
theorem pst_set {i : Nat} {x : Str} {p' pos : Pos} (hN : X.N.Nodup) (hi : X.N[i]? = some x) (hk : X.env.scope.names.lookup x = some .local) (he : PET X e te)
    (hs : swapsWith e (some (.Name x p')) pos.line X.env = pure false := by rfl) : PST X (.Assign [.Name x p'] e pos) (tAsg te (gName i)) := by
  intro pins s σ H D h0 I h
  refine wpAny_Assign_Name (thn (he pins s σ H _ h0 I h) fun v s1 ⟨y, H1, I1, r1, q1⟩ => ?_) hs
  exact store_ok I1 hN hi (.inl hk) r1 (fun s2 I2 => ⟨_, H1, I2, q1⟩) (.inr hk)
end
theorem scSpoilt : FnScope ["_law_pool_here", "_law_text_here", "_law_found", "_law_some"] ["_law_pool_here", "_law_text_here"] (defScope sSpoilt) := ⟨rfl, rfl, rfl, by decide +kernel, rfl, by decide +kernel, by decide +kernel⟩
/-- all signs are small -/
def As (x : Str) : Prop := ∀ c ∈ x.cps.toList, c < 128
theorem as_app {x y : Str} (hx : As x) (hy : As y) : As (x ++ y) := fun c hc => by
  have e : (x ++ y).cps.toList = x.cps.toList ++ y.cps.toList := by
    show (x.cps ++ y.cps).toList = _
    exact Array.toList_append
  rw [e, List.mem_append] at hc
  rcases hc with h | h
  · exact hx c h
  · exact hy c h
theorem glue_mem {z : Str} : ∀ (ps : List Str) (a : Array Nat) (c : Nat), c ∈ (ps.foldl (fun acc p => acc ++ z.cps ++ p.cps) a).toList → c ∈ a.toList ∨ c ∈ z.cps.toList ∨ ∃ p ∈ ps, c ∈ p.cps.toList
  | [], a, c, h => .inl h
  | p :: ps, a, c, h => by
    rcases glue_mem ps _ c h with h | h | ⟨p2, h1, h2⟩
    · simp only [Array.toList_append, List.mem_append] at h
      rcases h with (h | h) | h
      · exact .inl h
      · exact .inr (.inl h)
      · exact .inr (.inr ⟨p, List.mem_cons_self, h⟩)
    · exact .inr (.inl h)
    · exact .inr (.inr ⟨p2, List.mem_cons_of_mem _ h1, h2⟩)
theorem sub_mem {x : Str} {i j c : Nat} (h : c ∈ (Builtin.Str.strSub x i j).cps.toList) : c ∈ x.cps.toList := by
  have e : (Builtin.Str.strSub x i j).cps = x.cps.extract i j := rfl
  rw [e, Array.toList_extract, List.extract_eq_drop_take] at h
  exact List.drop_subset _ _ (List.take_subset _ _ h)
theorem as_repl {x y z : Str} (hx : As x) (hz : As z) : As (Txt.replace x y z) := by
  unfold Txt.replace
  split
  · exact hx
  · intro c hc
    unfold Builtin.Str.glued at hc
    have ps : ∀ p ∈ Builtin.Str.partsBetween x (Builtin.Str.occurrences x y 0 x.length (x.length + 1)) y.length, ∀ c ∈ p.cps.toList, c < 128 := fun p hp c hc => by
      unfold Builtin.Str.partsBetween at hp
      obtain ⟨⟨i, j⟩, _, rfl⟩ := List.mem_map.mp hp
      exact hx c (sub_mem hc)
    rcases glue_mem _ _ c hc with h | h | ⟨p, hp, h⟩
    · revert h ps
      generalize Builtin.Str.partsBetween x (Builtin.Str.occurrences x y 0 x.length (x.length + 1)) y.length = l
      intro ps h
      cases l with
      | nil => simp [Str.empty] at h
      | cons p l => exact ps p List.mem_cons_self c h
    · exact hz c h
    · exact ps p (List.mem_of_mem_drop hp) c h
def spSpoilt : Sp := fun vs H Q _ => ∃ (v : V) (x : Str), vs = [v, .str x] ∧ x.length ≤ 300000 ∧ As x ∧ ∀ H' D (ys : List Str), Same H H' → H D = none → H' D = some (.lst (ys.map V.str)) → (∀ y ∈ ys, y ≠ x ∧ y.length ≤ 1000000 ∧ As y) → ys.length ≤ 17 → Q (.ref D) H'
theorem rep_len {x y z : Str} (hx : x.length ≤ 300000) (hz : z.length ≤ 2) : (Txt.replace x y z).length ≤ 1000000 ∧ x.length + (x.length + 1) * z.length ≤ 16777216 := by
  have h := TK.replace_len x y z
  have h2 : (x.length + 1) * z.length ≤ (x.length + 1) * 2 := Nat.mul_le_mul_left _ hz
  omega
section
variable {P : Program} {w : World} {K : PySem.W.Frag} {mg : Str → Option Value} {base : Heap}
theorem ok_spoilt {f : Addr} {fd : FuncData} (F : Fun K "_law_spoilt" "_law_spoilt" sSpoilt f fd) : FnOk P w K mg base CX0 1 f fd ["_law_pool_here", "_law_text_here"] spSpoilt := by
  refine F.ok scSpoilt (fun vs H Q E h => ?_) (fun cdv A outer s H vs Q E hr h => ?_)
  · obtain ⟨v, x, rfl, _⟩ := h
    rfl
  · obtain ⟨v, x, rfl, hx, hA, q⟩ := h
    have ND := scSpoilt.nd
    have R := fun (X : Cx) => @PET.of X
    refine ⟨_, pss_setT (i := 2) ND rfl rfl (pe_lst (pa_cons (pe_op op_add_str (pv 1) pe_str) (pa_cons (pe_op op_add_str pe_str (pv 1)) (pa_cons (pe_op op_add_str (pv 1) pe_str) (pa_cons (pe_op op_add_str pe_str (pv 1))
          (pa_cons (pe_op op_add_str pe_str (pv 1)) (pa_cons (pe_op op_add_str pe_str (pv 1)) (pa_cons (pe_op op_add_str (pv 1) pe_str) (pa_cons (pe_op op_add_str (pe_op op_add_str pe_str (pv 1)) pe_str) pa_nil)))))))))
      (psst_cons (pst_set (i := 2) ND rfl rfl (pet_op op_cat (PET.of (pv 2)) (pet_lst (pat_cons (pet_replC (pv 1)) (pat_cons (pet_replC (pv 1)) (pat_cons (pet_replC (pv 1)) (pat_cons (pet_replC (pv 1)) pat_nil)))))))
      (psst_cons (pst_set (i := 2) ND rfl rfl (pet_op op_cat (PET.of (pv 2)) (pet_lst (pat_cons (PET.of (pe_op op_add_str (pv 1) pe_str)) (pat_cons (PET.of (pe_op op_add_str (pv 1) pe_str)) (pat_cons (PET.of (pe_op op_add_str pe_str (pv 1))) (pat_cons (PET.of (pe_op op_add_str pe_str (pv 1)))
          (pat_cons (pet_replC (pv 1)) pat_nil))))))))
      (PSsT.of (pss_one (ps_ret (pe_lc (own := [("_law_some", 3)]) (g := gName 3) rfl ND (pi_list (pv 2)) (blkOk_by (own := [("_law_some", 3)]) (N := ["_law_pool_here", "_law_text_here", "_law_found", "_law_some"]) (sc := defScope sSpoilt) (by decide +kernel))
            (fun _ _ _ _ _ => pg_name (i := 3) ND rfl (Or.inl rfl)) (fun _ _ _ _ _ => pts_one (pt_cmpR op_ne (pv 3) (pv 1) (nomark _))) (fun _ _ _ _ _ => pv 3))))))), ?_⟩
    have z : ∀ c : Str, c.length ≤ 2 → x.length + c.length ≤ sizeLine ∧ c.length + x.length ≤ sizeLine := fun c hc => ⟨by show _ ≤ 16777216; omega, by show _ ≤ 16777216; omega⟩
    have zl : ∀ c : Str, c.length ≤ 2 → (x ++ c).length ≤ 1000000 ∧ (c ++ x).length ≤ 1000000 := fun c hc => by
      rw [app_len, app_len]
      omega
    have zp : ("(" ++ x : Str).length + (")" : Str).length ≤ sizeLine := by
      rw [app_len, show ("(" : Str).length = 1 from by decide +kernel, show (")" : Str).length = 1 from by decide +kernel]
      show _ ≤ 16777216
      omega
    refine ⟨_, rfl, _, _, rfl, rfl, (z " " (by decide +kernel)).1, _, rfl, _, _, rfl, rfl, (z " " (by decide +kernel)).2, _, rfl, _, _, rfl, rfl, (z "]" (by decide +kernel)).1, _, rfl, _, _, rfl, rfl, (z "[" (by decide +kernel)).2, _, rfl, _, _, rfl, rfl, (z "+" (by decide +kernel)).2, _, rfl, _, _, rfl, rfl, (z "0" (by decide +kernel)).2, _, rfl, _, _, rfl, rfl, (z " 1" (by decide +kernel)).1, _, rfl, _, _, rfl, rfl, (z "(" (by decide +kernel)).2, _, _, rfl, rfl, zp, by show 8 ≤ sizeLine; decide, fun l1 nl1 => ?_⟩
    have s1 : Same H (upd H l1 (.lst (([x ++ " ", " " ++ x, x ++ "]", "[" ++ x, "+" ++ x, "0" ++ x, x ++ " 1", ("(" ++ x) ++ ")"] : List Str).map V.str))) := same_upd nl1
    have h1 : (upd H l1 (.lst (([x ++ " ", " " ++ x, x ++ "]", "[" ++ x, "+" ++ x, "0" ++ x, x ++ " 1", ("(" ++ x) ++ ")"] : List Str).map V.str))) l1 = some (.lst (([x ++ " ", " " ++ x, x ++ "]", "[" ++ x, "+" ++ x, "0" ++ x, x ++ " 1", ("(" ++ x) ++ ")"] : List Str).map V.str)) := upd_same
    change tSeq _ _ _ _ (upd H l1 (.lst (([x ++ " ", " " ++ x, x ++ "]", "[" ++ x, "+" ++ x, "0" ++ x, x ++ " 1", ("(" ++ x) ++ ")"] : List Str).map V.str)))
    generalize upd H l1 (.lst (([x ++ " ", " " ++ x, x ++ "]", "[" ++ x, "+" ++ x, "0" ++ x, x ++ " 1", ("(" ++ x) ++ ")"] : List Str).map V.str)) = H1 at s1 h1 ⊢
    have r2 := fun (y z : Str) (hz : z.length ≤ 2) => rep_len (y := y) hx hz
    refine ⟨_, rfl, _, rfl, x, rfl, (r2 "[" "[ " (by decide +kernel)).2, _, rfl, x, rfl, (r2 "]" " ]" (by decide +kernel)).2, _, rfl, x, rfl, (r2 " " "  " (by decide +kernel)).2, _, rfl, x, rfl, (r2 "'" "" (by decide +kernel)).2, by show 4 ≤ sizeLine; decide, fun l2 nl2 => ?_⟩
    have s2 : Same H1 (upd H1 l2 (.lst (([Txt.replace x "[" "[ ", Txt.replace x "]" " ]", Txt.replace x " " "  ", Txt.replace x "'" ""] : List Str).map V.str))) := same_upd nl2
    refine ⟨l1, l2, _, _, rfl, rfl, s2 _ _ h1, upd_same, by show 12 ≤ sizeLine; decide, fun l3 nl3 => ?_⟩
    have s3 : Same (upd H1 l2 (.lst (([Txt.replace x "[" "[ ", Txt.replace x "]" " ]", Txt.replace x " " "  ", Txt.replace x "'" ""] : List Str).map V.str))) (upd (upd H1 l2 (.lst (([Txt.replace x "[" "[ ", Txt.replace x "]" " ]", Txt.replace x " " "  ", Txt.replace x "'" ""] : List Str).map V.str))) l3 (.lst (([x ++ " ", " " ++ x, x ++ "]", "[" ++ x, "+" ++ x, "0" ++ x, x ++ " 1", ("(" ++ x) ++ ")"] : List Str).map V.str ++ ([Txt.replace x "[" "[ ", Txt.replace x "]" " ]", Txt.replace x " " "  ", Txt.replace x "'" ""] : List Str).map V.str))) := same_upd nl3
    have h3 : (upd (upd H1 l2 (.lst (([Txt.replace x "[" "[ ", Txt.replace x "]" " ]", Txt.replace x " " "  ", Txt.replace x "'" ""] : List Str).map V.str))) l3 (.lst (([x ++ " ", " " ++ x, x ++ "]", "[" ++ x, "+" ++ x, "0" ++ x, x ++ " 1", ("(" ++ x) ++ ")"] : List Str).map V.str ++ ([Txt.replace x "[" "[ ", Txt.replace x "]" " ]", Txt.replace x " " "  ", Txt.replace x "'" ""] : List Str).map V.str))) l3 = some (.lst (([x ++ " ", " " ++ x, x ++ "]", "[" ++ x, "+" ++ x, "0" ++ x, x ++ " 1", ("(" ++ x) ++ ")"] : List Str).map V.str ++ ([Txt.replace x "[" "[ ", Txt.replace x "]" " ]", Txt.replace x " " "  ", Txt.replace x "'" ""] : List Str).map V.str)) := upd_same
    change tSeq _ _ _ _ (upd (upd H1 l2 (.lst (([Txt.replace x "[" "[ ", Txt.replace x "]" " ]", Txt.replace x " " "  ", Txt.replace x "'" ""] : List Str).map V.str))) l3 (.lst (([x ++ " ", " " ++ x, x ++ "]", "[" ++ x, "+" ++ x, "0" ++ x, x ++ " 1", ("(" ++ x) ++ ")"] : List Str).map V.str ++ ([Txt.replace x "[" "[ ", Txt.replace x "]" " ]", Txt.replace x " " "  ", Txt.replace x "'" ""] : List Str).map V.str)))
    generalize upd (upd H1 l2 (.lst (([Txt.replace x "[" "[ ", Txt.replace x "]" " ]", Txt.replace x " " "  ", Txt.replace x "'" ""] : List Str).map V.str))) l3 (.lst (([x ++ " ", " " ++ x, x ++ "]", "[" ++ x, "+" ++ x, "0" ++ x, x ++ " 1", ("(" ++ x) ++ ")"] : List Str).map V.str ++ ([Txt.replace x "[" "[ ", Txt.replace x "]" " ]", Txt.replace x " " "  ", Txt.replace x "'" ""] : List Str).map V.str)) = H3 at s3 h3 ⊢
    refine ⟨_, rfl, _, rfl, _, _, rfl, rfl, (z "A" (by decide +kernel)).1, _, rfl, _, _, rfl, rfl, (z "." (by decide +kernel)).1, _, rfl, _, _, rfl, rfl, (z "--" (by decide +kernel)).2, _, rfl, _, _, rfl, rfl, (z "''" (by decide +kernel)).2, _, rfl, x, rfl, (r2 " " "," (by decide +kernel)).2, by show 5 ≤ sizeLine; decide, fun l4 nl4 => ?_⟩
    have s4 : Same H3 (upd H3 l4 (.lst ([V.str (x ++ "A"), V.str (x ++ "."), V.str ("--" ++ x), V.str ("''" ++ x), V.str (Txt.replace x " " ",")]))) := same_upd nl4
    refine ⟨l3, l4, _, _, rfl, rfl, s4 _ _ h3, upd_same, by show 17 ≤ sizeLine; decide, fun l5 nl5 => ?_⟩
    have s5 : Same (upd H3 l4 (.lst ([V.str (x ++ "A"), V.str (x ++ "."), V.str ("--" ++ x), V.str ("''" ++ x), V.str (Txt.replace x " " ",")]))) (upd (upd H3 l4 (.lst ([V.str (x ++ "A"), V.str (x ++ "."), V.str ("--" ++ x), V.str ("''" ++ x), V.str (Txt.replace x " " ",")]))) l5 (.lst (([x ++ " ", " " ++ x, x ++ "]", "[" ++ x, "+" ++ x, "0" ++ x, x ++ " 1", ("(" ++ x) ++ ")"] : List Str).map V.str ++ ([Txt.replace x "[" "[ ", Txt.replace x "]" " ]", Txt.replace x " " "  ", Txt.replace x "'" ""] : List Str).map V.str ++ [V.str (x ++ "A"), V.str (x ++ "."), V.str ("--" ++ x), V.str ("''" ++ x), V.str (Txt.replace x " " ",")]))) := same_upd nl5
    have h5 : (upd (upd H3 l4 (.lst ([V.str (x ++ "A"), V.str (x ++ "."), V.str ("--" ++ x), V.str ("''" ++ x), V.str (Txt.replace x " " ",")]))) l5 (.lst (([x ++ " ", " " ++ x, x ++ "]", "[" ++ x, "+" ++ x, "0" ++ x, x ++ " 1", ("(" ++ x) ++ ")"] : List Str).map V.str ++ ([Txt.replace x "[" "[ ", Txt.replace x "]" " ]", Txt.replace x " " "  ", Txt.replace x "'" ""] : List Str).map V.str ++ [V.str (x ++ "A"), V.str (x ++ "."), V.str ("--" ++ x), V.str ("''" ++ x), V.str (Txt.replace x " " ",")]))) l5 = some (.lst ((([x ++ " ", " " ++ x, x ++ "]", "[" ++ x, "+" ++ x, "0" ++ x, x ++ " 1", ("(" ++ x) ++ ")"] : List Str) ++ [Txt.replace x "[" "[ ", Txt.replace x "]" " ]", Txt.replace x " " "  ", Txt.replace x "'" ""] ++ [x ++ "A", x ++ ".", "--" ++ x, "''" ++ x, Txt.replace x " " ","]).map V.str)) := by
      rw [upd_same, List.map_append, List.map_append]
      rfl
    dsimp only [gName]
    generalize (upd (upd H3 l4 (.lst ([V.str (x ++ "A"), V.str (x ++ "."), V.str ("--" ++ x), V.str ("''" ++ x), V.str (Txt.replace x " " ",")]))) l5 (.lst (([x ++ " ", " " ++ x, x ++ "]", "[" ++ x, "+" ++ x, "0" ++ x, x ++ " 1", ("(" ++ x) ++ ")"] : List Str).map V.str ++ ([Txt.replace x "[" "[ ", Txt.replace x "]" " ]", Txt.replace x " " "  ", Txt.replace x "'" ""] : List Str).map V.str ++ [V.str (x ++ "A"), V.str (x ++ "."), V.str ("--" ++ x), V.str ("''" ++ x), V.str (Txt.replace x " " ",")]))) = H5 at s5 h5 ⊢
    have hall : ∀ y ∈ ([x ++ " ", " " ++ x, x ++ "]", "[" ++ x, "+" ++ x, "0" ++ x, x ++ " 1", ("(" ++ x) ++ ")"] : List Str) ++ [Txt.replace x "[" "[ ", Txt.replace x "]" " ]", Txt.replace x " " "  ", Txt.replace x "'" ""] ++ [x ++ "A", x ++ ".", "--" ++ x, "''" ++ x, Txt.replace x " " ","], y.length ≤ 1000000 ∧ As y := by
      intro y hy
      have hz1 := fun c hc => (zl c hc).1
      have hz2 := fun c hc => (zl c hc).2
      have hr1 := fun (y z : Str) (hz : z.length ≤ 2) => (r2 y z hz).1
      simp only [List.cons_append, List.nil_append, List.mem_cons, List.not_mem_nil, or_false] at hy
      rcases hy with h | h | h | h | h | h | h | h | h | h | h | h | h | h | h | h | h <;> rw [h]
      · exact ⟨hz1 _ (by decide +kernel), as_app hA (by unfold As; decide +kernel)⟩
      · exact ⟨hz2 _ (by decide +kernel), as_app (by unfold As; decide +kernel) hA⟩
      · exact ⟨hz1 _ (by decide +kernel), as_app hA (by unfold As; decide +kernel)⟩
      · exact ⟨hz2 _ (by decide +kernel), as_app (by unfold As; decide +kernel) hA⟩
      · exact ⟨hz2 _ (by decide +kernel), as_app (by unfold As; decide +kernel) hA⟩
      · exact ⟨hz2 _ (by decide +kernel), as_app (by unfold As; decide +kernel) hA⟩
      · exact ⟨hz1 _ (by decide +kernel), as_app hA (by unfold As; decide +kernel)⟩
      · refine ⟨?_, as_app (as_app (by unfold As; decide +kernel) hA) (by unfold As; decide +kernel)⟩
        rw [app_len, app_len, show ("(" : Str).length = 1 from by decide +kernel, show (")" : Str).length = 1 from by decide +kernel]
        omega
      · exact ⟨hr1 _ _ (by decide +kernel), as_repl hA (by unfold As; decide +kernel)⟩
      · exact ⟨hr1 _ _ (by decide +kernel), as_repl hA (by unfold As; decide +kernel)⟩
      · exact ⟨hr1 _ _ (by decide +kernel), as_repl hA (by unfold As; decide +kernel)⟩
      · exact ⟨hr1 _ _ (by decide +kernel), as_repl hA (by unfold As; decide +kernel)⟩
      · exact ⟨hz1 _ (by decide +kernel), as_app hA (by unfold As; decide +kernel)⟩
      · exact ⟨hz1 _ (by decide +kernel), as_app hA (by unfold As; decide +kernel)⟩
      · exact ⟨hz2 _ (by decide +kernel), as_app (by unfold As; decide +kernel) hA⟩
      · exact ⟨hz2 _ (by decide +kernel), as_app (by unfold As; decide +kernel) hA⟩
      · exact ⟨hr1 _ _ (by decide +kernel), as_repl hA (by unfold As; decide +kernel)⟩
    have hlen17 : (([x ++ " ", " " ++ x, x ++ "]", "[" ++ x, "+" ++ x, "0" ++ x, x ++ " 1", ("(" ++ x) ++ ")"] : List Str) ++ [Txt.replace x "[" "[ ", Txt.replace x "]" " ]", Txt.replace x " " "  ", Txt.replace x "'" ""] ++ [x ++ "A", x ++ ".", "--" ++ x, "''" ++ x, Txt.replace x " " ","]).length = 17 := rfl
    have sm := (((s1.trans s2).trans s3).trans s4).trans s5
    generalize ([x ++ " ", " " ++ x, x ++ "]", "[" ++ x, "+" ++ x, "0" ++ x, x ++ " 1", ("(" ++ x) ++ ")"] : List Str) ++ [Txt.replace x "[" "[ ", Txt.replace x "]" " ]", Txt.replace x " " "  ", Txt.replace x "'" ""] ++ [x ++ "A", x ++ ".", "--" ++ x, "''" ++ x, Txt.replace x " " ","] = ws at h5 hall hlen17
    refine ⟨_, rfl, l5, rfl, ⟨_, .inl (.inl h5)⟩, fun D nD => ?_⟩
    refine lc_list (K := K) (a := l5) (xs := ws.map V.str) (fun j G => G D = some (.lst (((ws.take j).filter (fun w : Str => !decide (w = x))).map V.str)) ∧ Same H5 G) ⟨upd_same, same_upd nD⟩ (fun j G _ ⟨_, t2⟩ => .inl (.inl (t2 _ _ h5))) (fun j y G hy ⟨hG, t2⟩ => ?_) (fun G ⟨hG, t2⟩ => ?_)
    · rw [List.getElem?_map] at hy
      have hj : j < ws.length := by
        by_cases h : j < ws.length
        · exact h
        · rw [List.getElem?_eq_none (by omega)] at hy
          cases hy
      rw [List.getElem?_eq_getElem hj] at hy
      cases hy
      have et : (ws.take (j + 1)).filter (fun w : Str => !decide (w = x)) = (ws.take j).filter (fun w : Str => !decide (w = x)) ++ (if (!decide (ws[j] = x)) = true then [ws[j]] else []) := by
        rw [List.take_add_one, List.getElem?_eq_getElem hj, List.filter_append]
        congr 1
        simp only [Option.toList_some, List.filter_cons, List.filter_nil]
      refine ⟨rfl, ⟨_, rfl, _, rfl, rfl, _, rfl, ?_⟩⟩
      rw [dec_str]
      have hcl : (((ws.take j).filter (fun w : Str => !decide (w = x))).map V.str).length < sizeLine := by
        rw [List.length_map]
        have h2 := List.length_filter_le (fun w : Str => !decide (w = x)) (ws.take j)
        rw [List.length_take] at h2
        exact smallB (by omega)
      cases hq : decide (ws[j] = x) with
      | false =>
        refine iteT ⟨_, rfl, _, hG, hcl, ?_, fun o u eo => ?_⟩
        · rw [upd_same, et, hq]
          simp
        · rw [upd_ne (ne_of_none eo nD)]
          exact t2 _ _ eo
      | true =>
        refine iteF ⟨?_, t2⟩
        rw [hG, et, hq]
        simp
    · rw [List.length_map, List.take_length] at hG
      refine q G D _ (sm.trans t2) (sm.free nD) hG (fun y hy => ?_) ?_
      · obtain ⟨hy1, hy2⟩ := List.mem_filter.mp hy
        refine ⟨fun e => ?_, hall y hy1⟩
        rw [e] at hy2
        simp at hy2
      · rw [← hlen17]
        exact List.length_filter_le _ _
end
end My
namespace My
open PySem PySem.Spec PyProof.Rows L2 TW LX
/-! ### repr -/
mutual
theorem dp_noD {K : PySem.W.Frag} {H : Hp} : ∀ (d : PyData) (v : V), Dp K H v d → d.hasDict = false
  | .none, _, _ => by simp only [PyData.hasDict]
  | .bool _, _, _ => by simp only [PyData.hasDict]
  | .int _, _, _ => by simp only [PyData.hasDict]
  | .str _, _, _ => by simp only [PyData.hasDict]
  | .list ds, v, h => by
    cases h with
    | lst _ ha =>
      simp only [PyData.hasDict]
      exact dpA_noD ds _ ha
  | .tuple ds, v, h => by
    cases h with
    | tup _ ha =>
      simp only [PyData.hasDict]
      exact dpA_noD ds _ ha
  | .dict _, _, h => by cases h
theorem dpA_noD {K : PySem.W.Frag} {H : Hp} : ∀ (ds : List PyData) (vs : List V), DpAll K H vs ds → PyData.hasDictAll ds = false
  | [], _, _ => by simp only [PyData.hasDictAll]
  | d :: ds, _, h => by
    cases h with
    | cons h1 h2 => simp only [PyData.hasDictAll, dp_noD d _ h1, dpA_noD ds _ h2, Bool.or_self]
end
/-- what is shown: data, or the empty dict -/
def Shw (K : PySem.W.Frag) (H : Hp) (v : V) (d : PyData) : Prop := (Dp K H v d ∨ (d = .dict [] ∧ ∃ a, v = .ref a ∧ H a = some (.dK []))) ∧ d.showable = true ∧ d.depth ≤ 20 ∧ d.shown.length ≤ sizeLine
def rRepr (K : PySem.W.Frag) : List V → Hp → VK → Prop := fun xs H Q => ∃ (v : V) (d : PyData), xs = [v] ∧ Shw K H v d ∧ Q (.str d.shown) H
section
variable {X : Cx}
theorem call_repr (hg : X.A.guards = some []) (hu : X.A.units + 64 < cLine) : CallR X (.builtin "repr") (rRepr X.K) := by
  intro pins s σ H xs us Q I r h
  obtain ⟨v, d, rfl, ⟨hd, hsh, hdp, hsz⟩, q⟩ := h
  obtain ⟨u, rfl, ru⟩ := vals1 r
  have fin : ∀ (as : List Addr) (a : Addr), Reads s.heap (.ref a) d as → (d.hasDict = true → sysModules ∉ as) → wpAny (model X.prog X.w) X.A (call (.builtin "repr") [.ref a]) (EP X pins σ Q) X.xe s := fun as a hr hm =>
    repr_of_reads' hr hsh hm hg (by omega) (fun _ _ e => e) (fun h' u' tk k => ⟨.str d.shown, H, I.kept k, ⟨_, rfl⟩, q⟩) hsz
  rcases hd with hd | ⟨rfl, a, rfl, ha⟩
  · obtain ⟨as, hr⟩ := Dp.reads I d v u hd ru
    have nd := dp_noD d v hd
    cases hr with
    | none => exact PySem.P.repr_of_none ⟨.str _, H, I.tok _, ⟨_, rfl⟩, q⟩
    | bool b =>
      refine PySem.P.repr_of_bool ⟨.str _, H, I.tok _, ⟨_, rfl⟩, ?_⟩
      cases b <;> exact q
    | int i t =>
      simp only [PyData.showable, decide_eq_true_eq] at hsh
      exact PySem.P.repr_of_int hsh ⟨.str _, H, I.tok _, ⟨_, rfl⟩, q⟩
    | str x t =>
      simp only [PyData.shown] at hsz q
      exact PySem.P.repr_of_str ⟨.str _, H, I.tok _, ⟨_, rfl⟩, q⟩ hsz
    | list h1 h2 h3 h4 => exact fin _ _ (.list h1 h2 h3 h4) (PyData.noDict_hsm nd)
    | tuple h1 h2 h3 h4 => exact fin _ _ (.tuple h1 h2 h3 h4) (PyData.noDict_hsm nd)
    | dict h1 h2 h3 h4 h5 => simp [PyData.hasDict] at nd
  · cases ru
    obtain ⟨_, hm, vs, kv, o, es, ep, e1, e2, e3, e4, e5, _⟩ := dk_of I.hok ha
    cases kv
    have ee : es.toList = [] := by
      revert e5
      generalize es.toList = l
      intro e5
      cases e5
      rfl
    refine fin [a] a ?_ (fun _ z => ?_)
    · have z : Reads s.heap (.ref a) (.dict []) (a :: [] ++ []) := Reads.dict e1 e2.1 e3 (by rw [ee]; exact .nil) (by rw [ee]; exact .nil)
      exact z
    · rw [List.mem_singleton] at z
      rw [z] at hm
      simp at hm
theorem call_reprK {K : PySem.W.Frag} (e : X.K = K) (hg : X.A.guards = some []) (hu : X.A.units + 64 < cLine) : CallR X (.builtin "repr") (rRepr K) := by
  subst e
  exact call_repr hg hu
end
end My
namespace My
open PySem PySem.Spec PyProof.Rows L2
/-! ### try .. except x as n .. except y as n -/
abbrev Cl := Value × (Addr → Value → Option Addr → TS)
def offD (i : Nat) (D : Ends) : Ends := { nx := fun τ G => D.nx (τ.set i none) G, rt := D.rt, bk := fun τ G => D.bk (τ.set i none) G, ct := fun τ G => D.ct (τ.set i none) G }
/-- what the clauses wish of the exception, one behind the other; slot i is the name's -/
def wCl (K : PySem.W.Frag) (i : Nat) (Wo : WX) (D : Ends) : List Cl → WX
  | [] => Wo
  | q :: r => fun cls d τ G => ∃ hit, PySem.W.exmOne K cls q.1 = some hit ∧ (hit = true → ∀ z, G z = none → q.2 z cls d (offD i D) (τ.set i (some (.ref z))) G) ∧ (hit = false → wCl K i Wo D r cls d τ G)
inductive ClOk (X : Cx) (nm : Str) : List ExceptHandler → List Cl → Prop
  | nil : ClOk X nm [] []
  | cons {y : Str} {cv : Value} {ts : Addr → Value → Option Addr → TS} {st : Stmt} {sts : List Stmt} {p1 p2 : Pos} {hl : List ExceptHandler} {cl : List Cl} (hc : Names X y cv)
      (hsu : ∀ (z : Addr) (oz : Obj) (cls : Value) (d : Option Addr) (pn : List (Addr × Obj)), Zc cls d oz → (∃ fs, oz.data = .fields fs) → PSs (X.suite z ((z, oz) :: pn)) (st :: sts) (ts z cls d)) (r : ClOk X nm hl cl) :
      ClOk X nm (.ExceptHandler (some (.Name y p1)) (some nm) (st :: sts) p2 :: hl) ((cv, ts) :: cl)
section
variable {X : Cx} {nm : Str} {i : Nat} {bd : List Stmt} {hd0 : ExceptHandler} {hl : List ExceptHandler} {cl : List Cl} {pos : Pos} {tb : WX → TS} {Wo : WX}
theorem ps_try_cl (hst : X.stack = X.env :: X.outer) (hfm : X.env.frame = some X.env.locals) (hN : X.N.Nodup) (hi : X.N[i]? = some nm) (hln : X.env.kindOf nm = some .local) (tk : Takes X Wo)
    (hb : ∀ (W : WX) (pn : List (Addr × Obj)) (xe : Value → Shared → Prop), Takes (X.tr pn xe) W → PassesOwn (model X.prog X.w) X.A X.env xe → PSs (X.tr pn xe) bd (tb W))
    (hcl : ClOk X nm (hd0 :: hl) cl) : PS X (.Try bd (hd0 :: hl) [] [] pos) (fun D τ G => tb (wCl X.K i Wo D cl) D τ G) := by
  refine ⟨fun pins s τ G D I hw => ?_⟩
  have okX := I.ok
  have frX : X.A.frames = some (X.env :: X.outer) := by rw [okX.frames, hst]
  have lcX : Loc X.env.scope nm := .inl hln
  refine wpAny_Try_except ?_
  refine wpAny_mono ((hb (wCl X.K i Wo D cl) (X.pn ++ pins) (fun e z1 => wpAny (model X.prog X.w) X.A (noteFrame e X.env) (fun _ z2 => wpAny (model X.prog X.w) X.A (setFlight e none) (fun _ z3 =>
    wpAny (model X.prog X.w) X.A (handleBy e X.env (hd0 :: hl)) (SP X pins D) X.xe z3) X.xe z2) X.xe z1) (fun u z xx => ?_) PassesOwn.looking).run [] s τ G D (I.toTry _) hw) (fun fl z1 hz1 => ?_) (fun e z1 he => he)
  · obtain ⟨xa, Bx, sB, pb, τ1, G1, cls, d, rfl, J0, nb, up0, sky0, xn, os0, ag0, want⟩ := xx
    have J1 : Inv X pins τ1 G1 sB := J0.ofTry okX
    have sky1 : Sky Bx (X.env :: X.outer) xa (Zc cls d) X.env.locals z.heap := by rw [← hst]; exact sky0
    show wpAny (model X.prog X.w) X.A (noteFrame (.ref xa) X.env) _ _ _
    refine Sky.land Zc.steady frX hfm sky1 fun g3 fy3 up3 => ?_
    have J3 : Inv X pins τ1 G1 { z with heap := g3 } := J1.landed nb fy3.1 (up0.trans up3) os0 ag0
    obtain ⟨ox, fs3, hx3, zc3, df3⟩ := fy3.there
    have off : xa ∉ frs (X.env :: X.outer) := fun hm => by
      obtain ⟨_, o2, e2, hnf⟩ := fy3.2.2.1.mem hm
      rw [hx3] at e2; cases e2
      exact hnf _ df3
    have neL : xa ≠ X.env.locals := fun q => off (List.mem_filterMap.mpr ⟨X.env, List.mem_cons_self, by rw [hfm, q]⟩)
    have neF : xa ∉ X.fs := fun hm => by
      obtain ⟨e, he, q⟩ := List.mem_filterMap.mp hm
      exact off (List.mem_filterMap.mpr ⟨e, List.mem_cons_of_mem _ he, q⟩)
    have Su := J3.suite hx3 df3 xn neL neF
    have walk : ∀ {hl2 : List ExceptHandler} {cl2 : List Cl}, ClOk X nm hl2 cl2 → wCl X.K i Wo D cl2 cls d τ1 G1 →
        wpAny (model X.prog X.w) X.A (handleBy (.ref xa) X.env hl2) (SP X pins D) X.xe { z with heap := g3 } := by
      intro hl2 cl2 hk
      induction hk with
      | nil =>
        intro w2
        refine wpAny_handleBy_nil ?_
        obtain ⟨k1, k2, k3, oe, fs, TT, oT, tsT, he, hz, hdt, h1, hr⟩ := id fy3
        unfold PySem.passOn
        refine wpAny_bind (wpAny_field he hdt h1 ?_)
        rw [if_neg (show ¬ ((Value.ref TT == Value.none) = true) from by simp)]
        have out : wpAny (model X.prog X.w) X.A (setFlight (.ref xa) X.env.frame) (fun _ z4 => wpAny (model X.prog X.w) X.A (throw (.ref xa) : Sem Flow) (SP X pins D) X.xe z4) X.xe { z with heap := g3 } := by
          rw [hfm]
          refine HandSPX.setFlight_upZ fy3 fun g4 hg4 up4 => wpAny_throw (tk _ _ ?_)
          exact ⟨xa, Bx, sB, pins, τ1, G1, cls, d, rfl, J1, nb, (up0.trans up3).trans up4, .inr (.inr (by rw [hst]; exact hg4)), xn, os0, ag0, w2⟩
        first
          | exact wpAny_bind (wpAny_pure (wpAny_bind out))
          | exact wpAny_bind out
      | @cons y cv ts st sts p1 p2 hl3 cl3 hc hsu r ih =>
        intro w2
        obtain ⟨hit, hb1, hyes, hno⟩ := w2
        refine wpAny_handleBy_cons (codeAny_handlers_test ?_) (by intro q; cases q)
        have LT : PySem.W.Looks (model X.prog X.w) g3 (typeOf (.ref xa)) cls := fun A Q E z5 k q => wpAny_typeOf_ref (k _ _ hx3) (by rw [zc3.1]; exact q)
        have LM := PySem.W.exm_one (M := model X.prog X.w) (J3.kIn) LT hb1
        have test : ∀ {Q E : Value → Shared → Prop}, Q cv { z with heap := g3 } → wpAny (model X.prog X.w) (X.A.mark (some (.ref xa))) (eval (.Name y p1) X.env) Q E { z with heap := g3 } := fun {Q E} q => by
          obtain ⟨hgl, hdbg, hm | ⟨hm, hv, hnn⟩⟩ := hc
          · exact ld_glob (X := X.suite xa ((xa, ox) :: (X.pn ++ pins))) Su hgl hm q hdbg
          · exact ld_blt (X := X.suite xa ((xa, ox) :: (X.pn ++ pins))) Su hgl hm hv q hnn hdbg
        refine test (LM.here ?_)
        cases hit with
        | true =>
          refine codeAny_handlers_suite_as ?_
          refine HandSPX.lands_againZ fy3 fun g4 fy4 up4 => ?_
          have J4 : Inv X pins τ1 G1 { z with heap := g4 } := J1.landed nb fy4.1 ((up0.trans up3).trans up4) os0 ag0
          obtain ⟨ox4, fs4, hx4, zc4, df4⟩ := fy4.there
          have Su4 := J4.suite hx4 df4 xn neL neF
          refine store_ok (X := X.suite xa ((xa, ox4) :: (X.pn ++ pins))) (v := .ref xa) Su4 hN hi lcX rfl (fun z5 Su5 => ?_) (.inr hln)
          refine wpAny_mono ((hsu xa ox4 cls d (X.pn ++ pins) zc4 ⟨_, df4⟩).run [] z5 _ G1 _ Su5 (hyes rfl xa xn)) (fun fl z6 hz6 => ?_) (fun _ _ q => False.elim q)
          have gone : ∀ {τ6 : L2.St} {G6 : Hp} {Q : Shared → Prop}, Inv (X.suite xa ((xa, ox4) :: (X.pn ++ pins))) [] τ6 G6 z6 → (∀ z7, Inv X pins (τ6.set i none) G6 z7 → Q z7) →
              wpAny (model X.prog X.w) X.A (do bindName X.env nm .none; unbindBehindTheSuite X.env nm p2) (fun _ z7 => Q z7) X.xe z6 := fun {τ6 G6 Q} S6 hq => gone_ok (S6.unsuite okX) hN hi hln hq
          cases fl with
          | next =>
            obtain ⟨τ6, G6, S6, q6⟩ := hz6
            exact gone S6 fun z7 J7 => ⟨_, _, J7, q6⟩
          | brk =>
            obtain ⟨τ6, G6, S6, q6⟩ := hz6
            exact gone S6 fun z7 J7 => ⟨_, _, J7, q6⟩
          | cont =>
            obtain ⟨τ6, G6, S6, q6⟩ := hz6
            exact gone S6 fun z7 J7 => ⟨_, _, J7, q6⟩
          | ret u =>
            obtain ⟨v6, τ6, G6, S6, r6, q6⟩ := hz6
            exact gone S6 fun z7 J7 => ⟨_, _, _, J7, r6, q6⟩
        | false =>
          show wpAny _ X.A (handleBy (.ref xa) X.env hl3) _ _ _
          exact ih (hno rfl)
    exact walk hcl want
  · cases fl with
    | next =>
      obtain ⟨τ1, G1, J1, q⟩ := hz1
      exact wpAny_execs_nil ⟨τ1, G1, J1.ofTry okX, q⟩
    | brk =>
      obtain ⟨τ1, G1, J1, q⟩ := hz1
      exact ⟨τ1, G1, J1.ofTry okX, q⟩
    | cont =>
      obtain ⟨τ1, G1, J1, q⟩ := hz1
      exact ⟨τ1, G1, J1.ofTry okX, q⟩
    | ret u =>
      obtain ⟨vv, τ1, G1, J1, r, q⟩ := hz1
      exact ⟨vv, τ1, G1, J1.ofTry okX, r, q⟩
end
end My
namespace My
open PySem PySem.Spec PyProof.Rows L2 LX
/-! ### classes that are caught -/
/-- an error class that is caught, its field read -/
structure ET (prog : Program) (K : PySem.W.Frag) (mg : Str → Option Value) (x p : Str) (C : Addr) : Prop extends EK prog K mg x p C where
  X : XfC K C
  no : PySem.W.findIn K (.ref C) p = some none
  te : PySem.W.exmOne K (.ref C) (.ref C) = some true
/-- the __init__ of the i-th class -/
def meth (i : Nat) : Stmt := match top i with
  | .ClassDef _ _ _ b _ _ _ _ _ _ _ => b.getD 0 (.Pass ⟨0, 0, 0, 0⟩)
  | s => s
/-- a built-in error class and what it rests on -/
structure Bs (B newId initId : String) (bmB : List Value) : Prop where
  FB : ∃ (B1 i1 : String) (b1 : List Value), ExcBaseFacts B1 newId i1 b1 ∧ bmB.contains (.type B1) = true
  KF : PySem.W.KxsFacts B initId
  IF : InF B initId
  pass : ∀ self : Value, refuseLoop self "__setattr__" bmB = pure ()
  ob : bmB.contains (.type "object") = true
  noA : bmB.contains (.type "AttributeError") = false
  noN : bmB.contains (.type "NameError") = false
abbrev veM : List Value := [.type "ValueError", .type "Exception", .type "BaseException", .type "object"]
theorem bVE : Bs "ValueError" "ValueError.__new__" "ValueError.__init__" veM :=
  ⟨⟨_, _, _, F.excBase_ValueError, by decide +kernel⟩, PySem.W.kxs_ValueError, .of F.excBase_ValueError.toExcCallFacts, F.store_ValueError.passes, by decide +kernel, by decide +kernel, by decide +kernel⟩
/-- the text of an __init__ -/
structure Txt (st : Stmt) (p : Str) : Prop where
  ex : ∃ (msg : Str) (q0 q1 q2 q3 q4 q5 q6 q7 q8 q9 : Pos) (j : Nat) (ar a2 : Arg), defBody st = ibody p msg q0 q1 q2 q3 q4 q5 q6 q7 q8 q9 j ∧ ((defArgs st).posonlyargs ++ (defArgs st).args) = [ar, a2] ∧ ar.arg = ("self" : Str) ∧ (q2.endLine == q4.line) = true
  sc : defScope st = isc p
  b1 : ∀ (qn : Str) (kV doc pm : Value) (an : Option Addr) (cdv ct : Value) (cc : Addr) (u v : Value), bindArgs (PySem.W.ksFn "__init__" qn (defArgs st) (defBody st) (defScope st) .none kV doc pm an cdv ct cc) ⟨[u, v], []⟩ = pure [(("self" : Str), u), (p, v)]
  b2 : ∀ (qn : Str) (kV doc pm : Value) (an : Option Addr) (cdv ct : Value) (cc : Addr) (u v : Value), bindArgs (PySem.W.ksFn "__init__" qn (defArgs st) (defBody st) (defScope st) .none kV doc pm an cdv ct cc) ⟨[u], [(p, v)]⟩ = pure [(("self" : Str), u), (p, v)]
  ps : p ≠ ("self" : Str)
  pc : p ≠ ("__class__" : Str)
  pd : (p == ("__debug__" : Str)) = false
  pu : p ≠ ("super" : Str)
theorem xtS : Txt (meth 2) "value" := ⟨⟨_, _, _, _, _, _, _, _, _, _, _, _, _, _, rfl, rfl, rfl, rfl⟩, rfl, fun _ _ _ _ _ _ _ _ _ _ => rfl, fun _ _ _ _ _ _ _ _ _ _ => rfl, by decide, by decide, by decide, by decide⟩
theorem xtE : Txt (meth 3) "text" := ⟨⟨_, _, _, _, _, _, _, _, _, _, _, _, _, _, rfl, rfl, rfl, rfl⟩, rfl, fun _ _ _ _ _ _ _ _ _ _ => rfl, fun _ _ _ _ _ _ _ _ _ _ => rfl, by decide, by decide, by decide, by decide⟩
theorem et_mk {P : Program} {K : PySem.W.Frag} {h : Heap} {mg : Str → Option Value} {x p : Str} {C fI cc cda : Addr} {B newId initId : String} {bmB : List Value} {st : Stmt} {kV doc pm ct oc ccl cl : Value} {an od cdd cld : Option Addr} {osl ccs csl : Array (Option Value)} {vs : Array Value} {qn : Str}
    (b : Bs B newId initId bmB) (X : Txt st p) (KX : K.In h) (G : h.Ns mainGlobals mg) (noany : PySem.W.nsIn K cStatics "thirdparty.any" = some none) (topS : (P.main.scope.names.lookup ("super" : Str)).isSome = false)
    (hn : PySem.W.nsIn K mainGlobals x = some (some (.ref C))) (q : PySem.W.excInitIn K C bmB newId = true) (ov : PySem.W.excOver K C bmB = true)
    (i1 : PySem.W.findIn K (.ref C) "__init__" = some (some (.ref fI))) (i2 : PySem.W.typeIn K (.ref fI) = some (.type "function"))
    (l : K.lookup fI = some ⟨oc, od, .func (PySem.W.ksFn "__init__" qn (defArgs st) (defBody st) (defScope st) .none kV doc pm an (.ref cda) ct cc), osl⟩)
    (c : PySem.W.codeIn K (.ref cda) qn = true) (d : K.lookup cda = some ⟨ccl, cdd, .fields vs, ccs⟩) (fl : ∃ (file : Str) (tf : Tok), vs[2]? = some (.str file tf) ∧ ((P.main.file : Str) == file) = true)
    (ce : K.lookup cc = some ⟨cl, cld, .cell (some (.ref C)), csl⟩) (sp : PySem.W.ks_superIn K C C "__init__" = some (some (.builtin initId))) (sB : PySem.W.subIn K (.ref C) (.type B) = some true) (sC : PySem.W.mroIn K C (.ref C) = some true)
    (sa : PySem.W.findIn K (.ref C) "__setattr__" = some (some (.builtin "object.__setattr__"))) (hd : PySem.W.hasDictIn K C = true) (hf : PySem.W.findIn K (.ref C) p = some none)
    (ga : PySem.W.findIn K (.ref C) "__getattribute__" = some (some (.builtin "BaseException.__getattribute__"))) (gg : PySem.W.findIn K (.ref C) "__getattr__" = some none) (eC : PySem.W.subIn K (.ref C) (.type "BaseException") = some true)
    (ty : PySem.W.typeIn K (.ref C) = some (.type "type")) (te : PySem.W.exmOne K (.ref C) (.ref C) = some true) (kp : PySem.W.keepIn K (.ref C) = true) : ET P K mg x p C := by
  obtain ⟨⟨msg, q0, q1, q2, q3, q4, q5, q6, q7, q8, q9, j, ar, a2, hb, hp, ha, hq⟩, hs, b1, b2, ps, pc, pd, pu⟩ := X
  obtain ⟨file, tf, v2, hfile⟩ := fl
  refine ⟨⟨⟨[], B, newId, initId, bmB, ⟨b.FB, b.noA, b.noN, b.IF, b.KF, b.pass, b.ob, q, ov, ?_, noany, sp, sB, sC, topS, sa, hd, hf, ps, pc, pd, pu⟩⟩, PySem.W.mg_of KX G hn, kp, eC, ty⟩, ⟨ga, gg, eC, hd⟩, hf, te⟩
  rw [hb, hs] at l
  refine ⟨fI, cc, cda, defArgs st, msg, q0, q1, q2, q3, q4, q5, q6, q7, q8, q9, j, kV, doc, pm, ct, an, oc, od, osl, ar, a2, ccl, cl, cdd, cld, ccs, csl, vs, file, tf, qn, i1, i2, l, c, hp, ha, fun u v => ?_, fun u v => ?_, d, v2, hfile, ce, hq⟩
  · rw [← hb, ← hs]
    exact b1 _ _ _ _ _ _ _ _ _ _
  · rw [← hb, ← hs]
    exact b2 _ _ _ _ _ _ _ _ _ _
end My
namespace My
open PySem PySem.Spec PyProof.Rows L2 LX LamX
/-! ### _law_told -/
theorem boot_repr : bootBuiltins "repr" = some (.builtin "repr") := by decide +kernel
theorem scTold : FnScope ["_law_call", "error"] ["_law_call"] (defScope sTold) := ⟨rfl, rfl, rfl, by decide +kernel, rfl, by decide +kernel, by decide +kernel⟩
theorem pss_len {X : Cx} {b : List Stmt} {t : TS} {n : Nat} (e : X.N.length = n) (h : PSs X b t) : PSs X b (fun D σ H => σ.length = n → t D σ H) := ⟨fun pins s σ H D I w => h.run pins s σ H D I (w (I.len.trans e))⟩
/-- how a refusal ends: the field's value v of a C is shown -/
def Told (K : PySem.W.Frag) (C : Addr) (p wd : Str) (Q : VK) : Value → Option Addr → Hp → Prop := fun cls d H => cls = .ref C ∧ ∃ (dd : Addr) (v : V) (x : PyData), d = some dd ∧ H dd = some (.xd [(p, v)]) ∧ Shw K H v x ∧ ∀ r, H r = none → Q (.ref r) (upd H r (.tup [.str wd, .str x.shown]))
def XTold (K : PySem.W.Frag) (CP CS : Addr) (Q : VK) : XK := fun cls d H => ∃ b, PySem.W.exmOne K cls (.ref CP) = some b ∧ (b = true → Told K CP "text" "parse" Q cls d H) ∧ (b = false → ∃ b2, PySem.W.exmOne K cls (.ref CS) = some b2 ∧ (b2 = true → Told K CS "value" "state" Q cls d H) ∧ (b2 = false → False))
def TTd (K : PySem.W.Frag) (CP CS : Addr) : (XK → Hp → VK → Prop) → Hp → VK → Prop := fun tl H Q =>
  tl (XTold K CP CS Q) H (fun v G => (2 : Nat) ≤ sizeLine ∧ ∀ r, G r = none → Q (.ref r) (upd G r (.tup [.str "told", v])))
theorem told_gv {X : Cx} {g CP CS : Addr} {cdg : Value} {q : Str} (hg : X.A.guards = some []) (hu : X.A.units + 100 < cLine) (IP : ET X.prog X.K X.mg "ParseError" "text" CP) (IS : ET X.prog X.K X.mg "InvalidState" "value" CS) (hr : X.mg "repr" = none) :
    GivesTo X ["_law_call", "error"] "_law_told" (defScope sTold) g cdg (defBody sTold) "_law_call" q (TTd X.K CP CS) := by
  intro f c' s H Q tl act hc h
  have ND := scTold.nd
  have hsuite : ∀ (a : Addr) (pn : List (Addr × Obj)), ((cxOf C8.CX0 X.prog X.w X.K X.mg X.base ["_law_call", "error"] "_law_told" (defScope sTold) g cdg X.A X.stack s H C8.E0).nox.suite a pn).A.guards = some [] := fun a pn => hg
  have usuite : ∀ (a : Addr) (pn : List (Addr × Obj)), ((cxOf C8.CX0 X.prog X.w X.K X.mg X.base ["_law_call", "error"] "_law_told" (defScope sTold) g cdg X.A X.stack s H C8.E0).nox.suite a pn).A.units + 64 < cLine := fun a pn => by
    show X.A.units + 3 + 64 < cLine
    omega
  refine ⟨_, pss_one (ps_try_cl (X := (cxOf C8.CX0 X.prog X.w X.K X.mg X.base ["_law_call", "error"] "_law_told" (defScope sTold) g cdg X.A X.stack s H C8.E0).nox) (i := 1) (Wo := fun _ _ _ _ => False)
      (tb := fun W D σ H => ∃ Ech : XK, (∀ cls d τ G, Ech cls d G → W cls d τ G) ∧ σ[0]? = some (some (.ref f)) ∧ H c' = some (CodeO c' q) ∧ tl Ech H (fun v G => (2 : Nat) ≤ sizeLine ∧ ∀ r, G r = none → D.rt (.ref r) (upd G r (.tup [.str "told", v]))))
      rfl rfl ND rfl rfl LamX.takes0 (fun W pn xe tk _ => ?_)
      (.cons (cv := .ref CP) ⟨rfl, by decide, .inl IP.g⟩ (fun a oe cls d pn hz hf => pss_len (n := 2) rfl (pss_one (ps_ret (pe_tup (pa_cons pe_str (pa_cons (pe_callB (call_reprK (K := X.K) rfl (hsuite a ((a, oe) :: pn)) (usuite a ((a, oe) :: pn))) (by rfl) hr boot_repr (pa_cons (pe_xf IP.X IP.no hz hf (pv 1)) pa_nil)) pa_nil))))))
      (.cons (cv := .ref CS) ⟨rfl, by decide, .inl IS.g⟩ (fun a oe cls d pn hz hf => pss_len (n := 2) rfl (pss_one (ps_ret (pe_tup (pa_cons pe_str (pa_cons (pe_callB (call_reprK (K := X.K) rfl (hsuite a ((a, oe) :: pn)) (usuite a ((a, oe) :: pn))) (by rfl) hr boot_repr (pa_cons (pe_xf IS.X IS.no hz hf (pv 1)) pa_nil)) pa_nil))))))
      .nil))), ?_⟩
  · refine ⟨fun pins s' σ H' D I h' => ?_⟩
    obtain ⟨Ech, hW, h1, h2, h3⟩ := h'
    have hp := fun p1 p2 => act W pn xe Ech p1 p2 tk hW
    exact (pss_one (ps_ret (pe_tup (pa_cons pe_str (pa_cons (hp _ _) pa_nil))))).run pins s' σ H' D I ⟨h1, h2, h3⟩
  · refine ⟨fun cls d G => XTold X.K CP CS Q cls d G, ?_, rfl, hc, ?_⟩
    · rintro cls d τ G ⟨b, e1, e2, e3⟩
      have suite : ∀ (C : Addr) (p wd : Str), Told X.K C p wd Q cls d G → True := fun _ _ _ _ => trivial
      refine ⟨b, e1, fun hb z hz => ?_, fun hb => ?_⟩
      · obtain ⟨rfl, dd, v, x, rfl, hdd, hs, hq⟩ := e2 hb
        intro hl
        rw [List.length_set] at hl
        refine ⟨_, List.getElem?_set_self (by omega), rfl, rfl, dd, _, v, rfl, hdd, by simp, v, x, rfl, hs, by show 2 ≤ sizeLine; decide, fun r hr2 => hq r hr2⟩
      · obtain ⟨b2, f1, f2, f3⟩ := e3 hb
        refine ⟨b2, f1, fun hb2 z hz => ?_, fun hb2 => f3 hb2⟩
        obtain ⟨rfl, dd, v, x, rfl, hdd, hs, hq⟩ := f2 hb2
        intro hl
        rw [List.length_set] at hl
        refine ⟨_, List.getElem?_set_self (by omega), rfl, rfl, dd, _, v, rfl, hdd, by simp, v, x, rfl, hs, by show 2 ≤ sizeLine; decide, fun r hr2 => hq r hr2⟩
    · exact h
end My
namespace My
open PySem PySem.Spec PyProof.Rows L2 LamX
/-! ### the end: a law with a table of its own, asked at the caller alone -/
theorem law_callG {P : Program} {w : World} {K : PySem.W.Frag} {mg mb : Str → Option Value} {fa a c T : Addr} {z : Shared} {vs : List Value} {ns : List Int}
    (KX : K.In z.heap) (hns : z.heap.Ns mainGlobals mg) (hb : z.heap.Ns builtinsNs mb) (hbb : ∀ x : Str, x ≠ "__name__" → mb x = bootBuiltins x) (hlim : z.heap.NoLimit) (hg : z.gens = #[])
    (hT : z.heap.get? T = some { cls := .none, data := .fields #[] }) (nT : K.lookup T = none) (C : PySem.W.CodeHd z.heap c T)
    (hbm : ∃ (bm : Addr) (ob : Obj), mg "__builtins__" = some (.ref bm) ∧ bm ≠ builtinsNs ∧ z.heap.get? bm = some ob ∧ ob.cls = .type "module" ∧ ob.dict = some builtinsNs ∧ ob.data = .plain)
    (ha : z.heap.get? a = some { cls := .type "list", data := .seq vs.toArray }) (hi : IntsAre vs ns) (hl : ns.length ≤ sizeLine)
    (F : ∀ (base : Heap) (H : Hp), K.In base → base.Ns mainGlobals mg → TabB base mg c T → H T = some (.tbl #[]) → SqL K H a (ns.map V.int) → Env0 P w K mg base callerA [] z H →
      codeAny (model P w) callerA (.call (.ref fa) ⟨[.ref a], []⟩) (CR C8.CX0 [] P w H z (fun v _ => v = .bl true) C8.E0) z) :
    codeAny (model P w) callerA (.call (.ref fa) ⟨[.ref a], []⟩) (fun r z2 => r = .ok (.ret (.bool true)) ∧ OldK z.heap z2.heap ∧ z2.os = z.os ∧ AllBare z2.gens) z := by
  have vv := vals_ints hi
  have ln := hi.length
  have naT : a ≠ T := fun q => by
    rw [q, hT] at ha
    cases ha
  have core : ∀ H : Hp, H T = some (.tbl #[]) → (∀ b, H b = none ∨ b = T ∨ ∃ o xs, H b = some (.frz o (.lst xs))) → SqL K H a (ns.map V.int) → HOk P w H z.heap → (∀ b, H b ≠ none → b = a ∨ b = T) → (H a ≠ none → K.lookup a = none) →
      codeAny (model P w) callerA (.call (.ref fa) ⟨[.ref a], []⟩) (fun r z2 => r = .ok (.ret (.bool true)) ∧ OldK z.heap z2.heap ∧ z2.os = z.os ∧ AllBare z2.gens) z := by
    intro H hH hO hS hok hA hK
    have free : ∀ {b : Addr} {o : Obj}, z.heap.get? b = some o → (∀ us n, o.data ≠ .seq us n) → o.data ≠ .fields #[] → H b = none := fun {b o} e h1 h2 => by
      cases q : H b with
      | none => rfl
      | some u =>
        rcases hA b (by rw [q]; simp) with rfl | rfl
        · rw [ha] at e
          cases e
          exact (h1 _ _ rfl).elim
        · rw [hT] at e
          cases e
          exact (h2 rfl).elim
    have dfree : ∀ {b : Addr} {o : Obj} {es : Array DictEntry} {ep : Nat}, z.heap.get? b = some o → o.data = .dict es ep → H b = none := fun {b o es ep} e d => by
      refine free e (fun us n q => ?_) fun q => ?_ <;> (rw [d] at q; cases q)
    have nsK : ∀ {b : Addr} {m : Str → Option Value}, z.heap.Ns b m → (hidT z.heap H).Ns b m := fun {b m} ⟨o, es, ep, e, d, r⟩ => ⟨o, es, ep, hidT_get e (dfree e d), d, r⟩
    have hKb : K.In (hidT z.heap H) := fun b o e => hidT_get (KX b o e) (by
      cases q : H b with
      | none => rfl
      | some u =>
        rcases hA b (by rw [q]; simp) with rfl | rfl
        · rw [hK (by rw [q]; simp)] at e
          cases e
        · rw [nT] at e
          cases e)
    have hM : L2.Mod K mg (hidT z.heap H) := ⟨hKb, nsK hns, ⟨mb, nsK hb, hbb⟩, let ⟨mc, h1, h2⟩ := hlim; ⟨mc, nsK h1, h2⟩⟩
    have TB : TabB (hidT z.heap H) mg c T := by
      refine ⟨?_, ?_, fun q => ?_⟩
      · obtain ⟨o, us, file, tf, flags, tg, inF, text, tt, e1, r1, r2, r3, r4, r5, r6, r7, r8, hne⟩ := C
        refine ⟨o, us, file, tf, flags, tg, inF, text, tt, hidT_get e1 (free e1 (fun vs n q => ?_) fun q => ?_), r1, r2, r3, r4, r5, r6, r7, r8, hne⟩
        · rw [r2] at q
          cases q
        · rw [r2] at q
          cases q
          simp at r3
      · obtain ⟨bm, ob, b1, b2, b3, b4, b5, b6⟩ := hbm
        have nG : bm ≠ mainGlobals := fun q => by
          obtain ⟨o, es, ep, e, hd, _⟩ := hns
          rw [q, e] at b3
          cases b3
          rw [hd] at b6
          cases b6
        have nP : bm ≠ T := fun q => by
          rw [q, hT] at b3
          cases b3
          cases b6
        exact ⟨bm, ob, b1, b2, nG, nP, hidT_get b3 (free b3 (fun vs n q => by rw [b6] at q; cases q) fun q => by rw [b6] at q; cases q), b4, b5, b6⟩
      · obtain ⟨o, es, ep, e, hd, _⟩ := hns
        rw [q, hT] at e
        cases e
        cases hd
    have e0 : Env0 P w K mg (hidT z.heap H) callerA [] z H := ⟨rfl, hM, fun b o e => of_hidT e, Nat.le_of_eq (hidT_size _ _), trivial, fun b hb => absurd (show b ∈ ([] : List Addr) from hb) (by simp), hok, .of_eq hg⟩
    refine codeAny_mono (F _ H hKb (nsK hns) TB hH hS e0) fun r z2 h => ?_
    cases r with
    | error e => exact (show False from h).elim
    | ok fl =>
      cases fl with
      | next => exact False.elim h
      | brk => exact False.elim h
      | cont => exact False.elim h
      | ret u =>
        obtain ⟨v, H2, os, bare, un, hok2, r2, q2⟩ := h
        have q2 : v = .bl true := q2
        subst q2
        obtain rfl : u = Value.bool true := r2
        have key : ∀ b o, b ≠ T → z.heap.get? b = some o → z2.heap.get? b = some o := fun b o nb e => by
          cases q : H b with
          | none => exact un.keep b o e q (by intro y; exact absurd (show b ∈ ([] : List Addr) from y) (by simp)) (by simp)
          | some u =>
            rcases hO b with y | y | ⟨ob, xs, y⟩
            · rw [q] at y; cases y
            · exact absurd y nb
            · have y2 := un.frzs b ob _ y
              obtain ⟨e1, _⟩ := hok b _ y
              obtain ⟨e2, _⟩ := hok2 b _ y2
              rw [e] at e1; cases e1
              exact e2
        obtain ⟨more, grown⟩ : ∃ more : Array Value, z2.heap.get? T = some { cls := .none, data := .fields more } := by
          obtain ⟨more, y⟩ := un.tbls T #[] hH
          exact ⟨_, hok2 T _ y⟩
        refine ⟨rfl, ⟨fun b o e => ?_, fun b o e => ?_⟩, os, bare⟩
        · by_cases nb : b = T
          · subst nb
            rw [hT] at e
            cases e
            exact .inr (.inl ⟨(C.tab hT).isCodeTable, rfl, #[], more, rfl, by rw [Array.empty_append]; exact grown⟩)
          · exact .inl (key b o nb e)
        · by_cases nb : b = T
          · subst nb
            exact ⟨_, grown⟩
          · exact ⟨o, key b o nb e⟩
  cases hk : K.lookup a with
  | some o =>
    have e := KX a o hk
    rw [ha] at e
    cases e
    refine core (fun b => if b = T then some (.tbl #[]) else none) (if_pos rfl) (fun b => ?_) (.inr ⟨_, vs.toArray, _, hk, rfl, rfl, rfl, by rw [List.size_toArray, ln]; exact hl, by simpa using vv⟩) (fun b u y => ?_) (fun b y => ?_) fun y => absurd (if_neg naT) y
    · by_cases nb : b = T
      · exact .inr (.inl nb)
      · exact .inl (if_neg nb)
    · by_cases nb : b = T
      · have y2 := (if_pos nb).symm.trans y
        cases y2
        subst nb
        exact hT
      · have y2 := (if_neg nb).symm.trans y
        cases y2
    · by_cases nb : b = T
      · exact .inr nb
      · exact absurd (if_neg nb) y
  | none =>
    refine core (fun b => if b = a then some (.frz { cls := .type "list", data := .seq vs.toArray } (.lst (ns.map V.int))) else if b = T then some (.tbl #[]) else none) ((if_neg (fun q => naT q.symm)).trans (if_pos rfl)) (fun b => ?_)
      (.inl (.inr ⟨{ cls := .type "list", data := .seq vs.toArray }, if_pos rfl⟩)) (fun b u y => ?_) (fun b y => ?_) fun _ => hk
    · by_cases nb : b = a
      · exact .inr (.inr ⟨_, _, if_pos nb⟩)
      · by_cases nb2 : b = T
        · exact .inr (.inl nb2)
        · exact .inl ((if_neg nb).trans (if_neg nb2))
    · by_cases nb : b = a
      · have y2 := (if_pos nb).symm.trans y
        cases y2
        subst nb
        exact ⟨ha, by rw [List.length_map]; exact hl, vs, _, vv, ha⟩
      · have y1 := (if_neg nb).symm.trans y
        by_cases nb2 : b = T
        · have y2 := (if_pos nb2).symm.trans y1
          cases y2
          subst nb2
          exact hT
        · have y2 := (if_neg nb2).symm.trans y1
          cases y2
    · by_cases nb : b = a
      · exact .inl nb
      · by_cases nb2 : b = T
        · exact .inr nb2
        · exact absurd ((if_neg nb).trans (if_neg nb2)) y
/-- the law's row, from what is known where it is called -/
theorem walkG {l : PySem.W.OpenLaw} {q : Program} {loose : List Str} {XP : (Str → Option Value) → Heap → Prop} {YP : World → Heap → Prop} {d : DefRec} {K : Params → PySem.W.Frag}
    (hn : l.most = some 63) (hdf : d.params.defaults = []) (hrec : ((recsOf q).any fun e => e.name == d.name) = true) (hY : ∀ (w : World) (h : Heap), YP w h → (K w.params).In h)
    (F : ∀ (w : World) (mg : Str → Option Value) (fa : Addr) (h : Heap), (K w.params).In h → h.Ns mainGlobals mg → mg d.name = some (.ref fa) →
      ∃ (c T : Addr) (o oc : Obj) (fd : FuncData) (vs : Array Value), (K w.params).lookup fa = some o ∧ o.data = .func fd ∧ fd.code = .ref c ∧ (K w.params).lookup c = some oc ∧ oc.data = .fields vs ∧ vs[11]? = some (.ref T) ∧ (K w.params).lookup T = none ∧ PySem.W.codeHdIn (K w.params) c T = true ∧
        ∀ (base : Heap) (z : Shared) (H : Hp) (a : Addr) (ns : List Int), (K w.params).In base → base.Ns mainGlobals mg → TabB base mg c T → H T = some (.tbl #[]) → SqL (K w.params) H a (ns.map V.int) → ns.length ≤ 63 → Env0 l.prog w (K w.params) mg base callerA [] z H →
          codeAny (model l.prog w) callerA (.call (.ref fa) ⟨[.ref a], []⟩) (CR C8.CX0 [] l.prog w H z (fun v _ => v = .bl true) C8.E0) z) :
    PySem.W.WalkO q loose XP YP l.row.toRowW d [] (fun f vs => PySem.call f vs) := by
  refine Att.attach_callB hn hdf fun w s₀ s₁ mg mb fa o pm cd doc a vs ns G Y ho hd hcd hmg hobj hints hlen hbits hg => ?_
  have KX := hY w _ Y
  obtain ⟨c, T, o1, oc1, fd1, us, k1, k2, k3, k4, k5, k6, nT, hC, hF⟩ := F w mg fa _ KX G.T.g hmg
  have hT : s₁.heap.get? T = some { cls := .none, data := .fields #[] } := by
    obtain ⟨dL, hm, hn1⟩ := List.any_eq_true.mp hrec
    obtain ⟨a2, o2, fd2, c2, P2, h1, h2, h3, h4, h5, h6⟩ := G.T.tab dL hm
    rw [beq_iff_eq.mp hn1, hmg] at h1
    cases h1
    have g1 := KX _ _ k1
    rw [g1] at h2
    cases h2
    rw [k2] at h3
    cases h3
    rw [k3] at h4
    cases h4
    obtain ⟨⟨oc, vc, e1, _, e3, e4⟩, hP⟩ := h6
    have g2 := KX _ _ k4
    rw [g2] at e1
    cases e1
    rw [k5] at e3
    cases e3
    rw [k6] at e4
    cases e4
    exact hP
  exact law_callG KX G.T.g G.T.b G.T.builtins G.T.nolimit hg hT nT (PySem.W.codeHd_of_K KX hC) G.T.bmain hobj hints (Nat.le_trans hlen (by decide)) fun base H h1 h2 h3 h4 h5 e0 => hF base s₁ H a ns h1 h2 h3 h4 h5 hlen e0
end My
namespace My
open PySem PySem.Spec PyProof.Rows L2 LX LamX
/-! ### what stays where a table grows -/
theorem ext_same {H G : Hp} (s : Same H G) : ExtN H G := ExtN.of s
mutual
theorem th_ext {H G : Hp} (e : ExtN H G) : ∀ (t : T) (v : V), Th H t v → Th G t v
  | .non, _, h => h
  | .bl _, _, h => h
  | .int _, _, h => h
  | .str _, _, h => h
  | .oth d, _, h => by
    unfold Th at h ⊢
    obtain ⟨a, ea, h⟩ := h
    refine ⟨a, ea, ?_⟩
    cases d with
    | true => exact e _ _ h fun ps q => nomatch q
    | false =>
      obtain ⟨xs, h⟩ := h
      exact ⟨xs, e _ _ h fun ps q => nomatch q⟩
  | .tup ts, _, h => by
    unfold Th at h ⊢
    obtain ⟨a, xs, ea, h1, h2, h3⟩ := h
    exact ⟨a, xs, ea, e _ _ h1 (fun ps q => nomatch q), h2, thA_ext e ts xs h3⟩
theorem thA_ext {H G : Hp} (e : ExtN H G) : ∀ (ts : List T) (vs : List V), ThAll H ts vs → ThAll G ts vs
  | [], _, h => h
  | t :: ts, _, h => by
    unfold ThAll at h ⊢
    obtain ⟨v, r, ev, h1, h2⟩ := h
    exact ⟨v, r, ev, th_ext e t v h1, thA_ext e ts r h2⟩
end
theorem rd_ext {H G : Hp} (e : ExtN H G) {a : Addr} {u : HO} (n : ∀ ps, u ≠ .tbl ps) (h : Rd H a u) : Rd G a u := by
  rcases h with h | ⟨o, h⟩
  · exact .inl (e _ _ h n)
  · exact .inr ⟨o, e _ _ h fun ps q => nomatch q⟩
theorem sql_ext {K : PySem.W.Frag} {H G : Hp} (e : ExtN H G) {a : Addr} {xs : List V} (h : SqL K H a xs) : SqL K G a xs := by
  rcases h with h | h
  · exact .inl (rd_ext e (fun ps q => nomatch q) h)
  · exact .inr h
theorem sqt_ext {K : PySem.W.Frag} {H G : Hp} (e : ExtN H G) {a : Addr} {xs : List V} (h : SqT K H a xs) : SqT K G a xs := by
  rcases h with h | h
  · exact .inl (rd_ext e (fun ps q => nomatch q) h)
  · exact .inr h
theorem pool_ext {H G : Hp} (e : ExtN H G) {p : Addr} (h : PoolAt H p) : PoolAt G p := by
  obtain ⟨g, m, ep, h⟩ := h
  exact ⟨g, m, e _ _ ep (fun ps q => nomatch q), h⟩
mutual
theorem dp_ext {K : PySem.W.Frag} {H G : Hp} (e : ExtN H G) : ∀ (d : PyData) (v : V), Dp K H v d → Dp K G v d
  | .none, _, h => by
    cases h
    exact .non
  | .bool b, _, h => by
    cases h
    exact .bl b
  | .int i, _, h => by
    cases h
    exact .int i
  | .str x, _, h => by
    cases h
    exact .str x
  | .list ds, v, h => by
    cases h with
    | lst hs ha => exact .lst (sql_ext e hs) (dpA_ext e ds _ ha)
  | .tuple ds, v, h => by
    cases h with
    | tup hs ha => exact .tup (sqt_ext e hs) (dpA_ext e ds _ ha)
  | .dict _, _, h => by cases h
theorem dpA_ext {K : PySem.W.Frag} {H G : Hp} (e : ExtN H G) : ∀ (ds : List PyData) (vs : List V), DpAll K H vs ds → DpAll K G vs ds
  | [], _, h => by
    cases h
    exact .nil
  | d :: ds, _, h => by
    cases h with
    | cons h1 h2 => exact .cons (dp_ext e d _ h1) (dpA_ext e ds _ h2)
end
theorem shw_ext {K : PySem.W.Frag} {H G : Hp} (e : ExtN H G) {v : V} {d : PyData} (h : Shw K H v d) : Shw K G v d := by
  refine ⟨?_, h.2⟩
  rcases h.1 with hd | ⟨rfl, a, rfl, hd⟩
  · exact .inl (dp_ext e d v hd)
  · exact .inr ⟨rfl, a, rfl, e _ _ hd fun ps q => nomatch q⟩
theorem tabs_off {T : List (Addr × Str)} {p : Addr} {H G : Hp} (h : Tabs T H) (hp : PoolAt H p) (o : Off p H G) : Tabs T G := fun q hq => by
  obtain ⟨g, m, ep, _⟩ := hp
  obtain ⟨ps, h1, h2, h3⟩ := h q hq
  refine ⟨ps, o _ _ (fun z => ?_) h1, h2, fun pos cv hc => ?_⟩
  · rw [z, ep] at h1
    cases h1
  · obtain ⟨c, e1, e2⟩ := h3 pos cv hc
    refine ⟨c, e1, o _ _ (fun z => ?_) e2⟩
    rw [z, ep] at e2
    unfold CodeO at e2
    cases e2
/-! ### _law_told(lambda: ..) -/
section
variable {X : Cx} {f c Tb CP CS : Addr} {fd : FuncData} {k : Nat} {params : Arguments} {body : Expr} {scope : Scope} {t : XK → TE} {p lpos pos : Pos}
theorem pe_told (F : Fun X.K "_law_told" "_law_told" sTold f fd) (b : Binds X.K fd ["_law_call"] []) (gm : X.mg "_law_told" = some (.ref f)) (hgl : Gl X "_law_told") (hg : X.A.guards = some []) (hr : Room (k + 2) X.A)
    (IP : ET X.prog X.K X.mg "ParseError" "text" CP) (IS : ET X.prog X.K X.mg "InvalidState" "value" CS) (hrp : X.mg "repr" = none) (TB : TabB X.base X.mg c Tb) (hcode : X.env.code = .ref c) (L : LamS X.env.scope scope) (hdef : defaultsOf params X.env = ([], []))
    (hbind : ∀ (q : Str) (cl : List (Str × Addr)) (pm cv ctv : Value), bindArgs (PySem.W.kla_fn "<lambda>" q params body scope cl pm cv ctv) ⟨[], []⟩ = pure [])
    (hbody : ∀ (A : Around) (outer : List Env) (s : Shared) (H : Hp) (E : XK) (f c' : Addr), Room k (A.deeper (lamEnv X scope s.heap.objs.size f c')) → PE (lamCx X A outer s H E scope f c') body (t E)) :
    PE X (.Call (.Name "_law_told" p) [.Lambda params body scope lpos] [] pos) (tLam [(Tb, X.env.qual ++ "<lambda>")] (TTd X.K CP CS) t) := by
  obtain ⟨oc, od, kV, doc, pm, an, cdv, ct, osl, rfl, lk, hcd⟩ := F.ex
  exact pe_lamcall hgl gm F.kp lk hcd b scTold rfl (.inl rfl) (told_gv hg (by have := hr.un; omega) IP IS hrp) TB hcode (List.mem_singleton.mpr rfl) (fun q hq _ => by rw [List.mem_singleton.mp hq]) hr L hdef hbind hbody
theorem exm_self {C : Addr} {x p : Str} (I : ET X.prog X.K X.mg x p C) : PySem.W.exmOne X.K (.ref C) (.ref C) = some true := I.te
/-- format_value(y): refused -/
def tTF (K : PySem.W.Frag) (Ts : List (Addr × Str)) (te : TE) : TE := fun σ H Q => Tabs Ts H ∧ ∀ G, ExtN H G → Tabs Ts G → te σ G fun v G1 => ∃ (t : T) (d : PyData), Th G1 t v ∧ shortA t ∧ isVal t = false ∧ Shw K G1 v d ∧
  ∀ G2 r, Same G1 G2 → G2 r = some (.tup [.str "state", .str d.shown]) → Q (.ref r) G2
/-- parse_value(y): what is read, or refused -/
def tTP (K : PySem.W.Frag) (Ts : List (Addr × Str)) (te : TE) : TE := fun σ H Q => Tabs Ts H ∧ ∀ G, ExtN H G → Tabs Ts G → te σ G fun v G1 => ∃ (t : T), Th G1 t v ∧ lenT t ∧
  (isNonT (readT t) = false → ∀ G2 r u, Same G1 G2 → Th G2 (readT t) u → G2 r = some (.tup [.str "told", u]) → Q (.ref r) G2) ∧
  (isNonT (readT t) = true → ∃ d : PyData, Shw K G1 v d ∧ ∀ G2 r, Same G1 G2 → G2 r = some (.tup [.str "parse", .str d.shown]) → Q (.ref r) G2)
theorem PE.imp {e : Expr} {te tf : TE} (h : PE X e te) (w : ∀ σ H Q, tf σ H Q → te σ H Q) : PE X e tf := ⟨fun pins s σ H Q I q => h.run pins s σ H Q I (w _ _ _ q)⟩
def Mono (te : TE) : Prop := ∀ (σ : L2.St) (H : Hp) (Q Q' : VK), (∀ v G, Q v G → Q' v G) → te σ H Q → te σ H Q'
theorem mono_var (i : Nat) : Mono (tVar i) := fun _ _ _ _ h ⟨v, e, q⟩ => ⟨v, e, h _ _ q⟩
theorem raise_told {K : PySem.W.Frag} {H : Hp} {C : Addr} {E : XK} {p wd : Str} {v : V} {d : PyData} {Q : VK} (hE : ∀ dd G, Told K C p wd Q (.ref C) (some dd) G → E (.ref C) (some dd) G) (hd : Shw K H v d)
    (hq : ∀ G r, Same H G → G r = some (.tup [.str wd, .str d.shown]) → Q (.ref r) G) : Raises H E C p v := fun G dd s _ e =>
  hE dd G ⟨rfl, dd, v, d, rfl, e, shw_ext (ext_same s) hd, fun r nr => hq _ r (s.trans (same_upd nr)) upd_same⟩
/-- _law_told(lambda: format_value(e)) -/
theorem pe_toldF {e : Expr} {te : TE} {fF : Addr} {fdF : FuncData} {p2 p4 : Pos} (F : Fun X.K "_law_told" "_law_told" sTold f fd) (b : Binds X.K fd ["_law_call"] []) (gm : X.mg "_law_told" = some (.ref f)) (hgl : Gl X "_law_told") (hg : X.A.guards = some []) (hr : Room 38 X.A)
    (IP : ET X.prog X.K X.mg "ParseError" "text" CP) (IS : ET X.prog X.K X.mg "InvalidState" "value" CS) (hrp : X.mg "repr" = none) (TB : TabB X.base X.mg c Tb) (hcode : X.env.code = .ref c)
    (FF : Fun X.K "format_value" "format_value" sFormatValue fF fdF) (bF : Binds X.K fdF ["value"] []) (gF : X.mg "format_value" = some (.ref fF)) (GF : FnOk X.prog X.w X.K X.mg X.base (L2.CX X.prog X.w) 9 fF fdF ["value"] (spFormat CS))
    (nx : PySem.W.exmOne X.K (.ref CS) (.ref CP) = some false) (L : LamS X.env.scope scope) (hdef : defaultsOf params X.env = ([], []))
    (hbind : ∀ (q : Str) (cl : List (Str × Addr)) (pm cv ctv : Value), bindArgs (PySem.W.kla_fn "<lambda>" q params (.Call (.Name "format_value" p2) [e] [] p4) scope cl pm cv ctv) ⟨[], []⟩ = pure [])
    (hgF : scope.names.lookup ("format_value" : Str) = some .globalImplicit) (mo : Mono te)
    (hst : ∀ env : Env, starEach [e] env = (false, eval e env) :: starEach [] env)
    (he : ∀ (A : Around) (outer : List Env) (s : Shared) (H : Hp) (E : XK) (f c' : Addr), PE (lamCx X A outer s H E scope f c') e te) :
    PE X (.Call (.Name "_law_told" p) [.Lambda params (.Call (.Name "format_value" p2) [e] [] p4) scope lpos] [] pos) (tTF X.K [(Tb, X.env.qual ++ "<lambda>")] te) := by
  refine PE.imp (pe_told (k := 36) (t := fun E => tCall (spFormat CS) [] E (tCons te tNil)) F b gm hgl hg hr IP IS hrp TB hcode L hdef hbind fun A outer s H E f c' hr2 => ?_) fun σ H Q h => ?_
  · exact pe_call (X := lamCx X A outer s H E scope f c') GF (hr2.mono (by decide)) hgF gF FF.kp bF .nil (passes_call (takes_of rfl rfl rfl rfl) (fun _ _ _ _ h => h)) (pa_cons (he A outer s H E f c') pa_nil (hst _)) (by decide) (hst _)
  · obtain ⟨hT, h⟩ := h
    refine ⟨hT, fun G eG TG => ?_⟩
    refine mo _ _ _ _ (fun v G1 hv => ?_) (h G eG TG)
    obtain ⟨t, d, ht, hs, hb, hd, hq⟩ := hv
    refine ⟨t, v, rfl, ht, hs, fun z => absurd z (by rw [hb]; exact Bool.noConfusion), fun _ => ?_⟩
    exact raise_told (fun dd G' hh => ⟨false, nx, (fun z => nomatch z), fun _ => ⟨true, IS.te, fun _ => hh, fun z => nomatch z⟩⟩) hd hq
/-- _law_told(lambda: parse_value(e)) -/
theorem pe_toldP {e : Expr} {te : TE} {fF : Addr} {fdF : FuncData} {p2 p4 : Pos} (F : Fun X.K "_law_told" "_law_told" sTold f fd) (b : Binds X.K fd ["_law_call"] []) (gm : X.mg "_law_told" = some (.ref f)) (hgl : Gl X "_law_told") (hg : X.A.guards = some []) (hr : Room 38 X.A)
    (IP : ET X.prog X.K X.mg "ParseError" "text" CP) (IS : ET X.prog X.K X.mg "InvalidState" "value" CS) (hrp : X.mg "repr" = none) (TB : TabB X.base X.mg c Tb) (hcode : X.env.code = .ref c)
    (FF : Fun X.K "parse_value" "parse_value" sParseValue fF fdF) (bF : Binds X.K fdF ["text"] []) (gF : X.mg "parse_value" = some (.ref fF)) (GF : FnOk X.prog X.w X.K X.mg X.base (L2.CX X.prog X.w) 36 fF fdF ["text"] (spParse CP))
    (L : LamS X.env.scope scope) (hdef : defaultsOf params X.env = ([], []))
    (hbind : ∀ (q : Str) (cl : List (Str × Addr)) (pm cv ctv : Value), bindArgs (PySem.W.kla_fn "<lambda>" q params (.Call (.Name "parse_value" p2) [e] [] p4) scope cl pm cv ctv) ⟨[], []⟩ = pure [])
    (hgF : scope.names.lookup ("parse_value" : Str) = some .globalImplicit) (mo : Mono te)
    (hst : ∀ env : Env, starEach [e] env = (false, eval e env) :: starEach [] env)
    (he : ∀ (A : Around) (outer : List Env) (s : Shared) (H : Hp) (E : XK) (f c' : Addr), Room 36 (A.deeper (lamEnv X scope s.heap.objs.size f c')) → PE (lamCx X A outer s H E scope f c') e te) :
    PE X (.Call (.Name "_law_told" p) [.Lambda params (.Call (.Name "parse_value" p2) [e] [] p4) scope lpos] [] pos) (tTP X.K [(Tb, X.env.qual ++ "<lambda>")] te) := by
  refine PE.imp (pe_told (k := 36) (t := fun E => tCall (spParse CP) [] E (tCons te tNil)) F b gm hgl hg hr IP IS hrp TB hcode L hdef hbind fun A outer s H E f c' hr2 => ?_) fun σ H Q h => ?_
  · exact pe_call (X := lamCx X A outer s H E scope f c') GF hr2 hgF gF FF.kp bF .nil (passes_call (takes_of rfl rfl rfl rfl) (fun _ _ _ _ h => h)) (pa_cons (he A outer s H E f c' hr2) pa_nil (hst _)) (by decide) (hst _)
  · obtain ⟨hT, h⟩ := h
    refine ⟨hT, fun G eG TG => ?_⟩
    refine mo _ _ _ _ (fun v G1 hv => ?_) (h G eG TG)
    obtain ⟨t, ht, hl, hq1, hq2⟩ := hv
    refine ⟨t, v, rfl, ht, hl, fun hb G2 u s2 hu => ?_, fun hb => ?_⟩
    · exact ⟨by decide, fun r nr => hq1 hb _ r u (s2.trans (same_upd nr)) (Th.same (same_upd nr) _ _ hu) upd_same⟩
    · obtain ⟨d, hd, hq⟩ := hq2 hb
      exact raise_told (fun dd G' hh => ⟨true, IP.te, fun _ => hh, fun z => nomatch z⟩) hd hq
end
end My
namespace My
open PySem PySem.Spec PyProof.Rows L2 TW LX LV
/-! ### things as data, and how long their repr is -/
mutual
def dT : T → PyData
  | .non => .none
  | .bl b => .bool b
  | .int i => .int i
  | .str x => .str x
  | .oth _ => .none
  | .tup ts => .tuple (dA ts)
def dA : List T → List PyData
  | [] => []
  | t :: ts => dT t :: dA ts
end
mutual
def sm : T → Bool
  | .non => true
  | .bl _ => true
  | .int i => decide (-(10 ^ 61) < i) && decide (i < 10 ^ 61)
  | .str x => decide (x.length ≤ 100) && x.cps.toList.all fun c => decide (c < 128)
  | .oth _ => false
  | .tup ts => smA ts
def smA : List T → Bool
  | [] => true
  | t :: ts => sm t && smA ts
end
theorem smA_all : ∀ ts : List T, smA ts = ts.all sm
  | [] => by simp only [smA, List.all_nil]
  | t :: ts => by simp only [smA, List.all_cons, smA_all ts]
theorem dA_map : ∀ ts : List T, dA ts = ts.map dT
  | [] => by simp only [dA, List.map_nil]
  | t :: ts => by simp only [dA, List.map_cons, dA_map ts]
mutual
theorem th_dp {K : PySem.W.Frag} {H : Hp} : ∀ (t : T) (v : V), sm t = true → Th H t v → Dp K H v (dT t)
  | .non, v, _, h => by
    unfold Th at h
    subst h
    simp only [dT]
    exact .non
  | .bl b, v, _, h => by
    unfold Th at h
    subst h
    simp only [dT]
    exact .bl b
  | .int i, v, _, h => by
    unfold Th at h
    subst h
    simp only [dT]
    exact .int i
  | .str x, v, _, h => by
    unfold Th at h
    subst h
    simp only [dT]
    exact .str x
  | .oth _, v, hn, _ => by simp only [sm, Bool.false_eq_true] at hn
  | .tup ts, v, hn, h => by
    unfold Th at h
    obtain ⟨a, xs, rfl, ha, _, hx⟩ := h
    simp only [sm] at hn
    simp only [dT]
    exact .tup (SqT.of ha) (thA_dp ts xs hn hx)
theorem thA_dp {K : PySem.W.Frag} {H : Hp} : ∀ (ts : List T) (vs : List V), smA ts = true → ThAll H ts vs → DpAll K H vs (dA ts)
  | [], vs, _, h => by
    unfold ThAll at h
    subst h
    simp only [dA]
    exact .nil
  | t :: ts, vs, hn, h => by
    unfold ThAll at h
    obtain ⟨v, r, rfl, h1, h2⟩ := h
    simp only [smA, Bool.and_eq_true] at hn
    simp only [dA]
    exact .cons (th_dp t v hn.1 h1) (thA_dp ts r hn.2 h2)
end
theorem as_big {x : Str} (h : As x) : ∀ c ∈ x.cps.toList, c < 16 ^ 8 := fun c hc => Nat.lt_trans (h c hc) (by decide)
theorem int_shown {i : Int} (h1 : -(10 ^ 61) < i) (h2 : i < 10 ^ 61) : (PyData.int i).shown.length ≤ 62 := by
  have h : i.natAbs < 10 ^ 61 := by omega
  have := TL.numL_len (n := i.natAbs) (k := 61) (by decide) h
  have e : (PyData.int i).shown = Str.ofString (toString i) := by simp only [PyData.shown]
  rw [e, str_len, int_list]
  unfold intC
  split
  · simp only [List.length_cons]
    omega
  · omega
theorem int_log {i : Int} (h1 : -(10 ^ 61) < i) (h2 : i < 10 ^ 61) : i.natAbs.log2 < 1920 := by
  have hn : i.natAbs < 10 ^ 61 := by omega
  by_cases h0 : i.natAbs = 0
  · rw [h0]
    decide
  · rw [Nat.log2_lt h0]
    exact Nat.lt_of_lt_of_le hn (Nat.le_trans (show (10 : Nat) ^ 61 ≤ 2 ^ 210 by decide) (Nat.pow_le_pow_right (by decide) (by decide)))
theorem str_shown {x : Str} (h : As x) : (PyData.str x).shown.length ≤ 10 * x.length + 2 := by
  have e : (PyData.str x).shown = reprText x := by simp only [PyData.shown]
  rw [e]
  exact StrLaws.reprText_len x (as_big h)
mutual
theorem sm_shown : ∀ t : T, sm t = true → (dT t).showable = true ∧ (dT t).shown.length ≤ 1002 + 1100 * cnt t
  | .non, _ => by
    simp only [dT, PyData.showable, true_and]
    exact Nat.le_trans (show (PyData.shown .none).length ≤ 10 by decide +kernel) (by omega)
  | .bl b, _ => by
    simp only [dT, PyData.showable, true_and]
    exact Nat.le_trans (show (PyData.shown (.bool b)).length ≤ 10 by cases b <;> decide +kernel) (by omega)
  | .int i, h => by
    simp only [sm, Bool.and_eq_true, decide_eq_true_eq] at h
    have := int_shown h.1 h.2
    simp only [dT, PyData.showable, decide_eq_true_eq]
    exact ⟨int_log h.1 h.2, by omega⟩
  | .str x, h => by
    simp only [sm, Bool.and_eq_true, decide_eq_true_eq, List.all_eq_true] at h
    have := str_shown (x := x) h.2
    simp only [dT, PyData.showable, true_and]
    have := h.1
    omega
  | .oth _, h => by simp only [sm, Bool.false_eq_true] at h
  | .tup ts, h => by
    simp only [sm] at h
    obtain ⟨h1, h2⟩ := smA_shown ts h
    simp only [dT, PyData.showable, cnt]
    refine ⟨h1, ?_⟩
    have e : (PyData.tuple (dA ts)).shown = tupleText (PyData.shownAll (dA ts)) := by simp only [PyData.shown]
    rw [e]
    have := tupleText_len_le (PyData.shownAll (dA ts))
    omega
theorem smA_shown : ∀ ts : List T, smA ts = true → PyData.showableAll (dA ts) = true ∧ ((PyData.shownAll (dA ts)).map (·.length)).sum + 2 * (PyData.shownAll (dA ts)).length + 3 ≤ 1002 + 1100 * cntAll ts
  | [], _ => by
    simp only [dA, PyData.showableAll, PyData.shownAll, true_and, List.map_nil, List.sum_nil, List.length_nil]
    omega
  | t :: ts, h => by
    simp only [smA, Bool.and_eq_true] at h
    obtain ⟨h1, h2⟩ := sm_shown t h.1
    obtain ⟨h3, h4⟩ := smA_shown ts h.2
    simp only [dA, PyData.showableAll, PyData.shownAll, h1, h3, Bool.and_self, true_and, List.map_cons, List.sum_cons, List.length_cons, cntAll]
    omega
end
theorem shw_T {K : PySem.W.Frag} {H : Hp} {t : T} {v : V} (hs : sm t = true) (hc : cnt t ≤ 10000) (hd : (dT t).depth ≤ 20) (h : Th H t v) : Shw K H v (dT t) := by
  obtain ⟨h1, h2⟩ := sm_shown t hs
  exact ⟨.inl (th_dp t v hs h), h1, hd, Nat.le_trans h2 (by show _ ≤ 16777216; omega)⟩
theorem shw_S {K : PySem.W.Frag} {H : Hp} {x : Str} (h : As x) (hl : x.length ≤ 1000000) : Shw K H (.str x) (.str x) := by
  have := str_shown h
  refine ⟨.inl (.str x), by simp only [PyData.showable], by simp [PyData.depth], Nat.le_trans this (by show _ ≤ 16777216; omega)⟩
theorem shw_D {K : PySem.W.Frag} {H : Hp} {a : Addr} (h : H a = some (.dK [])) : Shw K H (.ref a) (.dict []) :=
  ⟨.inr ⟨rfl, a, rfl, h⟩, by decide +kernel, by decide +kernel, by decide +kernel⟩
theorem depA_le {k : Nat} : ∀ ts : List T, (∀ t ∈ ts, (dT t).depth ≤ k) → PyData.depthAll (dA ts) ≤ k
  | [], _ => by simp only [dA, PyData.depthAll, Nat.zero_le]
  | t :: ts, h => by
    simp only [dA, PyData.depthAll]
    exact Nat.max_le.mpr ⟨h t List.mem_cons_self, depA_le ts fun u hu => h u (List.mem_cons_of_mem _ hu)⟩
theorem ld_as : ∀ c ∈ ldS.cps.toList, c < 128 := by decide +kernel
theorem plain_sm {t : T} (h : isPlain t = true) : sm t = true ∧ (dT t).depth = 0 := by
  cases t with
  | int i =>
    simp only [isPlain, Bool.and_eq_true, decide_eq_true_eq] at h
    simp only [sm, dT, PyData.depth, Bool.and_eq_true, decide_eq_true_eq, and_true]
    omega
  | str x =>
    simp only [isPlain] at h
    obtain ⟨h1, h2⟩ := textS_mem h
    simp only [sm, dT, PyData.depth, Bool.and_eq_true, decide_eq_true_eq, and_true, List.all_eq_true]
    exact ⟨by omega, fun c hc => ld_as c (h2 c hc)⟩
  | _ => simp [isPlain] at h
theorem lval_sm : ∀ (n : Nat) (t : T), lval n t = true → sm t = true ∧ (dT t).depth ≤ n
  | 0, t, h => by
    cases hT : isTupT t with
    | false =>
      rw [plain_eq hT] at h
      obtain ⟨h1, h2⟩ := plain_sm h
      exact ⟨h1, by omega⟩
    | true =>
      rw [tup_of hT] at h
      simp [lval] at h
  | n + 1, t, h => by
    cases hT : isTupT t with
    | false =>
      rw [plain_eq hT] at h
      obtain ⟨h1, h2⟩ := plain_sm h
      exact ⟨h1, by omega⟩
    | true =>
      rw [tup_of hT] at h ⊢
      generalize kids t = ts at h
      obtain ⟨m, e, _, hk⟩ := lval_kid h
      have e2 : m = n := by omega
      subst e2
      have ih := fun u hu => lval_sm m u (hk u hu)
      simp only [sm, dT, PyData.depth, smA_all, List.all_eq_true]
      exact ⟨fun u hu => (ih u hu).1, Nat.succ_le_succ (depA_le ts fun u hu => (ih u hu).2)⟩
theorem shw_val {K : PySem.W.Frag} {H : Hp} {n : Nat} {t : T} {v : V} (h : lval n t = true) (hn : n ≤ 20) (hc : cnt t ≤ 10000) (ht : Th H t v) : Shw K H v (dT t) := by
  obtain ⟨h1, h2⟩ := lval_sm n t h
  exact shw_T h1 hc (by omega) ht
/-! ### texts have small signs -/
theorem int_as (i : Int) : As (Str.ofString (toString i)) := by
  intro c hc
  rw [int_list] at hc
  unfold intC at hc
  split at hc
  · rcases List.mem_cons.mp hc with rfl | hc
    · decide
    · have := num_range hc
      omega
  · have := num_range hc
    omega
theorem joinL_as : ∀ ls : List (List Nat), (∀ l ∈ ls, ∀ c ∈ l, c < 128) → ∀ c ∈ TL.joinL [32] ls, c < 128
  | [], _, c, hc => by simp [TL.joinL] at hc
  | [l], h, c, hc => by
    simp only [TL.joinL] at hc
    exact h l List.mem_cons_self c hc
  | l :: m :: ls, h, c, hc => by
    simp only [TL.joinL, List.mem_append] at hc
    rcases hc with hc | hc | hc
    · exact h l List.mem_cons_self c hc
    · rw [List.mem_singleton.mp hc]
      decide
    · exact joinL_as (m :: ls) (fun l' hl => h l' (List.mem_cons_of_mem _ hl)) c (by simpa only [TL.joinL, List.mem_append] using hc)
theorem tx_as : ∀ (n : Nat) (t : T), lval n t = true → As (txF t) := by
  have plain : ∀ t : T, isPlain t = true → As (txF t) := fun t h => by
    cases t with
    | int i =>
      simp only [txF]
      exact int_as i
    | str x =>
      simp only [isPlain] at h
      obtain ⟨h1, h2⟩ := textS_mem h
      simp only [txF]
      exact as_app (by unfold As; decide +kernel) fun c hc => ld_as c (h2 c hc)
    | _ => simp [isPlain] at h
  intro n
  induction n with
  | zero =>
    intro t h
    cases hT : isTupT t with
    | false =>
      rw [plain_eq hT] at h
      exact plain t h
    | true =>
      rw [tup_of hT] at h
      simp [lval] at h
  | succ n ih =>
    intro t h
    cases hT : isTupT t with
    | false =>
      rw [plain_eq hT] at h
      exact plain t h
    | true =>
      rw [tup_of hT] at h ⊢
      generalize kids t = ts at h
      obtain ⟨m, e, _, hk⟩ := lval_kid h
      have e2 : m = n := by omega
      subst e2
      intro c hc
      have e3 : (txF (.tup ts)).cps.toList = 91 :: (TL.joinL [32] (ts.map txL) ++ [93]) := txL_tup ts
      rw [e3] at hc
      simp only [List.mem_cons, List.mem_append, List.not_mem_nil, or_false] at hc
      rcases hc with rfl | hc | rfl
      · decide
      · refine joinL_as _ (fun l hl => ?_) c hc
        obtain ⟨u, hu, rfl⟩ := List.mem_map.mp hl
        exact ih u (hk u hu)
      · decide
/-! ### the same things are equal -/
theorem eq_str {K : PySem.W.Frag} {H : Hp} {n : Nat} (x : Str) : EqV K H n (.str x) (.str x) true := by
  have f := EqV.flat (K := K) (H := H) (n := n) (x := .str x) (y := .str x) rfl rfl
  rw [show eqV (.str x) (.str x) = true from beq_self_eq_true x] at f
  exact f
theorem eq_int {K : PySem.W.Frag} {H : Hp} {n : Nat} (x : Int) : EqV K H n (.int x) (.int x) true := by
  have f := EqV.flat (K := K) (H := H) (n := n) (x := .int x) (y := .int x) rfl rfl
  rw [show eqV (.int x) (.int x) = true from beq_self_eq_true x] at f
  exact f
theorem all_tt (n : Nat) : (List.range n).all (fun _ => true) = true := by simp
theorem eq_th {K : PySem.W.Frag} {H : Hp} : ∀ (m : Nat) (n : Nat) (t : T) (v u : V), m ≤ n → lval m t = true → Th H t v → Th H t u → EqV K H n v u true := by
  have plain : ∀ (n : Nat) (t : T) (v u : V), isPlain t = true → Th H t v → Th H t u → EqV K H n v u true := fun n t v u h hv hu => by
    cases t with
    | int i =>
      unfold Th at hv hu
      subst hv hu
      exact eq_int i
    | str x =>
      unfold Th at hv hu
      subst hv hu
      exact eq_str x
    | _ => simp [isPlain] at h
  intro m
  induction m with
  | zero =>
    intro n t v u _ h hv hu
    cases hT : isTupT t with
    | false =>
      rw [plain_eq hT] at h
      exact plain n t v u h hv hu
    | true =>
      rw [tup_of hT] at h
      simp [lval] at h
  | succ m ih =>
    intro n t v u hn h hv hu
    cases hT : isTupT t with
    | false =>
      rw [plain_eq hT] at h
      exact plain n t v u h hv hu
    | true =>
      rw [tup_of hT] at h hv hu
      generalize kids t = ts at h hv hu
      obtain ⟨k, e, _, hk⟩ := lval_kid h
      have e2 : k = m := by omega
      subst e2
      obtain ⟨n, rfl⟩ : ∃ n', n = n' + 1 := ⟨n - 1, by omega⟩
      unfold Th at hv hu
      obtain ⟨a, xs, rfl, ha, _, hxs⟩ := hv
      obtain ⟨b, ys, rfl, hb, _, hys⟩ := hu
      by_cases eab : a = b
      · subst eab
        exact EqV.same a
      · have l1 := thAll_len hxs
        have l2 := thAll_len hys
        have r := RcV.tup (K := K) (n := n) (e := fun _ => true) (SqT.of ha) (SqT.of hb) fun i x y hx hy => by
          have hi : i < ts.length := by
            have := (List.getElem?_eq_some_iff.mp hx).1
            omega
          obtain ⟨w, x', e1, e2, hw⟩ := thAll_get hxs hi
          obtain ⟨w2, y', f1, f2, hw2⟩ := thAll_get hys hi
          rw [hx] at e2
          rw [hy] at f2
          cases e2
          cases f2
          rw [e1] at f1
          cases f1
          exact ih n w x y (by omega) (hk w (List.mem_of_getElem? e1)) hw hw2
        rw [all_tt, show (xs.length == ys.length) = true from beq_iff_eq.mpr (by omega), Bool.and_self] at r
        exact EqV.of_rc eab r
theorem NeV_tup {K : PySem.W.Frag} {H : Hp} {a b : Addr} {xs ys : List V} {n : Nat} {e : Nat → Bool} (ha : SqT K H a xs) (hb : SqT K H b ys) (he : ∀ i x y, xs[i]? = some x → ys[i]? = some y → EqV K H n x y (e i)) :
    NeV K H (n + 1) (.ref a) (.ref b) (!((List.range (min xs.length ys.length)).all e && xs.length == ys.length)) := by
  intro X pins σ s hK I v u rv ru A hu
  subst hK
  obtain rfl : v = Value.ref a := rv
  obtain rfl : u = Value.ref b := ru
  obtain ⟨its, r1, p1, _⟩ := I.tuple ha
  obtain ⟨its2, r2, p2, _⟩ := I.tuple hb
  have l1 := r1.length
  have l2 := r2.length
  have hz : xs.length = its.toArray.size := by rw [List.size_toArray, l1]
  have hz2 : ys.length = its2.toArray.size := by rw [List.size_toArray, l2]
  rw [hz, hz2]
  refine SeqAt.RcNeAt.tuples (e := e) p1 p2 (by omega) fun j h1 h2 => ?_
  rw [List.size_toArray] at h1 h2
  have hx : xs[j]? = some (xs[j]'(by omega)) := List.getElem?_eq_getElem (by omega)
  have hy : ys[j]? = some (ys[j]'(by omega)) := List.getElem?_eq_getElem (by omega)
  obtain ⟨v1, e1, q1⟩ := r1.get hx
  obtain ⟨v2, e2, q2⟩ := r2.get hy
  have f1 : its.toArray[j] = v1 := by
    have := List.getElem?_eq_getElem h1
    rw [e1] at this
    simpa using (Option.some.inj this).symm
  have f2 : its2.toArray[j] = v2 := by
    have := List.getElem?_eq_getElem h2
    rw [e2] at this
    simpa using (Option.some.inj this).symm
  rw [f1, f2]
  exact he j _ _ hx hy X pins σ s rfl I v1 v2 q1 q2 A.in1 (by show A.units + 1 + n < cLine; omega)
theorem ne_two {K : PySem.W.Frag} {H : Hp} {l q : Addr} {a : Str} {x y : V} (hl : H l = some (.tup [.str a, x])) (hq : H q = some (.tup [.str a, y])) (h : EqV K H 59 x y true) : NeV K H 60 (.ref l) (.ref q) false :=
  NeV_tup (n := 59) (e := fun _ => true) (SqT.of hl) (SqT.of hq) fun i p r hp hr => by
    match i, hp, hr with
    | 0, hp, hr =>
      cases hp
      cases hr
      exact eq_str a
    | 1, hp, hr =>
      cases hp
      cases hr
      exact h
    | i + 2, hp, _ => exact absurd hp (by simp)
theorem ne_pair {K : PySem.W.Frag} {H : Hp} {l q : Addr} {a b : Str} (hl : H l = some (.tup [.str a, .str b])) (hq : H q = some (.tup [.str a, .str b])) : NeV K H 60 (.ref l) (.ref q) false := ne_two hl hq (eq_str b)
end My
namespace My
open PySem PySem.Spec PyProof.Rows L2 TW LX LV LamX
/-! ### a sign so many times -/
theorem flat_one (c : Nat) : ∀ (n : Nat) (a : Array Nat), ((List.replicate n (#[c] : Array Nat)).foldl (· ++ ·) a).toList = a.toList ++ List.replicate n c
  | 0, a => by simp
  | n + 1, a => by
    rw [List.replicate_succ, List.foldl_cons, flat_one c n, Array.toList_append, List.append_assoc, List.replicate_succ]
    rfl
def rRepB : R2 := fun x y H Q => ∃ (z : Str) (c : Nat) (k : Int), x = .str z ∧ z = ⟨#[c]⟩ ∧ y = .int k ∧ 2 ≤ k ∧ k ≤ 10000 ∧ Q (.str (mkS (List.replicate k.toNat c))) H
theorem op_repB {X : Cx} : OpR X (binaryOp .Mult) rRepB := by
  intro pins s σ H x y v u Q I rx ry h
  obtain ⟨z, c, k, rfl, rfl, rfl, h1, h2, q⟩ := h
  obtain ⟨t, rfl⟩ := rx
  obtain ⟨t', rfl⟩ := ry
  have hz : (⟨#[c]⟩ : Str).length = 1 := rfl
  have e1 : ¬ k < 1 := by omega
  have e2 : (k == 1 || (⟨#[c]⟩ : Str).length == 0) = false := by
    rw [Bool.or_eq_false_iff, beq_eq_false_iff_ne, beq_eq_false_iff_ne, hz]
    exact ⟨by omega, by omega⟩
  have er : (⟨(List.replicate k.toNat (⟨#[c]⟩ : Str).cps).foldl (· ++ ·) #[]⟩ : Str) = mkS (List.replicate k.toNat c) := by
    apply TL.ext_tl
    show ((List.replicate k.toNat (#[c] : Array Nat)).foldl (· ++ ·) #[]).toList = _
    rw [flat_one]
    exact (list_mk _).symm
  have hl : (mkS (List.replicate k.toNat c)).length = k.toNat := by
    rw [str_len, list_mk, List.length_replicate]
  refine PySem.P.mul_str ?_ (fun _ _ => ?_) (fun _ _ => ?_) ?_
  · rw [Bool.or_eq_false_iff]
    exact ⟨decide_eq_false (by omega), decide_eq_false (by omega)⟩
  · have h3 : (1 : Int) ≤ (2 ^ 63 - 1) / k := (Int.le_ediv_iff_mul_le (by omega)).mpr (by omega)
    rw [hz]
    omega
  · have h4 : ¬ (⟨#[c]⟩ : Str).length * k.toNat > sizeLine := by
      rw [sizeLine_eq, hz]
      omega
    exact decide_eq_false h4
  · rw [if_neg e1, e2]
    refine ⟨?_, ?_⟩
    · rw [sizeLine_eq]
      have := congrArg Str.length er
      rw [hl] at this
      show Str.length _ ≤ _
      omega
    · refine ⟨.str _, H, I.tok _, ⟨_, rfl⟩, ?_⟩
      rw [er]
      exact q
/-! ### what stands in a display -/
/-- the reading makes the thing t -/
def El (te : TE) (t : T) : Prop := ∀ (σ : L2.St) (H : Hp) (Q : VK), (∀ v G, Same H G → Th G t v → Q v G) → te σ H Q
def ElA (ta : TA) (ts : List T) : Prop := ∀ (σ : L2.St) (H : Hp) (Q : List V → Hp → Prop), (∀ vs G, Same H G → ThAll G ts vs → Q vs G) → ta σ H Q
/-- the reading makes a value of which M is true -/
def Em (M : Hp → V → Prop) (te : TE) : Prop := ∀ (σ : L2.St) (H : Hp) (Q : VK), (∀ v G, Same H G → M G v → Q v G) → te σ H Q
def EmA (M : Hp → V → Prop) (ta : TA) (n : Nat) : Prop := ∀ (σ : L2.St) (H : Hp) (Q : List V → Hp → Prop), (∀ vs G, Same H G → vs.length = n → (∀ v ∈ vs, M G v) → Q vs G) → ta σ H Q
theorem el_non : El (tC .non) .non := fun σ H Q h => h _ _ (Same.refl _) (by unfold Th; rfl)
theorem el_bl (b : Bool) : El (tC (.bl b)) (.bl b) := fun σ H Q h => h _ _ (Same.refl _) (by unfold Th; rfl)
theorem el_int (i : Int) : El (tC (.int i)) (.int i) := fun σ H Q h => h _ _ (Same.refl _) (by unfold Th; rfl)
theorem el_str (x : Str) : El (tC (.str x)) (.str x) := fun σ H Q h => h _ _ (Same.refl _) (by unfold Th; rfl)
theorem ela_nil : ElA tNil [] := fun σ H Q h => h _ _ (Same.refl _) (by unfold ThAll; rfl)
theorem ela_cons {te : TE} {ta : TA} {t : T} {ts : List T} (h1 : El te t) (h2 : ElA ta ts) : ElA (tCons te ta) (t :: ts) := fun σ H Q h =>
  h1 σ H _ fun v G s1 hv => h2 σ G _ fun vs G2 s2 hvs => h _ _ (s1.trans s2) (taCons (Th.same s2 _ _ hv) hvs)
theorem el_tup {ta : TA} {ts : List T} (h : ElA ta ts) (hl : ts.length ≤ 1000) : El (tTup ta) (.tup ts) := fun σ H Q q =>
  h σ H _ fun vs G s1 hvs => by
    have hlen := thAll_len hvs
    refine ⟨by show _ ≤ 16777216; omega, fun p np => q _ _ (s1.trans (same_upd np)) (thTup upd_same (by omega) (ThAll.same (same_upd np) _ _ hvs))⟩
theorem el_neg {te : TE} {i : Int} (h : El te (.int i)) : El (tUn (rU fun i => .int (-i)) te) (.int (-i)) := fun σ H Q q =>
  h σ H _ fun v G s1 hv => by
    unfold Th at hv
    subst hv
    exact ⟨_, rfl, q _ _ s1 (by unfold Th; rfl)⟩
theorem el_pow {ta tb : TE} {i j : Int} (h1 : El ta (.int i)) (h2 : El tb (.int j)) (hc : CPow i j) : El (tOp (rI CPow fun i j => .int (i ^ j.toNat)) ta tb) (.int (i ^ j.toNat)) := fun σ H Q q =>
  h1 σ H _ fun v G s1 hv => h2 σ G _ fun u G2 s2 hu => by
    unfold Th at hv hu
    subst hv hu
    exact ⟨_, _, rfl, rfl, hc, q _ _ (s1.trans s2) (by unfold Th; rfl)⟩
theorem el_repB {z : Str} {k : Int} (c : Nat) (hz : z = ⟨#[c]⟩) (h1 : 2 ≤ k) (h2 : k ≤ 10000) : El (tOp rRepB (tC (.str z)) (tC (.int k))) (.str (mkS (List.replicate k.toNat c))) := fun σ H Q q =>
  ⟨_, c, _, rfl, hz, rfl, h1, h2, q _ _ (Same.refl _) (by unfold Th; rfl)⟩
theorem el_cat {ta tb : TE} {x y : Str} (h1 : El ta (.str x)) (h2 : El tb (.str y)) (hl : x.length + y.length ≤ sizeLine) : El (tOp (fun v u H Q => ∃ x y, v = .str x ∧ u = .str y ∧ x.length + y.length ≤ sizeLine ∧ Q (.str (x ++ y)) H) ta tb) (.str (x ++ y)) := fun σ H Q q =>
  h1 σ H _ fun v G s1 hv => h2 σ G _ fun u G2 s2 hu => by
    unfold Th at hv hu
    subst hv hu
    exact ⟨_, _, rfl, rfl, hl, q _ _ (s1.trans s2) (by unfold Th; rfl)⟩
theorem rep_one {α : Type} (n : Nat) (x : α) : (List.replicate n [x]).flatten = List.replicate n x := by
  induction n with
  | zero => rfl
  | succ n ih => rw [List.replicate_succ, List.flatten_cons, ih, List.replicate_succ]; rfl
theorem thAll_rep {H : Hp} {t : T} {x : V} (h : Th H t x) : ∀ n : Nat, ThAll H (List.replicate n t) (List.replicate n x)
  | 0 => by
    simp only [List.replicate_zero]
    exact taNil
  | n + 1 => by
    rw [List.replicate_succ, List.replicate_succ]
    exact taCons h (thAll_rep h n)
theorem el_repT {K : PySem.W.Frag} {te : TE} {t : T} {k : Int} (h : El te t) (h1 : 2 ≤ k) (h2 : k ≤ 1000) : El (tOp (rRepT K) (tTup (tCons te tNil)) (tC (.int k))) (.tup (List.replicate k.toNat t)) := fun σ H Q q =>
  h σ H _ fun v G s1 hv => by
    refine ⟨by show 1 ≤ sizeLine; decide, fun p np => ?_⟩
    have s2 := same_upd (o := .tup [v]) np
    refine ⟨p, k, [v], rfl, rfl, SqT.of upd_same, by simp, h1, h2, by simp, fun r nr => ?_⟩
    have s3 := same_upd (o := .tup (List.replicate k.toNat [v]).flatten) nr
    refine q _ _ ((s1.trans s2).trans s3) ?_
    refine thTup (xs := (List.replicate k.toNat [v]).flatten) upd_same ?_ ?_
    · rw [rep_one, List.length_replicate]
      omega
    · exact Eq.mpr (congrArg (ThAll _ _) (rep_one _ v)) (thAll_rep (Th.same (s2.trans s3) _ _ hv) _)
theorem em_of {M : Hp → V → Prop} {te : TE} {t : T} (h : El te t) (w : ∀ G v, Th G t v → M G v) : Em M te := fun σ H Q q => h σ H _ fun v G s hv => q v G s (w G v hv)
theorem ema_nil {M : Hp → V → Prop} : EmA M tNil 0 := fun σ H Q h => h _ _ (Same.refl _) rfl fun v hv => by cases hv
theorem ema_cons {M : Hp → V → Prop} {te : TE} {ta : TA} {n : Nat} (hM : ∀ {H G : Hp} {v : V}, Same H G → M H v → M G v) (h1 : Em M te) (h2 : EmA M ta n) : EmA M (tCons te ta) (n + 1) := fun σ H Q h =>
  h1 σ H _ fun v G s1 hv => h2 σ G _ fun vs G2 s2 hl hvs => h _ _ (s1.trans s2) (by rw [List.length_cons, hl]) fun u hu => by
    rcases List.mem_cons.mp hu with rfl | hu
    · exact hM s2 hv
    · exact hvs u hu
/-- a list display of them -/
theorem em_lst {M : Hp → V → Prop} {ta : TA} {n : Nat} (hM : ∀ {H G : Hp} {v : V}, Same H G → M H v → M G v) (h : EmA M ta n) (hn : n ≤ 1000) {σ : L2.St} {H : Hp} {Q : VK}
    (q : ∀ p G (vs : List V), Same H G → G p = some (.lst vs) → vs.length = n → (∀ v ∈ vs, M G v) → Q (.ref p) G) : tLst ta σ H Q :=
  h σ H _ fun vs G s1 hl hvs => ⟨by show _ ≤ 16777216; omega, fun p np => q p _ vs (s1.trans (same_upd np)) upd_same hl fun v hv => hM (same_upd np) (hvs v hv)⟩
/-- what format_value refuses, with what is shown -/
def Fm (K : PySem.W.Frag) (H : Hp) (v : V) : Prop := ∃ (t : T) (d : PyData), Th H t v ∧ shortA t ∧ isVal t = false ∧ Shw K H v d
/-- what parse_value refuses -/
def Pm (K : PySem.W.Frag) (H : Hp) (v : V) : Prop := ∃ (t : T) (d : PyData), Th H t v ∧ lenT t ∧ isNonT (readT t) = true ∧ Shw K H v d
theorem Fm.ext {K : PySem.W.Frag} {H G : Hp} {v : V} (e : ExtN H G) (h : Fm K H v) : Fm K G v := by
  obtain ⟨t, d, h1, h2, h3, h4⟩ := h
  exact ⟨t, d, th_ext e _ _ h1, h2, h3, shw_ext e h4⟩
theorem Pm.ext {K : PySem.W.Frag} {H G : Hp} {v : V} (e : ExtN H G) (h : Pm K H v) : Pm K G v := by
  obtain ⟨t, d, h1, h2, h3, h4⟩ := h
  exact ⟨t, d, th_ext e _ _ h1, h2, h3, shw_ext e h4⟩
theorem fm_T {K : PySem.W.Frag} {te : TE} {t : T} (h : El te t) (hs : shortA t) (hv : isVal t = false) (h1 : sm t = true) (h2 : cnt t ≤ 10000) (h3 : (dT t).depth ≤ 20) : Em (Fm K) te := em_of h fun G v ht => ⟨t, dT t, ht, hs, hv, shw_T h1 h2 h3 ht⟩
theorem pm_T {K : PySem.W.Frag} {te : TE} {t : T} (h : El te t) (hs : lenT t) (hv : isNonT (readT t) = true) (h1 : sm t = true) (h2 : cnt t ≤ 10000) (h3 : (dT t).depth ≤ 20) : Em (Pm K) te := em_of h fun G v ht => ⟨t, dT t, ht, hs, hv, shw_T h1 h2 h3 ht⟩
theorem pm_S {K : PySem.W.Frag} {te : TE} {x : Str} (h : El te (.str x)) (hl : x.length ≤ 1000000) (hv : isNonT (readF x) = true) (ha : As x) : Em (Pm K) te := em_of h fun G v ht => by
  refine ⟨.str x, .str x, ht, hl, hv, ?_⟩
  unfold Th at ht
  subst ht
  exact shw_S ha hl
/-- [e]: a list of one -/
theorem em_one {K : PySem.W.Frag} {te : TE} {t : T} {M : Hp → V → Prop} (h : El te t) (h1 : sm t = true) (h2 : cnt t ≤ 1000) (h3 : (dT t).depth ≤ 10) (w : ∀ G v, Th G (.oth false) v → Shw K G v (.list [dT t]) → M G v) : Em M (tLst (tCons te tNil)) := fun σ H Q q =>
  h σ H _ fun v G s1 hv => by
    refine ⟨by show 1 ≤ sizeLine; decide, fun p np => ?_⟩
    refine q _ _ (s1.trans (same_upd np)) (w _ _ ?_ ?_)
    · unfold Th
      exact ⟨p, rfl, by rw [if_neg Bool.false_ne_true]; exact ⟨_, upd_same⟩⟩
    · have hv2 := Th.same (same_upd (o := .lst [v]) np) _ _ hv
      obtain ⟨k1, k2⟩ := sm_shown t h1
      refine ⟨.inl (.lst (SqL.of upd_same) (.cons (th_dp t v h1 hv2) .nil)), ?_, ?_, ?_⟩
      · simp only [PyData.showable, PyData.showableAll, k1, Bool.and_self]
      · simp only [PyData.depth, PyData.depthAll]
        omega
      · have e : (PyData.list [dT t]).shown = listText [(dT t).shown] := by simp only [PyData.shown, PyData.shownAll]
        rw [e]
        have := listText_len_le [(dT t).shown]
        simp only [List.map_cons, List.map_nil, List.sum_cons, List.sum_nil, List.length_cons, List.length_nil] at this
        show _ ≤ 16777216
        omega
theorem em_dict {K : PySem.W.Frag} {M : Hp → V → Prop} (w : ∀ G v, Th G (.oth true) v → Shw K G v (.dict []) → M G v) : Em M tDNewK := fun σ H Q q => fun p np => by
  refine q _ _ (same_upd np) (w _ _ ?_ (shw_D upd_same))
  unfold Th
  exact ⟨p, rfl, by rw [if_pos rfl]; exact upd_same⟩
theorem fm_one {K : PySem.W.Frag} {te : TE} {t : T} (h : El te t) (h1 : sm t = true) (h2 : cnt t ≤ 1000) (h3 : (dT t).depth ≤ 10) : Em (Fm K) (tLst (tCons te tNil)) := em_one (K := K) h h1 h2 h3 fun G v ht hs => ⟨_, _, ht, trivial, rfl, hs⟩
theorem pm_one {K : PySem.W.Frag} {te : TE} {t : T} (h : El te t) (h1 : sm t = true) (h2 : cnt t ≤ 1000) (h3 : (dT t).depth ≤ 10) : Em (Pm K) (tLst (tCons te tNil)) := em_one (K := K) h h1 h2 h3 fun G v ht hs => ⟨_, _, ht, trivial, rfl, hs⟩
theorem fm_dict {K : PySem.W.Frag} : Em (Fm K) tDNewK := em_dict (K := K) fun G v ht hs => ⟨_, _, ht, trivial, rfl, hs⟩
theorem pm_dict {K : PySem.W.Frag} : Em (Pm K) tDNewK := em_dict (K := K) fun G v ht hs => ⟨_, _, ht, trivial, rfl, hs⟩
/-! ### texts that are refused -/
theorem words_tok (x : Str) : wordsF x = (tokL [] x.cps.toList).map mkS := by
  rw [← words_list x, List.map_map]
  have : (mkS ∘ fun w : Str => w.cps.toList) = id := by
    funext w
    exact mk_list w
  rw [this, List.map_id]
def readL (l : List Nat) (x : Str) : T := match nodesF ((tokL [] l).map mkS) [] [] with
  | [n] => if isVal (valF n) && decide (txF (valF n) = x) then valF n else .non
  | _ => .non
theorem read_L {x : Str} {l : List Nat} (e : x.cps.toList = l) : readF x = readL l x := by
  unfold readF readL
  rw [words_tok, e]
  try rfl
theorem read_small {x : Str} (h : isNonT (readL x.cps.toList x) = true) : isNonT (readF x) = true := by
  rw [read_L rfl]
  exact h
theorem read_empty {x : Str} {l : List Nat} (e : x.cps.toList = l) (h : (nodesF ((tokL [] l).map mkS) [] []).isEmpty = true) : isNonT (readF x) = true := by
  rw [read_L e]
  unfold readL
  cases hn : nodesF ((tokL [] l).map mkS) [] [] with
  | nil => rfl
  | cons a b => rw [hn] at h; cases h
theorem read_one {x : Str} {l : List Nat} {n : Nd} (e : x.cps.toList = l) (h : nodesF ((tokL [] l).map mkS) [] [] = [n]) (hv : isVal (valF n) = false) : isNonT (readF x) = true := by
  rw [read_L e]
  unfold readL
  rw [h]
  dsimp only
  rw [hv, Bool.false_and, if_neg Bool.false_ne_true]
  rfl
theorem long_word {c n : Nat} (hc : 48 ≤ c ∧ c ≤ 57) (hn : 61 ≤ n) : wordF (mkS (List.replicate n c)) = .non := by
  obtain ⟨m, rfl⟩ : ∃ m, n = m + 1 := ⟨n - 1, by omega⟩
  have h1 : ∀ d, d ≠ c → hd (mkS (List.replicate (m + 1) c)) d = false := fun d hd' => by
    unfold hd
    rw [list_mk, List.replicate_succ, List.head?_cons]
    exact decide_eq_false (by rw [Option.some.injEq]; exact fun z => hd' z.symm)
  unfold wordF digP
  rw [h1 39 (by omega), h1 45 (by omega), if_neg Bool.false_ne_true, if_neg Bool.false_ne_true]
  unfold badD
  rw [str_len, list_mk, List.length_replicate, decide_eq_true (show (60 : Int) < ((m + 1 : Nat) : Int) by omega), Bool.true_or, Bool.or_true, if_pos rfl]
theorem rep_wordL {c n : Nat} (hc : 48 ≤ c ∧ c ≤ 57) (hn : 61 ≤ n) : wordL (List.replicate n c) := by
  refine ⟨fun z => ?_, fun d hd' => ?_⟩
  · have := congrArg List.length z
    rw [List.length_replicate, List.length_nil] at this
    omega
  · rw [(List.mem_replicate.mp hd').2]
    exact brL_not (.inl hc)
theorem nodes_word {w : List Nat} (h : wordL w) (rest : List Str) (ns : List Nd) {un : List (Str × List Nd)} (hu : un.length < 30) : nodesF (mkS w :: rest) ns un = nodesF rest (ns ++ [.w (mkS w)]) un := by
  obtain ⟨n1, n2⟩ := word_not h
  rw [nodesF_cons, if_neg n1, if_neg n2, if_neg (by omega)]
theorem read_long {c n : Nat} (hc : 48 ≤ c ∧ c ≤ 57) (hn : 61 ≤ n) : isNonT (readF (mkS (List.replicate n c))) = true := by
  have hw := rep_wordL hc hn
  refine read_one (n := .w (mkS (List.replicate n c))) (list_mk _) ?_ ?_
  · have := tok_word1 (w := List.replicate n c) (r := []) hw trivial
    rw [List.append_nil] at this
    rw [this]
    show nodesF (mkS (List.replicate n c) :: _) [] [] = _
    rw [nodes_word hw _ _ (by decide)]
    rfl
  · simp only [valF]
    rw [long_word hc hn]
    rfl
theorem read_longB {c n : Nat} (hc : 48 ≤ c ∧ c ≤ 57) (hn : 61 ≤ n) {x : Str} (e : x.cps.toList = 91 :: (List.replicate n c ++ [93])) : isNonT (readF x) = true := by
  have hw := rep_wordL hc hn
  obtain ⟨b1, b2, b3, b4, b5⟩ := br_eqs
  refine read_one (n := .b "[" [.w (mkS (List.replicate n c))]) e ?_ ?_
  · rw [tok_br (by decide), tok_word1 hw (show sepL [93] from Or.inr (by decide)), tok_br (by decide)]
    show nodesF (mkS [91] :: mkS (List.replicate n c) :: mkS [93] :: _) [] [] = _
    rw [b1, b2, nodesF_cons, if_pos b3, if_neg (by decide), nodes_word hw _ _ (by show 1 < 30; decide), nodesF_cons, if_neg b4, if_pos b5]
    rfl
  · simp only [valF, valAll]
    rw [long_word hc hn]
    rfl
theorem as_rep {c n : Nat} (h : c < 128) : As (mkS (List.replicate n c)) := fun d hd' => by
  rw [list_mk] at hd'
  rw [(List.mem_replicate.mp hd').2]
  exact h
theorem len_rep (c n : Nat) : (mkS (List.replicate n c)).length = n := by
  rw [str_len, list_mk, List.length_replicate]
mutual
theorem sm_short : ∀ t : T, sm t = true → shortA t
  | .non, _ => by simp only [shortA]
  | .bl _, _ => by simp only [shortA]
  | .int _, _ => by simp only [shortA]
  | .str x, h => by
    simp only [sm, Bool.and_eq_true, decide_eq_true_eq] at h
    simp only [shortA]
    have := h.1
    omega
  | .oth _, _ => by simp only [shortA]
  | .tup ts, h => by
    simp only [sm] at h
    simp only [shortA]
    exact smA_short ts h
theorem smA_short : ∀ ts : List T, smA ts = true → shortAll ts
  | [], _ => by simp only [shortAll]
  | t :: ts, h => by
    simp only [smA, Bool.and_eq_true] at h
    simp only [shortAll]
    exact ⟨sm_short t h.1, smA_short ts h.2⟩
end
theorem sm_lenT {t : T} (h : sm t = true) : lenT t := by
  cases t with
  | str x =>
    simp only [sm, Bool.and_eq_true, decide_eq_true_eq] at h
    show x.length ≤ 1000000
    have := h.1
    omega
  | _ => trivial
def fmB (t : T) : Bool := !isVal t && sm t && decide (cnt t ≤ 10000) && decide ((dT t).depth ≤ 20)
def readTL : T → T
  | .str x => readL x.cps.toList x
  | _ => .non
def pmB (t : T) : Bool := isNonT (readTL t) && sm t && decide (cnt t ≤ 10000) && decide ((dT t).depth ≤ 20)
theorem fm_B {K : PySem.W.Frag} {te : TE} {t : T} (h : El te t) (hb : fmB t = true) : Em (Fm K) te := by
  unfold fmB at hb
  simp only [Bool.and_eq_true, Bool.not_eq_true', decide_eq_true_eq] at hb
  obtain ⟨⟨⟨h1, h2⟩, h3⟩, h4⟩ := hb
  exact fm_T h (sm_short t h2) h1 h2 h3 h4
theorem pm_B {K : PySem.W.Frag} {te : TE} {t : T} (h : El te t) (hb : pmB t = true) : Em (Pm K) te := by
  unfold pmB at hb
  simp only [Bool.and_eq_true, decide_eq_true_eq] at hb
  obtain ⟨⟨⟨h1, h2⟩, h3⟩, h4⟩ := hb
  refine pm_T h (sm_lenT h2) ?_ h2 h3 h4
  cases t with
  | str x =>
    show isNonT (readF x) = true
    rw [read_L rfl]
    exact h1
  | _ => rfl
theorem mono_tx : Mono (tCall (spTx 6) [] C8.E0 (tCons (tVar 5) tNil)) := by
  rintro σ H Q Q' h ⟨v, e, t, v', hv, h1, h2, h3, q⟩
  exact ⟨v, e, t, v', hv, h1, h2, h3, fun H' s => h _ _ (q H' s)⟩
/-- what is read is a value, and its text is what was read -/
theorem read_val {x : Str} (h : isNonT (readF x) = false) : isVal (readF x) = true ∧ txF (readF x) = x := by
  unfold readF at h ⊢
  revert h
  generalize nodesF (wordsF x) [] [] = l
  intro h
  match l, h with
  | [], h => cases h
  | [n], h =>
    dsimp only at h ⊢
    by_cases hc : (isVal (valF n) && decide (txF (valF n) = x)) = true
    · rw [if_pos hc]
      rw [Bool.and_eq_true, decide_eq_true_eq] at hc
      exact hc
    · rw [if_neg hc] at h
      cases h
  | n :: m :: l, h => cases h
theorem isVal_lval {t : T} (h : isVal t = true) : lval 5 t = true ∧ cnt t ≤ 50 := by
  rw [val_eq, Bool.and_eq_true, decide_eq_true_eq] at h
  exact h
theorem extn_off {H0 G G' : Hp} {p : Addr} (h : ExtN H0 G) (np : H0 p = none) (o : Off p G G') : ExtN H0 G' := fun b x hb n => o b x (fun z => by
  rw [z, np] at hb
  cases hb) (h b x hb n)
theorem capN5 : capN 5 = 4170 := by decide
theorem fixed_text : txF (.tup [.int 1, .int (-2), .str "", .tup [.str "a"], .tup []]) = "[1 -2 ' ['a] []]" := by decide +kernel
theorem fixed_val : isVal (.tup [.int 1, .int (-2), .str "", .tup [.str "a"], .tup []]) = true := by decide +kernel
theorem fixed_read : readF "'" = .str "" := by
  have h : (match readL ("'" : Str).cps.toList "'" with | .str x => decide (x = "") | _ => false) = true := by decide +kernel
  rw [read_L rfl]
  cases e : readL ("'" : Str).cps.toList "'" with
  | str x =>
    rw [e] at h
    rw [of_decide_eq_true h]
  | _ => rw [e] at h; cases h
def t49 : T := .tup [.tup (List.replicate 49 (.int 1))]
theorem t49_ok : lval 5 t49 = true ∧ isVal t49 = true ∧ cnt t49 ≤ 4170 := by decide +kernel
end My
namespace My
open PySem PySem.Spec PyProof.Rows L2 TW LX LV LamX
/-! ### the law -/
abbrev nmLaw : List Str := ["_law_script", "_law_some", "_law_thing", "_law_k", "_law_pool_here", "_law_worth", "_law_text_here", "_law_told_here"]
theorem scLaw : FnScope nmLaw ["_law_script"] (defScope sLaw) := ⟨rfl, rfl, rfl, by decide +kernel, rfl, by decide +kernel, by decide +kernel⟩
theorem passNo {P : Program} {w : World} {X : Cx} : Passes (L2.CX P w) X E0 := fun _ _ _ _ _ _ _ h => by
  obtain ⟨_, _, _, _, _, _, _, _, _, _, _, _, h⟩ := h
  exact h.elim
structure TxtZ (mg : Str → Option Value) : Prop where
  range : mg "range" = none
  max : mg "max" = none
  min : mg "min" = none
  len : mg "len" = none
  repr : mg "repr" = none
/-- what stays in every step of the law -/
def LI (K : PySem.W.Frag) (a : Addr) (ns : List Int) (Ts : List (Addr × Str)) (H : Hp) : Prop := SqL K H a (ns.map V.int) ∧ Tabs Ts H
theorem LI.same {K : PySem.W.Frag} {a : Addr} {ns : List Int} {Ts : List (Addr × Str)} {H G : Hp} (s : Same H G) (h : LI K a ns Ts H) : LI K a ns Ts G := ⟨s.seq h.1, h.2.ext s⟩
theorem fshow : (dT (.tup [.int 1, .non])).depth ≤ 20 := by decide +kernel
section
variable {P : Program} {w : World} {K : PySem.W.Frag} {mg : Str → Option Value} {base : Heap}
theorem law_any {f c Tb fT fF fV fP fR fI fX fS CP CS : Addr} {fd fdT fdF fdV fdP fdR fdI fdX fdS : FuncData} (F : Fun K "law" "law" sLaw f fd) (hcode : fd.code = .ref c) (bL : Binds K fd ["_law_script"] []) (TB : TabB base mg c Tb) (TZ : TxtZ mg)
    (FT : Fun K "_law_told" "_law_told" sTold fT fdT) (bT : Binds K fdT ["_law_call"] []) (gT : mg "_law_told" = some (.ref fT))
    (IP : ET P K mg "ParseError" "text" CP) (IS : ET P K mg "InvalidState" "value" CS) (nx : PySem.W.exmOne K (.ref CS) (.ref CP) = some false)
    (FF : Fun K "format_value" "format_value" sFormatValue fF fdF) (bF : Binds K fdF ["value"] []) (gF : mg "format_value" = some (.ref fF)) (GF : FnOk P w K mg base (L2.CX P w) 9 fF fdF ["value"] (spFormat CS))
    (FV : Fun K "parse_value" "parse_value" sParseValue fV fdV) (bV : Binds K fdV ["text"] []) (gV : mg "parse_value" = some (.ref fV)) (GV : FnOk P w K mg base (L2.CX P w) 36 fV fdV ["text"] (spParse CP))
    (FP : Fun K "_law_pool" "_law_pool" sPool fP fdP) (bP : Binds K fdP ["_law_script", "_law_k"] []) (gP : mg "_law_pool" = some (.ref fP)) (GP : FnOk P w K mg base CX0 1 fP fdP ["_law_script", "_law_k"] (spPool K))
    (FR : Fun K "_law_random_value" "_law_random_value" sRandom fR fdR) (bR : Binds K fdR ["_law_pool_here", "_law_levels"] []) (gR : mg "_law_random_value" = some (.ref fR)) (GR : FnOk P w K mg base CX0 8 fR fdR ["_law_pool_here", "_law_levels"] (spRV 6))
    (FI : Fun K "_law_items" "_law_items" sLItems fI fdI) (bI : Binds K fdI ["_law_worth"] []) (gI : mg "_law_items" = some (.ref fI)) (GI : FnOk P w K mg base CX0 7 fI fdI ["_law_worth"] (spLI 6))
    (FX : Fun K "_law_text" "_law_text" sLText fX fdX) (bX : Binds K fdX ["_law_worth"] []) (gX : mg "_law_text" = some (.ref fX)) (GX : FnOk P w K mg base CX0 7 fX fdX ["_law_worth"] (spTx 6))
    (FS : Fun K "_law_spoilt" "_law_spoilt" sSpoilt fS fdS) (bS : Binds K fdS ["_law_pool_here", "_law_text_here"] []) (gS : mg "_law_spoilt" = some (.ref fS)) (GS : FnOk P w K mg base CX0 1 fS fdS ["_law_pool_here", "_law_text_here"] spSpoilt)
    {z : Shared} {H : Hp} {a : Addr} {ns : List Int} (hT : H Tb = some (.tbl #[])) (hS : SqL K H a (ns.map V.int)) (hlen : ns.length ≤ 63) (e0 : Env0 P w K mg base callerA [] z H) :
    codeAny (model P w) callerA (.call (.ref f) ⟨[.ref a], []⟩) (CR C8.CX0 [] P w H z (fun v _ => v = .bl true) C8.E0) z := by
  have KX : K.In z.heap := e0.mod.kin.keeps fun b o e => (e0.bs b o e).1
  obtain ⟨oc, od, kV, doc, pm, an, cdv, ct, osl, rfl, lk, hcd⟩ := F.ex
  have hcd' : cdv = .ref c := hcode
  subst hcd'
  have hr0 : Room 41 callerA := ⟨rfl, by decide +kernel, by decide +kernel⟩
  refine run_ofS (N := nmLaw) (ps := ["_law_script"]) (us := [.ref a]) (vs := [.ref a]) lk hcd scLaw hr0 e0 (bL z [.ref a] KX rfl) (.cons rfl .nil) rfl fun hr => ?_
  have ND := scLaw.nd
  have hr1 : Room 1 _ := hr.mono (by decide)
  have hr7 : Room 7 _ := hr.mono (by decide)
  have hr8 : Room 8 _ := hr.mono (by decide)
  have hr9 : Room 9 _ := hr.mono (by decide)
  have hr36 : Room 36 _ := hr.mono (by decide)
  have hr38 : Room 38 _ := hr.mono (by decide)
  have hu := hr.units
  have hu64 : (Around.deeper callerA (envOfC "law" (defScope sLaw) z.heap.objs.size f (.ref c))).units + 64 < cLine := by have := hr.un; omega
  have PO := PassesOwn.leaving (M := model P w) (A := callerA.deeper (envOfC "law" (defScope sLaw) z.heap.objs.size f (.ref c))) (env := envOfC "law" (defScope sLaw) z.heap.objs.size f (.ref c)) (Q₁ := fun e s'' => C8.CX0 [] H z C8.E0 e s'') (E₁ := fun e' s'' => C8.CX0 [] H z C8.E0 e' s'')
  refine ⟨_, C8.pss_cut (ps_set (i := 1) ND rfl (.inr rfl) (pe_lst (pa_cons pe_non (pa_cons pe_bl (pa_cons pe_str (pa_cons pe_str (pa_cons (pe_op op_repB pe_str pe_int) (pa_cons (pe_op op_pow pe_int pe_int) (pa_cons (pe_un un_neg (pe_op op_pow pe_int pe_int))
        (pa_cons (pe_lst (pa_cons pe_int pa_nil)) (pa_cons pe_dnewK pa_nil)))))))))))
    (C8.pss_cut (ps_for PO rfl (pi_list (pe_op op_cat (pv 1) (pe_lst (pa_cons (pe_tup (pa_cons pe_int (pa_cons pe_non pa_nil)))
          (pa_cons (pe_tup (pa_cons (pe_tup (pa_cons (pe_tup (pa_cons (pe_tup (pa_cons (pe_tup (pa_cons (pe_tup pa_nil) pa_nil)) pa_nil)) pa_nil)) pa_nil)) pa_nil))
          (pa_cons (pe_op op_repT (pe_tup (pa_cons pe_int pa_nil)) pe_int)
          (pa_cons (pe_tup (pa_cons (pe_op op_repT (pe_tup (pa_cons pe_int pa_nil)) pe_int) pa_nil))
          (pa_cons (pe_tup (pa_cons (pe_op op_repT (pe_tup (pa_cons pe_int pa_nil)) pe_int) (pa_cons (pe_op op_repT (pe_tup (pa_cons pe_int pa_nil)) pe_int) pa_nil))) pa_nil)))))))) (pg_name (i := 2) ND rfl (.inr rfl))
        (pss_one (ps_if (pt_cmpR (op_neW hu) (pe_toldF FT bT gT (by rfl) (by rfl) hr38 IP IS TZ.repr TB rfl FF bF gF GF nx (lamS_by (by rfl)) rfl (fun _ _ _ _ _ => rfl) rfl (mono_var 2) (fun _ => rfl) (fun _ _ _ _ _ _ _ => pv 2))
            (pe_tup (pa_cons pe_str (pa_cons (pe_callB (call_reprK (K := K) rfl (by rfl) hu64) (by rfl) TZ.repr boot_repr (pa_cons (pv 2) pa_nil)) pa_nil))) (nomark _)) (pss_one (ps_ret pe_bl)) pss_nil)))
    (C8.pss_cut (ps_set (i := 1) ND rfl (.inr rfl) (pe_lst (pa_cons pe_non (pa_cons pe_int (pa_cons (pe_lst (pa_cons pe_str pa_nil)) (pa_cons (pe_tup (pa_cons pe_str pa_nil)) (pa_cons pe_dnewK (pa_cons pe_str (pa_cons pe_str (pa_cons pe_str
        (pa_cons pe_str (pa_cons pe_str (pa_cons pe_str (pa_cons pe_str (pa_cons pe_str (pa_cons pe_str (pa_cons pe_str pa_nil)))))))))))))))))
    (C8.pss_cut (ps_set (i := 1) ND rfl (.inr rfl) (pe_op op_cat (pv 1) (pe_lst (pa_cons (pe_op op_add_str (pe_op op_repB pe_str pe_int) (pe_op op_repB pe_str pe_int)) (pa_cons (pe_op op_repB pe_str pe_int) pa_nil)))))
    (C8.pss_cut (ps_for PO rfl (pi_list (pe_op op_cat (pv 1) (pe_lst (pa_cons pe_str (pa_cons pe_str (pa_cons (pe_op op_repB pe_str pe_int) (pa_cons (pe_op op_add_str pe_str (pe_op op_repB pe_str pe_int))
          (pa_cons (pe_op op_repB pe_str pe_int) (pa_cons (pe_op op_add_str (pe_op op_add_str pe_str (pe_op op_repB pe_str pe_int)) pe_str) pa_nil))))))))) (pg_name (i := 2) ND rfl (.inr rfl))
        (pss_one (ps_if (pt_cmpR (op_neW hu) (pe_toldP FT bT gT (by rfl) (by rfl) hr38 IP IS TZ.repr TB rfl FV bV gV GV (lamS_by (by rfl)) rfl (fun _ _ _ _ _ => rfl) rfl (mono_var 2) (fun _ => rfl) (fun _ _ _ _ _ _ _ _ => pv 2))
            (pe_tup (pa_cons pe_str (pa_cons (pe_callB (call_reprK (K := K) rfl (by rfl) hu64) (by rfl) TZ.repr boot_repr (pa_cons (pv 2) pa_nil)) pa_nil))) (nomark _)) (pss_one (ps_ret pe_bl)) pss_nil)))
    (C8.pss_cut (ps_if (PW.pt (pw_or (pt_cmpR op_ne (pe_call (E := E0) GF hr9 rfl gF FF.kp bF .nil passNo (pa_cons (pe_tup (pa_cons pe_int (pa_cons (pe_un un_neg pe_int) (pa_cons pe_str (pa_cons (pe_tup (pa_cons pe_str pa_nil)) (pa_cons (pe_tup pa_nil) pa_nil)))))) pa_nil)) pe_str (nomark _))
        (pw_or1 (pt_cmpR op_ne (pe_call (E := E0) GV hr36 rfl gV FV.kp bV .nil passNo (pa_cons pe_str pa_nil)) pe_str (nomark _))))) (pss_one (ps_ret pe_bl)) pss_nil)
    (pss_cons (ps_for PO rfl (pi_range1 rfl TZ.range (pa_cons (pe_callB (call_max2 rfl) (by rfl) TZ.max PyProof.Rows.boot_max (pa_cons pe_int (pa_cons (pe_callB (call_min2 rfl) (by rfl) TZ.min PyProof.Rows.boot_min
            (pa_cons (pe_callB call_len_seq (by rfl) TZ.len PySem.boot_len (pa_cons (pv 0) pa_nil)) (pa_cons pe_int pa_nil))) pa_nil))) pa_nil)) (pg_name (i := 3) ND rfl (.inl rfl))
        (C8.pss_cut (ps_set (i := 4) ND rfl (.inl rfl) (pe_call GP hr1 rfl gP FP.kp bP .nil pass0 (pa_cons (pv 0) (pa_cons (pv 3) pa_nil))))
        (C8.pss_cut (ps_set (i := 5) ND rfl (.inr rfl) (pe_call GR hr8 rfl gR FR.kp bR .nil pass0 (pa_cons (pv 4) (pa_cons pe_int pa_nil))))
        (C8.pss_cut (ps_if (pt_cmpR op_gt (pe_call GI hr7 rfl gI FI.kp bI .nil pass0 (pa_cons (pv 5) pa_nil)) pe_int (nomark _))
            (pss_cons (ps_if (pt_cmpR (op_neW hu) (pe_toldF FT bT gT (by rfl) (by rfl) hr38 IP IS TZ.repr TB rfl FF bF gF GF nx (lamS_by (by rfl)) rfl (fun _ _ _ _ _ => rfl) rfl (mono_var 5) (fun _ => rfl) (fun _ _ _ _ _ _ _ => pv 5))
                (pe_tup (pa_cons pe_str (pa_cons (pe_callB (call_reprK (K := K) rfl (by rfl) hu64) (by rfl) TZ.repr boot_repr (pa_cons (pv 5) pa_nil)) pa_nil))) (nomark _)) (pss_one (ps_ret pe_bl)) pss_nil)
            (pss_cons (ps_if (pt_cmpR (op_neW hu) (pe_toldP FT bT gT (by rfl) (by rfl) hr38 IP IS TZ.repr TB rfl FV bV gV GV (lamS_by (by rfl)) rfl (fun _ _ _ _ _ => rfl) rfl (te := tCall (spTx 6) [] C8.E0 (tCons (tVar 5) tNil)) mono_tx (fun _ => rfl)
                  (fun _ _ _ _ _ _ _ hq => pe_call GX (hq.mono (by decide)) rfl gX FX.kp bX .nil pass0 (pa_cons (pv 5) pa_nil)))
                (pe_tup (pa_cons pe_str (pa_cons (pe_callB (call_reprK (K := K) rfl (by rfl) hu64) (by rfl) TZ.repr boot_repr (pa_cons (pe_call GX hr7 rfl gX FX.kp bX .nil pass0 (pa_cons (pv 5) pa_nil)) pa_nil)) pa_nil))) (nomark _)) (pss_one (ps_ret pe_bl)) pss_nil)
            (pss_one (ps_set (i := 5) ND rfl (.inr rfl) (pe_tup (pa_cons (pe_op op_repT (pe_tup (pa_cons pe_int pa_nil)) pe_int) pa_nil)))))) pss_nil)
        (C8.pss_cut (ps_set (i := 6) ND rfl (.inr rfl) (pe_call (E := E0) GF hr9 rfl gF FF.kp bF .nil passNo (pa_cons (pv 5) pa_nil)))
        (C8.pss_cut (ps_if (PW.pt (pw_or (pt_cmpR op_ne (pv 6) (pe_call GX hr7 rfl gX FX.kp bX .nil pass0 (pa_cons (pv 5) pa_nil)) (nomark _))
            (pw_or1 (pt_cmpR (op_neW hu) (pe_toldP FT bT gT (by rfl) (by rfl) hr38 IP IS TZ.repr TB rfl FV bV gV GV (lamS_by (by rfl)) rfl (fun _ _ _ _ _ => rfl) rfl (mono_var 6) (fun _ => rfl) (fun _ _ _ _ _ _ _ _ => pv 6))
              (pe_tup (pa_cons pe_str (pa_cons (pv 5) pa_nil))) (nomark _))))) (pss_one (ps_ret pe_bl)) pss_nil)
        (pss_one (ps_for PO rfl (pi_list (pe_call GS hr1 rfl gS FS.kp bS .nil pass0 (pa_cons (pv 4) (pa_cons (pv 6) pa_nil)))) (pg_name (i := 1) ND rfl (.inr rfl))
          (C8.pss_cut (ps_set (i := 7) ND rfl (.inl rfl) (pe_toldP FT bT gT (by rfl) (by rfl) hr38 IP IS TZ.repr TB rfl FV bV gV GV (lamS_by (by rfl)) rfl (fun _ _ _ _ _ => rfl) rfl (mono_var 1) (fun _ => rfl) (fun _ _ _ _ _ _ _ _ => pv 1)))
          (pss_cons (ps_if (PW.pt (pw_and (pt_cmpR op_eq (pe_ix ix_tup (pv 7) pe_int (fun _ _ => rfl)) pe_str (nomark _))
              (pw_and1 (PW.pt (pw_or (pt_cmpR op_eq (pv 1) (pv 6) (nomark _)) (pw_or1 (pt_cmpR op_ne (pe_call (E := E0) GF hr9 rfl gF FF.kp bF .nil passNo (pa_cons (pe_ix ix_tup (pv 7) pe_int (fun _ _ => rfl)) pa_nil)) (pv 1) (nomark _)))))))) (pss_one (ps_ret pe_bl)) pss_nil)
          (pss_one (ps_if (PW.pt (pw_and (pt_cmpR op_ne (pe_ix ix_tup (pv 7) pe_int (fun _ _ => rfl)) pe_str (nomark _))
              (pw_and1 (pt_cmpR (op_neW hu) (pv 7) (pe_tup (pa_cons pe_str (pa_cons (pe_callB (call_reprK (K := K) rfl (by rfl) hu64) (by rfl) TZ.repr boot_repr (pa_cons (pv 1) pa_nil)) pa_nil))) (nomark _))))) (pss_one (ps_ret pe_bl)) pss_nil))))))))))))
    (pss_one (ps_ret pe_bl)))))))), ?_⟩
  have LI0 : LI K a ns [(Tb, (cxOf C8.CX0 P w K mg base nmLaw "law" (defScope sLaw) f (.ref c) callerA [] z H C8.E0).env.qual ++ "<lambda>")] H := ⟨hS, fun p hp => by
    rw [List.mem_singleton.mp hp]
    exact TabS.nil hT⟩
  generalize hTs : [(Tb, (cxOf C8.CX0 P w K mg base nmLaw "law" (defScope sLaw) f (.ref c) callerA [] z H C8.E0).env.qual ++ "<lambda>")] = Ts at LI0 ⊢
  clear hTs
  have hFx : ∀ {H G : Hp} {v : V}, Same H G → Fm K H v → Fm K G v := fun s h => Fm.ext (ExtN.of s) h
  have hPx : ∀ {H G : Hp} {v : V}, Same H G → Pm K H v → Pm K G v := fun s h => Pm.ext (ExtN.of s) h
  refine ⟨fun σ' H' => ∃ (l : Addr) (vs : List V), σ' = [some (.ref a), some (.ref l), none, none, none, none, none, none] ∧ LI K a ns Ts H' ∧ H' l = some (.lst vs) ∧ vs.length = 9 ∧ ∀ v ∈ vs, Fm K H' v, ?_, ?_⟩
  · dsimp only [tAsg]
    refine em_lst (M := Fm K) (n := 9) hFx (ema_cons hFx (fm_B el_non (by decide +kernel)) (ema_cons hFx (fm_B (el_bl _) (by decide +kernel)) (ema_cons hFx (fm_B (el_str _) (by decide +kernel)) (ema_cons hFx (fm_B (el_str _) (by decide +kernel))
      (ema_cons hFx (fm_B (el_repB 97 (by decide +kernel) (by decide) (by decide)) (by decide +kernel)) (ema_cons hFx (fm_B (el_pow (el_int _) (el_int _) ⟨by decide, by decide, by decide⟩) (by decide +kernel)) (ema_cons hFx (fm_B (el_neg (el_pow (el_int _) (el_int _) ⟨by decide, by decide, by decide⟩)) (by decide +kernel))
      (ema_cons hFx (fm_one (el_int _) (by decide +kernel) (by decide +kernel) (by decide +kernel)) (ema_cons hFx fm_dict ema_nil))))))))) (by decide) fun p G vs s1 hp hl hv => ?_
    exact ⟨p, vs, rfl, LI0.same s1, hp, hl, hv⟩
  rintro σ1 H1 ⟨l1, vs1, rfl, L1, hl1, hn1, hv1⟩
  refine ⟨fun σ' H' => ∃ z1 z2 : Option V, σ' = [some (.ref a), z1, z2, none, none, none, none, none] ∧ LI K a ns Ts H', ?_, ?_⟩
  · refine ⟨_, rfl, ?_⟩
    refine em_lst (M := Fm K) (n := 5) hFx (ema_cons hFx (fm_B (el_tup (ela_cons (el_int _) (ela_cons el_non ela_nil)) (by decide)) (by decide +kernel))
      (ema_cons hFx (fm_B (el_tup (ela_cons (el_tup (ela_cons (el_tup (ela_cons (el_tup (ela_cons (el_tup (ela_cons (el_tup ela_nil (by decide)) ela_nil) (by decide)) ela_nil) (by decide)) ela_nil) (by decide)) ela_nil) (by decide)) ela_nil) (by decide)) (by decide +kernel))
      (ema_cons hFx (fm_B (el_repT (el_int _) (by decide) (by decide)) (by decide +kernel))
      (ema_cons hFx (fm_B (el_tup (ela_cons (el_repT (el_int _) (by decide) (by decide)) ela_nil) (by decide)) (by decide +kernel))
      (ema_cons hFx (fm_B (el_tup (ela_cons (el_repT (el_int _) (by decide) (by decide)) (ela_cons (el_repT (el_int _) (by decide) (by decide)) ela_nil)) (by decide)) (by decide +kernel)) ema_nil))))) (by decide) fun p2 G vs2 s1 hp2 hn2 hv2 => ?_
    refine ⟨l1, p2, vs1, vs2, rfl, rfl, s1 _ _ hl1, hp2, by rw [hn1, hn2]; decide, fun p3 np3 => ?_⟩
    have s3 := same_upd (o := .lst (vs1 ++ vs2)) np3
    have hv3 : ∀ v ∈ vs1 ++ vs2, Fm K (upd G p3 (.lst (vs1 ++ vs2))) v := fun v hv => by
      rcases List.mem_append.mp hv with h | h
      · exact hFx (s1.trans s3) (hv1 v h)
      · exact hFx s3 (hv2 v h)
    refine ⟨p3, rfl, ⟨_, .inl (.inl upd_same)⟩, ?_⟩
    refine for_list (K := K) (a := p3) (xs := vs1 ++ vs2) (fun i σ' H' => ∃ z2 : Option V, σ' = [some (.ref a), some (.ref l1), z2, none, none, none, none, none] ∧ LI K a ns Ts H' ∧ H' p3 = some (.lst (vs1 ++ vs2)) ∧ ∀ v ∈ vs1 ++ vs2, Fm K H' v)
      ⟨none, rfl, L1.same (s1.trans s3), upd_same, hv3⟩ (fun i σ' H' _ ⟨_, _, _, h, _⟩ => SqL.of h) (fun i x σ' H' hx ⟨z2, e, LI', hp, hv⟩ => ?_) (fun σ' H' ⟨z2, e, LI', _, _⟩ => ⟨_, _, e, LI'⟩)
    subst e
    obtain ⟨t, d, ht, hs, hb, hd⟩ := hv x (List.mem_of_getElem? hx)
    refine ⟨LI'.2, fun G1 eG TG => ⟨x, rfl, t, d, th_ext eG _ _ ht, hs, hb, shw_ext eG hd, fun G2 r s2 hr2 => ?_⟩⟩
    refine ⟨x, rfl, x, d, rfl, shw_ext (eG.trans (ExtN.of s2)) hd, by show 2 ≤ sizeLine; decide, fun q nq => ?_⟩
    have s4 := same_upd (o := .tup [V.str "state", .str d.shown]) nq
    refine ⟨false, ne_pair (s4 _ _ hr2) upd_same, _, rfl, iteF ?_⟩
    have eE := (eG.trans (ExtN.of (s2.trans s4)))
    exact ⟨_, rfl, ⟨sql_ext eE LI'.1, TG.ext (s2.trans s4)⟩, eE _ _ hp (fun ps q => nomatch q), fun v h => Fm.ext eE (hv v h)⟩
  rintro σ2 H2 ⟨z1, z2, rfl, L2'⟩
  have pS : ∀ x : Str, pmB (.str x) = true → Em (Pm K) (tC (.str x)) := fun x h => pm_B (el_str x) h
  refine ⟨fun σ' H' => ∃ (l : Addr) (vs : List V), σ' = [some (.ref a), some (.ref l), z2, none, none, none, none, none] ∧ LI K a ns Ts H' ∧ H' l = some (.lst vs) ∧ vs.length = 15 ∧ ∀ v ∈ vs, Pm K H' v, ?_, ?_⟩
  · dsimp only [tAsg]
    refine em_lst (M := Pm K) (n := 15) hPx (ema_cons hPx (pm_B el_non (by decide +kernel)) (ema_cons hPx (pm_B (el_int _) (by decide +kernel)) (ema_cons hPx (pm_one (el_str _) (by decide +kernel) (by decide +kernel) (by decide +kernel))
      (ema_cons hPx (pm_B (el_tup (ela_cons (el_str _) ela_nil) (by decide)) (by decide +kernel)) (ema_cons hPx pm_dict (ema_cons hPx (pS _ (by decide +kernel)) (ema_cons hPx (pS _ (by decide +kernel)) (ema_cons hPx (pS _ (by decide +kernel)) (ema_cons hPx (pS _ (by decide +kernel))
      (ema_cons hPx (pS _ (by decide +kernel)) (ema_cons hPx (pS _ (by decide +kernel)) (ema_cons hPx (pS _ (by decide +kernel)) (ema_cons hPx (pS _ (by decide +kernel)) (ema_cons hPx (pS _ (by decide +kernel)) (ema_cons hPx (pS _ (by decide +kernel)) ema_nil))))))))))))))) (by decide) fun p G vs s1 hp hl hv => ?_
    exact ⟨p, vs, rfl, L2'.same s1, hp, hl, hv⟩
  rintro σ3 H3 ⟨l3, vs3, rfl, L3, hl3, hn3, hv3⟩
  refine ⟨fun σ' H' => ∃ (l : Addr) (vs : List V), σ' = [some (.ref a), some (.ref l), z2, none, none, none, none, none] ∧ LI K a ns Ts H' ∧ H' l = some (.lst vs) ∧ vs.length = 17 ∧ ∀ v ∈ vs, Pm K H' v, ?_, ?_⟩
  · refine ⟨_, rfl, ?_⟩
    refine em_lst (M := Pm K) (n := 2) hPx (ema_cons hPx (pm_S (el_cat (el_repB 91 (by decide +kernel) (by decide) (by decide)) (el_repB 93 (by decide +kernel) (by decide) (by decide)) (by rw [len_rep, len_rep]; decide)) (by rw [app_len, len_rep, len_rep]; decide)
        (read_empty (l := List.replicate 1200 91 ++ List.replicate 1200 93) (by rw [app_list, list_mk, list_mk]; rfl) (by decide +kernel)) (as_app (as_rep (by decide)) (as_rep (by decide))))
      (ema_cons hPx (pm_S (el_repB 91 (by decide +kernel) (by decide) (by decide)) (by rw [len_rep]; decide) (read_empty (l := List.replicate 1200 91) (by rw [list_mk]; rfl) (by decide +kernel)) (as_rep (by decide))) ema_nil)) (by decide) fun p2 G vs2 s1 hp2 hn2 hv2 => ?_
    refine ⟨l3, p2, vs3, vs2, rfl, rfl, s1 _ _ hl3, hp2, by rw [hn3, hn2]; decide, fun p3 np3 => ?_⟩
    have s3 := same_upd (o := .lst (vs3 ++ vs2)) np3
    exact ⟨p3, vs3 ++ vs2, rfl, L3.same (s1.trans s3), upd_same, by rw [List.length_append, hn3, hn2], fun v hv => by
      rcases List.mem_append.mp hv with h | h
      · exact hPx (s1.trans s3) (hv3 v h)
      · exact hPx s3 (hv2 v h)⟩
  clear hv3 hl3 hn3
  rintro σ4 H4 ⟨l4, vs4, rfl, L4, hl4, hn4, hv4⟩
  refine ⟨fun σ' H' => ∃ z1 z2 : Option V, σ' = [some (.ref a), z1, z2, none, none, none, none, none] ∧ LI K a ns Ts H', ?_, ?_⟩
  · refine ⟨_, rfl, ?_⟩
    refine em_lst (M := Pm K) (n := 6) hPx (ema_cons hPx (pS _ (by decide +kernel)) (ema_cons hPx (pS _ (by decide +kernel))
      (ema_cons hPx (pm_B (el_repB 49 (by decide +kernel) (by decide) (by decide)) (by decide +kernel))
      (ema_cons hPx (pm_B (el_cat (el_str _) (el_repB 57 (by decide +kernel) (by decide) (by decide)) (by decide +kernel)) (by decide +kernel))
      (ema_cons hPx (pm_S (el_repB 55 (by decide +kernel) (by decide) (by decide)) (by rw [len_rep]; decide) (read_long (by decide) (by decide)) (as_rep (by decide)))
      (ema_cons hPx (pm_S (el_cat (el_cat (el_str _) (el_repB 49 (by decide +kernel) (by decide) (by decide)) (by rw [len_rep]; decide +kernel)) (el_str _) (by rw [app_len, len_rep]; decide +kernel)) (by rw [app_len, app_len, len_rep]; decide +kernel)
        (read_longB (c := 49) (n := 5000) (by decide) (by decide) (by rw [app_list, app_list, list_mk, quote_list.2.1, quote_list.2.2]; rfl)) (as_app (as_app (by unfold As; decide +kernel) (as_rep (by decide))) (by unfold As; decide +kernel))) ema_nil)))))) (by decide) fun p2 G vs2 s1 hp2 hn2 hv2 => ?_
    refine ⟨l4, p2, vs4, vs2, rfl, rfl, s1 _ _ hl4, hp2, by rw [hn4, hn2]; decide, fun p3 np3 => ?_⟩
    have s3 := same_upd (o := .lst (vs4 ++ vs2)) np3
    have hv3 : ∀ v ∈ vs4 ++ vs2, Pm K (upd G p3 (.lst (vs4 ++ vs2))) v := fun v hv => by
      rcases List.mem_append.mp hv with h | h
      · exact hPx (s1.trans s3) (hv4 v h)
      · exact hPx s3 (hv2 v h)
    refine ⟨p3, rfl, ⟨_, .inl (.inl upd_same)⟩, ?_⟩
    refine for_list (K := K) (a := p3) (xs := vs4 ++ vs2) (fun i σ' H' => ∃ z2 : Option V, σ' = [some (.ref a), some (.ref l4), z2, none, none, none, none, none] ∧ LI K a ns Ts H' ∧ H' p3 = some (.lst (vs4 ++ vs2)) ∧ ∀ v ∈ vs4 ++ vs2, Pm K H' v)
      ⟨z2, rfl, L4.same (s1.trans s3), upd_same, hv3⟩ (fun i σ' H' _ ⟨_, _, _, h, _⟩ => SqL.of h) (fun i x σ' H' hx ⟨z2, e, LI', hp, hv⟩ => ?_) (fun σ' H' ⟨z2, e, LI', _, _⟩ => ⟨_, _, e, LI'⟩)
    subst e
    obtain ⟨t, d, ht, hs, hb, hd⟩ := hv x (List.mem_of_getElem? hx)
    refine ⟨LI'.2, fun G1 eG TG => ⟨x, rfl, t, th_ext eG _ _ ht, hs, fun z => absurd z (by rw [hb]; exact Bool.noConfusion), fun _ => ⟨d, shw_ext eG hd, fun G2 r s2 hr2 => ?_⟩⟩⟩
    refine ⟨x, rfl, x, d, rfl, shw_ext (eG.trans (ExtN.of s2)) hd, by show 2 ≤ sizeLine; decide, fun q nq => ?_⟩
    have s4 := same_upd (o := .tup [V.str "parse", .str d.shown]) nq
    refine ⟨false, ne_pair (s4 _ _ hr2) upd_same, _, rfl, iteF ?_⟩
    have eE := (eG.trans (ExtN.of (s2.trans s4)))
    exact ⟨_, rfl, ⟨sql_ext eE LI'.1, TG.ext (s2.trans s4)⟩, eE _ _ hp (fun ps q => nomatch q), fun v h => Pm.ext eE (hv v h)⟩
  clear hv4 hl4 hn4
  rintro σ5 H5 ⟨z1, z2, rfl, L5⟩
  refine ⟨fun σ' H' => ∃ z1 z2 : Option V, σ' = [some (.ref a), z1, z2, none, none, none, none, none] ∧ LI K a ns Ts H', ?_, ?_⟩
  · dsimp only [tIfS, tOr, tTest, tOp, tCall]
    refine ela_cons (el_tup (ela_cons (el_int _) (ela_cons (el_neg (el_int _)) (ela_cons (el_str _) (ela_cons (el_tup (ela_cons (el_str _) ela_nil) (by show 1 ≤ 1000; decide)) (ela_cons (el_tup ela_nil (by decide)) ela_nil))))) (by show 5 ≤ 1000; decide)) ela_nil _ _ _ fun vs G s1 hvs => ?_
    unfold ThAll at hvs
    obtain ⟨v, r, rfl, hv, hr⟩ := hvs
    unfold ThAll at hr
    subst hr
    refine ⟨_, v, rfl, hv, sm_short _ (by decide +kernel), fun _ G2 s2 => ?_, fun e => absurd (fixed_val.symm.trans e) Bool.noConfusion⟩
    refine ⟨rfl, _, rfl, ?_⟩
    rw [dec_str, fixed_text, decide_eq_true rfl]
    refine iteF ?_
    refine ⟨.str "'", _, rfl, thStr, by show Str.length _ ≤ 1000000; decide +kernel, fun _ G3 u s3 hu => ?_, fun e => ?_⟩
    · have hu' : Th G3 (readF "'") u := hu
      rw [fixed_read] at hu'
      unfold Th at hu'
      subst hu'
      refine ⟨rfl, _, rfl, ?_⟩
      rw [dec_str, decide_eq_true rfl]
      exact iteF ⟨_, _, rfl, L5.same ((s1.trans s2).trans s3)⟩
    · have e' : isNonT (readF "'") = true := e
      rw [fixed_read] at e'
      cases e'
  clear L5
  rintro σ6 H6 ⟨z1, z2, rfl, L6⟩
  refine ⟨_, rfl, a, _, rfl, .inl L6.1, _, _, rfl, _, _, rfl, _, rfl, ?_⟩
  have hN : ∃ N : Nat, (if (if (12 : Int) < ((ns.map V.int).length : Nat) then (12 : Int) else ((ns.map V.int).length : Nat)) > 1 then (if (12 : Int) < ((ns.map V.int).length : Nat) then (12 : Int) else ((ns.map V.int).length : Nat)) else 1) = (N : Int) ∧ N ≤ 12 := by
    refine ⟨(if (if (12 : Int) < ((ns.map V.int).length : Nat) then (12 : Int) else ((ns.map V.int).length : Nat)) > 1 then (if (12 : Int) < ((ns.map V.int).length : Nat) then (12 : Int) else ((ns.map V.int).length : Nat)) else 1).toNat, ?_, ?_⟩
    · split <;> split <;> omega
    · split <;> split <;> omega
  obtain ⟨N, eN, hN12⟩ := hN
  rw [eN]
  refine ⟨by omega, by omega, ?_⟩
  refine for_range (lo := 0) (n := N) (fun i σ H' => ∃ z1 z2 z3 z4 z5 z6 z7 : Option V, σ = [some (.ref a), z1, z2, z3, z4, z5, z6, z7] ∧ LI K a ns Ts H') ⟨_, _, _, _, _, _, _, rfl, L6⟩ (fun i σ Hk hi hPv => ?_) (fun σ Hk _ => rfl)
  clear L6
  obtain ⟨z1, z2, z3, z4, z5, z6, z7, rfl, LK⟩ := hPv
  -- the pool
  refine ⟨fun σ' H' => ∃ p : Addr, σ' = [some (.ref a), z1, z2, some (.int (0 + (i : Int))), some (.ref p), z5, z6, z7] ∧ Hk p = none ∧ ExtN Hk H' ∧ Tabs Ts H' ∧ PoolAt H' p, ?_, ?_⟩
  · refine ⟨_, rfl, _, rfl, a, ns, i, congrArg (fun z => [V.ref a, V.int z]) (show (0 : Int) + (i : Int) = (i : Int) by omega), LK.1, hlen, by omega, fun Hp p smp np hp => ?_⟩
    exact ⟨p, rfl, np, ExtN.of smp, LK.2.ext smp, hp⟩
  rintro σ7 H7 ⟨p, rfl, np, E7, T7, P7⟩
  -- the value
  refine ⟨fun σ' H' => ∃ (t : T) (v : V), σ' = [some (.ref a), z1, z2, some (.int (0 + (i : Int))), some (.ref p), some v, z6, z7] ∧ ExtN Hk H' ∧ Tabs Ts H' ∧ Th H' t v ∧ lval 5 t = true ∧ cnt t ≤ 4170, ?_, ?_⟩
  · refine ⟨_, rfl, p, rfl, P7, fun t v H' hlv hct hv off hp' => ?_⟩
    rw [capN5] at hct
    exact ⟨t, v, rfl, extn_off E7 np off, tabs_off T7 P7 off, hv, hlv, hct⟩
  clear E7 T7 P7
  rintro σ8 H8 ⟨t, v, rfl, E8, T8, hv8, hlv8, hct8⟩
  -- more than 50 items
  refine ⟨fun σ' H' => ∃ (t : T) (v : V), σ' = [some (.ref a), z1, z2, some (.int (0 + (i : Int))), some (.ref p), some v, z6, z7] ∧ ExtN Hk H' ∧ Tabs Ts H' ∧ Th H' t v ∧ lval 5 t = true ∧ isVal t = true ∧ cnt t ≤ 4170, ?_, ?_⟩
  · refine ⟨v, rfl, t, v, rfl, hv8, hlv8, fun G1 s1 => ⟨_, _, rfl, rfl, _, rfl, ?_⟩⟩
    refine ite2 (fun hc => ?_) (fun hc => ?_)
    · have hc' := of_decide_eq_true hc
      have hval : isVal t = false := by
        rw [val_eq, decide_eq_false (by omega), Bool.and_false]
      have hsm := lval_sm 5 t hlv8
      have hread : readF (txF t) = .non := by
        rw [read_tx (n := 5) (by decide) hlv8, if_neg (by rw [hval]; exact Bool.noConfusion)]
      have htl : (txF t).length ≤ 1000000 := by
        have := tx_len 5 t hlv8
        omega
      refine ⟨T8.ext s1, fun G eG TG => ⟨v, rfl, t, dT t, th_ext eG _ _ (Th.same s1 _ _ hv8), sm_short t hsm.1, hval, shw_val hlv8 (by decide) (by omega) (th_ext eG _ _ (Th.same s1 _ _ hv8)), fun G2 r s2 hr2 => ?_⟩⟩
      have e2 := (ExtN.of s1).trans (eG.trans (ExtN.of s2))
      refine ⟨v, rfl, v, dT t, rfl, shw_val hlv8 (by decide) (by omega) (th_ext e2 _ _ hv8), by show 2 ≤ sizeLine; decide, fun q nq => ?_⟩
      have s4 := same_upd (o := .tup [V.str "state", .str (dT t).shown]) nq
      refine ⟨false, ne_pair (s4 _ _ hr2) upd_same, _, rfl, iteF ?_⟩
      have e4 := e2.trans (ExtN.of s4)
      have T4 := (TG.ext s2).ext s4
      generalize upd G2 q (.tup [V.str "state", .str (dT t).shown]) = G4 at e4 T4
      clear s4 hr2
      refine ⟨T4, fun G5 eG5 TG5 => ⟨v, rfl, t, v, rfl, th_ext (e4.trans eG5) _ _ hv8, hlv8, by omega, fun G6 s6 => ⟨.str (txF t), thStr, htl, fun z => absurd z ?_, fun _ => ⟨.str (txF t), shw_S (tx_as 5 t hlv8) htl, fun G7 r7 s7 hr7 => ?_⟩⟩⟩⟩
      · show ¬ isNonT (readF (txF t)) = false
        rw [hread]
        exact Bool.noConfusion
      have e7 := (e4.trans eG5).trans (ExtN.of (s6.trans s7))
      refine ⟨v, rfl, t, v, rfl, th_ext e7 _ _ hv8, hlv8, by omega, fun G8 s8 => ?_⟩
      refine ⟨.str (txF t), .str (txF t), rfl, shw_S (tx_as 5 t hlv8) htl, by show 2 ≤ sizeLine; decide, fun q9 nq9 => ?_⟩
      have s9 := same_upd (o := .tup [V.str "parse", .str (PyData.str (txF t)).shown]) nq9
      refine ⟨false, ne_pair ((s8.trans s9) _ _ hr7) upd_same, _, rfl, iteF ?_⟩
      have e9 := e7.trans (ExtN.of (s8.trans s9))
      have T9 := TG5.ext (s6.trans (s7.trans (s8.trans s9)))
      generalize upd G8 q9 (.tup [V.str "parse", .str (PyData.str (txF t)).shown]) = G9 at e9 T9
      dsimp only [tNext, tAsg]
      refine el_tup (ela_cons (el_repT (t := .int 1) (k := 49) (el_int _) (by decide) (by decide)) ela_nil) (by show 1 ≤ 1000; decide) _ _ _ fun u G10 s10 hu => ?_
      exact ⟨t49, u, rfl, E8.trans (e9.trans (ExtN.of s10)), T9.ext s10, hu, t49_ok.1, t49_ok.2.1, t49_ok.2.2⟩
    · refine ⟨t, v, rfl, E8.trans (ExtN.of s1), T8.ext s1, Th.same s1 _ _ hv8, hlv8, ?_, hct8⟩
      have hc' : ¬ (50 : Int) < (cnt t : Int) := fun z => hc (decide_eq_true z)
      rw [val_eq, hlv8, decide_eq_true (by omega), Bool.and_self]
  clear hv8 hlv8 hct8 E8 T8 t v
  rintro σ9 H9 ⟨t, v, rfl, E9, T9, hv9, hlv9, hval9, hct9⟩
  have hsm := lval_sm 5 t hlv9
  have hread : readF (txF t) = t := by
    rw [read_tx (n := 5) (by decide) hlv9, if_pos hval9]
  have htl : (txF t).length ≤ 300000 := by
    have := tx_len 5 t hlv9
    omega
  -- the text
  refine ⟨fun σ' H' => σ' = [some (.ref a), z1, z2, some (.int (0 + (i : Int))), some (.ref p), some v, some (.str (txF t)), z7] ∧ ExtN Hk H' ∧ Tabs Ts H' ∧ Th H' t v, ?_, ?_⟩
  · refine ⟨v, rfl, t, v, rfl, hv9, sm_short t hsm.1, fun _ G s1 => ?_, fun e => absurd (hval9.symm.trans e) Bool.noConfusion⟩
    exact ⟨rfl, E9.trans (ExtN.of s1), T9.ext s1, Th.same s1 _ _ hv9⟩
  clear E9 T9 hv9
  rintro σ10 H10 ⟨rfl, E10, T10, hv10⟩
  -- it is the law's text, and is read back
  refine ⟨fun σ' H' => σ' = [some (.ref a), z1, z2, some (.int (0 + (i : Int))), some (.ref p), some v, some (.str (txF t)), z7] ∧ ExtN Hk H' ∧ Tabs Ts H', ?_, ?_⟩
  · refine ⟨_, rfl, v, rfl, t, v, rfl, hv10, hlv9, by omega, fun G1 s1 => ⟨rfl, _, rfl, ?_⟩⟩
    rw [dec_str, decide_eq_true rfl]
    refine iteF ?_
    refine ⟨T10.ext s1, fun G eG TG => ⟨_, rfl, .str (txF t), thStr, by show (txF t).length ≤ 1000000; omega, fun _ G2 r u s2 hu hr => ?_, fun e => ?_⟩⟩
    · have hu' : Th G2 (readF (txF t)) u := hu
      rw [hread] at hu'
      have e2 := (ExtN.of s1).trans (eG.trans (ExtN.of s2))
      refine ⟨v, rfl, by show 2 ≤ sizeLine; decide, fun q nq => ?_⟩
      have s4 := same_upd (o := .tup [V.str "told", v]) nq
      refine ⟨false, ne_two (s4 _ _ hr) upd_same (eq_th 5 59 t u v (by decide) hlv9 (Th.same s4 _ _ hu') (Th.same s4 _ _ (th_ext e2 _ _ hv10))), _, rfl, iteF ?_⟩
      exact ⟨rfl, E10.trans (e2.trans (ExtN.of s4)), (TG.ext s2).ext s4⟩
    · have e' : isNonT (readF (txF t)) = true := e
      rw [hread] at e'
      cases t with
      | non => exact absurd hval9 (by decide)
      | _ => cases e'
  clear E10 T10 hv10
  rintro σ11 H11 ⟨rfl, E11, T11⟩
  -- spoilt texts
  refine ⟨_, rfl, _, rfl, .ref p, txF t, rfl, htl, tx_as 5 t hlv9, fun G D ys s1 nD hD hy hn => ?_⟩
  refine ⟨D, rfl, ⟨_, SqL.of hD⟩, ?_⟩
  refine for_list (K := K) (a := D) (xs := ys.map V.str) (fun j σ' H' => ∃ z1 z7 : Option V, σ' = [some (.ref a), z1, z2, some (.int (0 + (i : Int))), some (.ref p), some v, some (.str (txF t)), z7] ∧ ExtN Hk H' ∧ Tabs Ts H' ∧ H' D = some (.lst (ys.map V.str)))
    ⟨_, _, rfl, E11.trans (ExtN.of s1), T11.ext s1, hD⟩ (fun j σ' H' _ ⟨_, _, _, _, _, h⟩ => SqL.of h) (fun j x σ' H' hx ⟨z1, z7, e, E12, T12, hD12⟩ => ?_) (fun σ' H' ⟨z1, z7, e, E12, T12, _⟩ => ?_)
  · subst e
    obtain ⟨y, hys, rfl⟩ := List.mem_map.mp (List.mem_of_getElem? hx)
    obtain ⟨hne, hyl, hya⟩ := hy y hys
    refine ⟨fun σ' H' => ∃ r : Addr, σ' = [some (.ref a), some (.str y), z2, some (.int (0 + (i : Int))), some (.ref p), some v, some (.str (txF t)), some (.ref r)] ∧ ExtN Hk H' ∧ Tabs Ts H' ∧ H' D = some (.lst (ys.map V.str)) ∧
      ((isNonT (readF y) = false ∧ ∃ u, Th H' (readF y) u ∧ H' r = some (.tup [.str "told", u])) ∨ (isNonT (readF y) = true ∧ H' r = some (.tup [.str "parse", .str (PyData.str y).shown]))), ?_, ?_⟩
    · refine ⟨T12, fun G1 eG TG => ⟨_, rfl, .str y, thStr, hyl, fun hb G2 r u s2 hu hr => ?_, fun hb => ⟨.str y, shw_S hya hyl, fun G2 r s2 hr => ?_⟩⟩⟩
      · exact ⟨r, rfl, E12.trans (eG.trans (ExtN.of s2)), TG.ext s2, (eG.trans (ExtN.of s2)) _ _ hD12 (fun ps q => nomatch q), .inl ⟨hb, u, hu, hr⟩⟩
      · exact ⟨r, rfl, E12.trans (eG.trans (ExtN.of s2)), TG.ext s2, (eG.trans (ExtN.of s2)) _ _ hD12 (fun ps q => nomatch q), .inr ⟨hb, hr⟩⟩
    clear E12 T12 hD12
    rintro σ13 H13 ⟨r, rfl, E13, T13, hD13, hr13⟩
    rcases hr13 with ⟨hb, u, hu, hr⟩ | ⟨hb, hr⟩
    · obtain ⟨hvr, htx⟩ := read_val hb
      obtain ⟨hlr, _⟩ := isVal_lval hvr
      refine ⟨_, rfl, r, _, 0, .str "told", rfl, rfl, SqT.of hr, rfl, rfl, _, rfl, ?_⟩
      rw [dec_str, decide_eq_true rfl]
      refine iteT ?_
      refine ⟨_, rfl, _, rfl, rfl, _, rfl, ?_⟩
      rw [dec_str, decide_eq_false hne]
      refine iteF ?_
      refine ⟨_, rfl, r, _, 1, u, rfl, rfl, SqT.of hr, rfl, readF y, u, rfl, hu, sm_short _ (lval_sm 5 _ hlr).1, fun _ G3 s3 => ?_, fun e => absurd (hvr.symm.trans e) Bool.noConfusion⟩
      refine ⟨_, rfl, rfl, _, rfl, ?_⟩
      rw [dec_str, htx, decide_eq_true rfl]
      refine iteF ?_
      refine ⟨_, rfl, r, _, 0, .str "told", rfl, rfl, SqT.of (s3 _ _ hr), rfl, rfl, _, rfl, ?_⟩
      rw [dec_str, decide_eq_true rfl]
      refine iteF (iteF ?_)
      exact ⟨_, _, rfl, E13.trans (ExtN.of s3), T13.ext s3, s3 _ _ hD13⟩
    · refine ⟨_, rfl, r, _, 0, .str "parse", rfl, rfl, SqT.of hr, rfl, rfl, _, rfl, ?_⟩
      rw [dec_str, show decide (("parse" : Str) = ("told" : Str)) = false by decide +kernel]
      refine iteF (iteF ?_)
      refine ⟨_, rfl, r, _, 0, .str "parse", rfl, rfl, SqT.of hr, rfl, rfl, _, rfl, ?_⟩
      rw [dec_str, show decide (("parse" : Str) = ("told" : Str)) = false by decide +kernel]
      refine iteT ?_
      refine ⟨_, rfl, _, rfl, .str y, .str y, rfl, shw_S hya hyl, by show 2 ≤ sizeLine; decide, fun q nq => ?_⟩
      have s4 := same_upd (o := .tup [V.str "parse", .str (PyData.str y).shown]) nq
      refine ⟨false, ne_pair (s4 _ _ hr) upd_same, _, rfl, iteF ?_⟩
      exact ⟨_, _, rfl, E13.trans (ExtN.of s4), T13.ext s4, s4 _ _ hD13⟩
  · exact ⟨_, _, _, _, _, _, _, e, sql_ext E12 LK.1, T12⟩
end
end My
/-! own rules: tables of the module, told by a look at the written part; error classes by facts -/
namespace LT
open PySem PySem.Spec PyProof.Rows L2 LK
def keyS (e : DictEntry) : Option Str := match e.key with
  | .str x _ => some x
  | _ => none
def absE (e : DictEntry) : Option (Str × V) := match keyS e, absV e.val with
  | some x, some v => some (x, v)
  | _, _ => none
def valW (K : PySem.W.Frag) (a : Addr) : Option (List (Option (Str × V))) := match K.lookup a with
  | some ⟨_, _, .dict es _, _⟩ => some (es.toList.map absE)
  | _ => none
theorem rel_of_abs {u : Value} {x : V} (h : absV u = some x) : L2.RelV x u := by
  unfold absV at h
  split at h <;> first
    | (cases h; rfl)
    | (cases h; exact ⟨_, rfl⟩)
    | cases h
theorem keyS_of {e : DictEntry} {x : Str} (h : keyS e = some x) : ∃ t, e.key = .str x t := by
  unfold keyS at h
  split at h
  · rename_i y t q
    cases h
    exact ⟨t, q⟩
  · cases h
theorem absE_of {e : DictEntry} {r : Str × V} (h : absE e = some r) : (∃ t, e.key = .str r.1 t) ∧ L2.RelV r.2 e.val := by
  unfold absE at h
  cases hk : keyS e with
  | none =>
    rw [hk] at h
    cases h
  | some x =>
    cases hv : absV e.val with
    | none =>
      rw [hk, hv] at h
      cases h
    | some v =>
      rw [hk, hv] at h
      cases h
      exact ⟨keyS_of hk, rel_of_abs hv⟩
theorem paired_absE : ∀ {es : List DictEntry} {tbl : List (Str × V)}, es.map absE = tbl.map some → Paired (fun (r : Str × V) (e : DictEntry) => (∃ t, e.key = .str r.1 t) ∧ L2.RelV r.2 e.val) tbl es
  | [], [], _ => .nil
  | e :: es, r :: tbl, h => by
    rw [List.map_cons, List.map_cons] at h
    injection h with h1 h2
    exact .cons (absE_of h1) (paired_absE h2)
  | [], r :: tbl, h => by simp at h
  | e :: es, [], h => by simp at h
theorem ktab_mk {K : PySem.W.Frag} {w : World} {p : Addr} {ks : List Str} {tbl : List (Str × V)} (h : He.dicW K p = some (He.keysIn w.params ks)) (h2 : valW K p = some (tbl.map some)) : KTab K w p tbl := by
  obtain ⟨es, n, D⟩ := He.dicW_ok h
  unfold valW at h2
  rw [D.at_] at h2
  exact ⟨es, n, D.at_, D.lit, D.low, paired_absE (Option.some.inj h2)⟩
/-! ### tuples of tuples of texts -/
def seqW (K : PySem.W.Frag) (v : Value) : Option (List Value) := match v with
  | .ref b => (match K.lookup b with
    | some ⟨c, _, .seq its _, _⟩ => if c == .type "tuple" && decide (its.size ≤ 1000) then some its.toList else none
    | _ => none)
  | _ => none
theorem seqW_of {K : PySem.W.Frag} {v : Value} {us : List Value} (h : seqW K v = some us) : ∃ b, v = .ref b ∧ ∀ xs, Vals xs us → KTup K b xs := by
  unfold seqW at h
  split at h
  · rename_i b
    cases hl : K.lookup b with
    | none =>
      rw [hl] at h
      cases h
    | some o =>
      obtain ⟨c, dd, dt, sl⟩ := o
      rw [hl] at h
      cases dt with
      | seq its n =>
        simp only at h
        split at h
        · rename_i hc
          rw [Bool.and_eq_true] at hc
          cases h
          refine ⟨b, rfl, fun xs r => ⟨_, its, n, hl, eq_of_beq hc.1, rfl, ?_, r⟩⟩
          have := of_decide_eq_true hc.2
          exact Nat.le_trans this (by decide)
        · cases h
      | _ => cases h
  · cases h
def strW (v : Value) : Option Str := match v with
  | .str x _ => some x
  | _ => none
def allSome {α : Type} : List (Option α) → Option (List α)
  | [] => some []
  | some a :: r => (match allSome r with
    | some l => some (a :: l)
    | none => none)
  | none :: _ => none
theorem allSome_map {α β : Type} {f : α → Option β} {R : β → α → Prop} (hf : ∀ a b, f a = some b → R b a) : ∀ {us : List α} {ks : List β}, allSome (us.map f) = some ks → Paired R ks us
  | [], ks, h => by
    cases h
    exact .nil
  | u :: us, ks, h => by
    rw [List.map_cons] at h
    cases hu : f u with
    | none =>
      rw [hu] at h
      cases h
    | some b =>
      rw [hu] at h
      simp only [allSome] at h
      cases hr : allSome (us.map f) with
      | none =>
        rw [hr] at h
        cases h
      | some l =>
        rw [hr] at h
        cases h
        exact .cons (hf u b hu) (allSome_map hf hr)
def strsW (K : PySem.W.Frag) (v : Value) : Option (List Str) := match seqW K v with
  | some us => allSome (us.map strW)
  | none => none
theorem vals_of_strs : ∀ {ks : List Str} {us : List Value}, Paired (fun (x : Str) (u : Value) => ∃ t, u = .str x t) ks us → Vals (ks.map V.str) us
  | _, _, .nil => .nil
  | _, _, .cons ⟨t, e⟩ r => .cons ⟨t, e⟩ (vals_of_strs r)
theorem strsW_of {K : PySem.W.Frag} {v : Value} {ks : List Str} (h : strsW K v = some ks) : ∃ b, v = .ref b ∧ KTup K b (ks.map V.str) := by
  unfold strsW at h
  cases hs : seqW K v with
  | none =>
    rw [hs] at h
    cases h
  | some us =>
    rw [hs] at h
    obtain ⟨b, e, f⟩ := seqW_of hs
    refine ⟨b, e, f _ (vals_of_strs (allSome_map (f := strW) (fun a x q => ?_) h))⟩
    unfold strW at q
    split at q
    · rename_i y t
      cases q
      exact ⟨t, rfl⟩
    · cases q
def strssW (K : PySem.W.Frag) (v : Value) : Option (List (List Str)) := match seqW K v with
  | some us => allSome (us.map (strsW K))
  | none => none
theorem refs_of {K : PySem.W.Frag} : ∀ {kss : List (List Str)} {us : List Value}, Paired (fun (ks : List Str) (u : Value) => ∃ b, u = .ref b ∧ KTup K b (ks.map V.str)) kss us → ∃ bs : List Addr, Vals (bs.map V.ref) us ∧ Paired (fun (b : Addr) (ks : List Str) => KTup K b (ks.map V.str)) bs kss
  | _, _, .nil => ⟨[], .nil, .nil⟩
  | _, _, .cons ⟨b, e, k⟩ r => by
    obtain ⟨bs, h1, h2⟩ := refs_of r
    exact ⟨b :: bs, .cons e h1, .cons k h2⟩
theorem strssW_of {K : PySem.W.Frag} {v : Value} {kss : List (List Str)} (h : strssW K v = some kss) : ∃ a bs, v = .ref a ∧ KTup K a (bs.map V.ref) ∧ Paired (fun (b : Addr) (ks : List Str) => KTup K b (ks.map V.str)) bs kss := by
  unfold strssW at h
  cases hs : seqW K v with
  | none =>
    rw [hs] at h
    cases h
  | some us =>
    rw [hs] at h
    obtain ⟨a, e, f⟩ := seqW_of hs
    obtain ⟨bs, h1, h2⟩ := refs_of (allSome_map (f := strsW K) (fun a x q => strsW_of q) h)
    exact ⟨a, bs, e, f _ h1, h2⟩
def valK (K : PySem.W.Frag) (a : Addr) : Option (List (Option Str × Option (List (List Str)))) := match K.lookup a with
  | some ⟨_, _, .dict es _, _⟩ => some (es.toList.map fun e => (keyS e, strssW K e.val))
  | _ => none
theorem rows_of {K : PySem.W.Frag} : ∀ {es : List DictEntry} {tab : List (Str × List (List Str))}, es.map (fun e => (keyS e, strssW K e.val)) = tab.map (fun q => (some q.1, some q.2)) →
    ∃ rows : List (Str × V), Paired (fun (r : Str × V) (e : DictEntry) => (∃ t, e.key = .str r.1 t) ∧ L2.RelV r.2 e.val) rows es ∧
      Paired (fun (r : Str × V) (q : Str × List (List Str)) => r.1 = q.1 ∧ ∃ (a : Addr) (bs : List Addr), r.2 = .ref a ∧ KTup K a (bs.map V.ref) ∧ Paired (fun (b : Addr) (ks : List Str) => KTup K b (ks.map V.str)) bs q.2) rows tab
  | [], [], _ => ⟨[], .nil, .nil⟩
  | e :: es, q :: tab, h => by
    rw [List.map_cons, List.map_cons] at h
    injection h with h1 h2
    injection h1 with h3 h4
    obtain ⟨rows, r1, r2⟩ := rows_of h2
    obtain ⟨a, bs, ev, k1, k2⟩ := strssW_of h4
    exact ⟨(q.1, .ref a) :: rows, .cons ⟨keyS_of h3, ev⟩ r1, .cons ⟨rfl, a, bs, rfl, k1, k2⟩ r2⟩
  | [], q :: tab, h => by simp at h
  | e :: es, [], h => by simp at h
theorem kinds_mk {K : PySem.W.Frag} {w : World} {p : Addr} {ks : List Str} {tab : List (Str × List (List Str))} (h : He.dicW K p = some (He.keysIn w.params ks)) (h2 : valK K p = some (tab.map fun q => (some q.1, some q.2))) :
    ∃ rows, KTab K w p rows ∧ Paired (fun (r : Str × V) (q : Str × List (List Str)) => r.1 = q.1 ∧ ∃ (a : Addr) (bs : List Addr), r.2 = .ref a ∧ KTup K a (bs.map V.ref) ∧ Paired (fun (b : Addr) (ks : List Str) => KTup K b (ks.map V.str)) bs q.2) rows tab := by
  obtain ⟨es, n, D⟩ := He.dicW_ok h
  unfold valK at h2
  rw [D.at_] at h2
  obtain ⟨rows, r1, r2⟩ := rows_of (Option.some.inj h2)
  exact ⟨rows, ⟨es, n, D.at_, D.lit, D.low, r1⟩, r2⟩
end LT
namespace My
open PySem PySem.Spec PyProof.Rows L2 LX LamX
theorem ldS_eq : ldS = ⟨#[97, 98, 99, 100, 101, 102, 103, 104, 105, 106, 107, 108, 109, 110, 111, 112, 113, 114, 115, 116, 117, 118, 119, 120, 121, 122, 48, 49, 50, 51, 52, 53, 54, 55, 56, 57]⟩ := by decide +kernel
theorem dgS_eq : dgS = ⟨#[48, 49, 50, 51, 52, 53, 54, 55, 56, 57]⟩ := by decide +kernel
theorem brS_eq : brS = ⟨#[40, 41, 91, 93, 123, 125]⟩ := by decide +kernel
theorem bound_eq : (10 : Int) ^ 60 = 1000000000000000000000000000000000000000000000000000000000000 := by decide +kernel
theorem all_mk {l : PySem.W.OpenLaw} {w : World} {K : PySem.W.Frag} {h : Heap} {mg : Str → Option Value} {fa f1 f2 f3 f4 f5 f6 f7 f8 f9 f10 f11 f12 f13 f14 f15 f16 f17 f18 f19 f20 f21 f22 f23 f24 : Addr} (X : K.In h) (G : h.Ns mainGlobals mg) (hfa : mg "law" = some (.ref fa))
    {od1 an1 od2 an2 od3 an3 od4 an4 od5 an5 od6 an6 od7 an7 od8 an8 od9 an9 od10 an10 od11 an11 od12 an12 od13 an13 od14 an14 od15 an15 od16 an16 od17 an17 od18 an18 od19 an19 od20 an20 od21 an21 od22 an22 od23 an23 od24 an24 : Option Addr} {sl1 sl2 sl3 sl4 sl5 sl6 sl7 sl8 sl9 sl10 sl11 sl12 sl13 sl14 sl15 sl16 sl17 sl18 sl19 sl20 sl21 sl22 sl23 sl24 : Array (Option Value)} {oc1 kV1 dc1 pm1 cd1 ct1 oc2 kV2 dc2 pm2 cd2 ct2 oc3 kV3 dc3 pm3 cd3 ct3 oc4 kV4 dc4 pm4 cd4 ct4 oc5 kV5 dc5 pm5 cd5 ct5 oc6 kV6 dc6 pm6 cd6 ct6 oc7 kV7 dc7 pm7 cd7 ct7 oc8 kV8 dc8 pm8 cd8 ct8 oc9 kV9 dc9 pm9 cd9 ct9 oc10 kV10 dc10 pm10 cd10 ct10 oc11 kV11 dc11 pm11 cd11 ct11 oc12 kV12 dc12 pm12 cd12 ct12 oc13 kV13 dc13 pm13 cd13 ct13 oc14 kV14 dc14 pm14 cd14 ct14 oc15 kV15 dc15 pm15 cd15 ct15 oc16 kV16 dc16 pm16 cd16 ct16 oc17 kV17 dc17 pm17 cd17 ct17 oc18 kV18 dc18 pm18 cd18 ct18 oc19 kV19 dc19 pm19 cd19 ct19 oc20 kV20 dc20 pm20 cd20 ct20 oc21 kV21 dc21 pm21 cd21 ct21 oc22 kV22 dc22 pm22 cd22 ct22 oc23 kV23 dc23 pm23 cd23 ct23 oc24 kV24 dc24 pm24 ct24 : Value}
    {tk0 tk1 tk2 tk3 tk4 tk5 tk6 tk7 tk8 : Tok} {pO pC CE CS cc TT : Addr} {occ : Value} {odc : Option Addr} {slc : Array (Option Value)} {us : Array Value}
    (a1 : PySem.W.nsIn K mainGlobals "kind_of" = some (some (.ref f1))) (l1 : K.lookup f1 = some ⟨oc1, od1, .func (PySem.W.fnOf "kind_of" "kind_of" (defArgs sKind) (defBody sKind) (defScope sKind) .none kV1 dc1 pm1 an1 cd1 ct1), sl1⟩) (c1 : PySem.W.codeIn K cd1 "kind_of" = true) (k1 : PySem.W.keepIn K (.ref f1) = true)
    (a2 : PySem.W.nsIn K mainGlobals "is_value" = some (some (.ref f2))) (l2 : K.lookup f2 = some ⟨oc2, od2, .func (PySem.W.fnOf "is_value" "is_value" (defArgs sIsValue) (defBody sIsValue) (defScope sIsValue) .none kV2 dc2 pm2 an2 cd2 ct2), sl2⟩) (c2 : PySem.W.codeIn K cd2 "is_value" = true) (k2 : PySem.W.keepIn K (.ref f2) = true)
    (a3 : PySem.W.nsIn K mainGlobals "is_plain_value" = some (some (.ref f3))) (l3 : K.lookup f3 = some ⟨oc3, od3, .func (PySem.W.fnOf "is_plain_value" "is_plain_value" (defArgs sIsPlain) (defBody sIsPlain) (defScope sIsPlain) .none kV3 dc3 pm3 an3 cd3 ct3), sl3⟩) (c3 : PySem.W.codeIn K cd3 "is_plain_value" = true) (k3 : PySem.W.keepIn K (.ref f3) = true)
    (a4 : PySem.W.nsIn K mainGlobals "is_text" = some (some (.ref f4))) (l4 : K.lookup f4 = some ⟨oc4, od4, .func (PySem.W.fnOf "is_text" "is_text" (defArgs sIsText) (defBody sIsText) (defScope sIsText) .none kV4 dc4 pm4 an4 cd4 ct4), sl4⟩) (c4 : PySem.W.codeIn K cd4 "is_text" = true) (k4 : PySem.W.keepIn K (.ref f4) = true)
    (a5 : PySem.W.nsIn K mainGlobals "has_only" = some (some (.ref f5))) (l5 : K.lookup f5 = some ⟨oc5, od5, .func (PySem.W.fnOf "has_only" "has_only" (defArgs sHasOnly) (defBody sHasOnly) (defScope sHasOnly) .none kV5 dc5 pm5 an5 cd5 ct5), sl5⟩) (c5 : PySem.W.codeIn K cd5 "has_only" = true) (k5 : PySem.W.keepIn K (.ref f5) = true)
    (a6 : PySem.W.nsIn K mainGlobals "is_list" = some (some (.ref f6))) (l6 : K.lookup f6 = some ⟨oc6, od6, .func (PySem.W.fnOf "is_list" "is_list" (defArgs sIsList) (defBody sIsList) (defScope sIsList) .none kV6 dc6 pm6 an6 cd6 ct6), sl6⟩) (c6 : PySem.W.codeIn K cd6 "is_list" = true) (k6 : PySem.W.keepIn K (.ref f6) = true)
    (a7 : PySem.W.nsIn K mainGlobals "check_string" = some (some (.ref f7))) (l7 : K.lookup f7 = some ⟨oc7, od7, .func (PySem.W.fnOf "check_string" "check_string" (defArgs sCheckString) (defBody sCheckString) (defScope sCheckString) .none kV7 dc7 pm7 an7 cd7 ct7), sl7⟩) (c7 : PySem.W.codeIn K cd7 "check_string" = true) (k7 : PySem.W.keepIn K (.ref f7) = true)
    (a8 : PySem.W.nsIn K mainGlobals "format_value" = some (some (.ref f8))) (l8 : K.lookup f8 = some ⟨oc8, od8, .func (PySem.W.fnOf "format_value" "format_value" (defArgs sFormatValue) (defBody sFormatValue) (defScope sFormatValue) .none kV8 dc8 pm8 an8 cd8 ct8), sl8⟩) (c8 : PySem.W.codeIn K cd8 "format_value" = true) (k8 : PySem.W.keepIn K (.ref f8) = true)
    (a9 : PySem.W.nsIn K mainGlobals "parse_value" = some (some (.ref f9))) (l9 : K.lookup f9 = some ⟨oc9, od9, .func (PySem.W.fnOf "parse_value" "parse_value" (defArgs sParseValue) (defBody sParseValue) (defScope sParseValue) .none kV9 dc9 pm9 an9 cd9 ct9), sl9⟩) (c9 : PySem.W.codeIn K cd9 "parse_value" = true) (k9 : PySem.W.keepIn K (.ref f9) = true)
    (a10 : PySem.W.nsIn K mainGlobals "read_value" = some (some (.ref f10))) (l10 : K.lookup f10 = some ⟨oc10, od10, .func (PySem.W.fnOf "read_value" "read_value" (defArgs sReadValue) (defBody sReadValue) (defScope sReadValue) .none kV10 dc10 pm10 an10 cd10 ct10), sl10⟩) (c10 : PySem.W.codeIn K cd10 "read_value" = true) (k10 : PySem.W.keepIn K (.ref f10) = true)
    (a11 : PySem.W.nsIn K mainGlobals "text_of_value" = some (some (.ref f11))) (l11 : K.lookup f11 = some ⟨oc11, od11, .func (PySem.W.fnOf "text_of_value" "text_of_value" (defArgs sTextOf) (defBody sTextOf) (defScope sTextOf) .none kV11 dc11 pm11 an11 cd11 ct11), sl11⟩) (c11 : PySem.W.codeIn K cd11 "text_of_value" = true) (k11 : PySem.W.keepIn K (.ref f11) = true)
    (a12 : PySem.W.nsIn K mainGlobals "nodes_of" = some (some (.ref f12))) (l12 : K.lookup f12 = some ⟨oc12, od12, .func (PySem.W.fnOf "nodes_of" "nodes_of" (defArgs sNodesOf) (defBody sNodesOf) (defScope sNodesOf) .none kV12 dc12 pm12 an12 cd12 ct12), sl12⟩) (c12 : PySem.W.codeIn K cd12 "nodes_of" = true) (k12 : PySem.W.keepIn K (.ref f12) = true)
    (a13 : PySem.W.nsIn K mainGlobals "words_of" = some (some (.ref f13))) (l13 : K.lookup f13 = some ⟨oc13, od13, .func (PySem.W.fnOf "words_of" "words_of" (defArgs sWordsOf) (defBody sWordsOf) (defScope sWordsOf) .none kV13 dc13 pm13 an13 cd13 ct13), sl13⟩) (c13 : PySem.W.codeIn K cd13 "words_of" = true) (k13 : PySem.W.keepIn K (.ref f13) = true)
    (a14 : PySem.W.nsIn K mainGlobals "items_behind" = some (some (.ref f14))) (l14 : K.lookup f14 = some ⟨oc14, od14, .func (PySem.W.fnOf "items_behind" "items_behind" (defArgs sItemsBehind) (defBody sItemsBehind) (defScope sItemsBehind) .none kV14 dc14 pm14 an14 cd14 ct14), sl14⟩) (c14 : PySem.W.codeIn K cd14 "items_behind" = true) (k14 : PySem.W.keepIn K (.ref f14) = true)
    (a15 : PySem.W.nsIn K mainGlobals "value_of" = some (some (.ref f15))) (l15 : K.lookup f15 = some ⟨oc15, od15, .func (PySem.W.fnOf "value_of" "value_of" (defArgs sValueOf) (defBody sValueOf) (defScope sValueOf) .none kV15 dc15 pm15 an15 cd15 ct15), sl15⟩) (c15 : PySem.W.codeIn K cd15 "value_of" = true) (k15 : PySem.W.keepIn K (.ref f15) = true)
    (a16 : PySem.W.nsIn K mainGlobals "value_of_word" = some (some (.ref f16))) (l16 : K.lookup f16 = some ⟨oc16, od16, .func (PySem.W.fnOf "value_of_word" "value_of_word" (defArgs sValueOfWord) (defBody sValueOfWord) (defScope sValueOfWord) .none kV16 dc16 pm16 an16 cd16 ct16), sl16⟩) (c16 : PySem.W.codeIn K cd16 "value_of_word" = true) (k16 : PySem.W.keepIn K (.ref f16) = true)
    (a17 : PySem.W.nsIn K mainGlobals "_law_pool" = some (some (.ref f17))) (l17 : K.lookup f17 = some ⟨oc17, od17, .func (PySem.W.fnOf "_law_pool" "_law_pool" (defArgs sPool) (defBody sPool) (defScope sPool) .none kV17 dc17 pm17 an17 cd17 ct17), sl17⟩) (c17 : PySem.W.codeIn K cd17 "_law_pool" = true) (k17 : PySem.W.keepIn K (.ref f17) = true)
    (a18 : PySem.W.nsIn K mainGlobals "_law_draw" = some (some (.ref f18))) (l18 : K.lookup f18 = some ⟨oc18, od18, .func (PySem.W.fnOf "_law_draw" "_law_draw" (defArgs sDraw) (defBody sDraw) (defScope sDraw) .none kV18 dc18 pm18 an18 cd18 ct18), sl18⟩) (c18 : PySem.W.codeIn K cd18 "_law_draw" = true) (k18 : PySem.W.keepIn K (.ref f18) = true)
    (a19 : PySem.W.nsIn K mainGlobals "_law_text" = some (some (.ref f19))) (l19 : K.lookup f19 = some ⟨oc19, od19, .func (PySem.W.fnOf "_law_text" "_law_text" (defArgs sLText) (defBody sLText) (defScope sLText) .none kV19 dc19 pm19 an19 cd19 ct19), sl19⟩) (c19 : PySem.W.codeIn K cd19 "_law_text" = true) (k19 : PySem.W.keepIn K (.ref f19) = true)
    (a20 : PySem.W.nsIn K mainGlobals "_law_random_value" = some (some (.ref f20))) (l20 : K.lookup f20 = some ⟨oc20, od20, .func (PySem.W.fnOf "_law_random_value" "_law_random_value" (defArgs sRandom) (defBody sRandom) (defScope sRandom) .none kV20 dc20 pm20 an20 cd20 ct20), sl20⟩) (c20 : PySem.W.codeIn K cd20 "_law_random_value" = true) (k20 : PySem.W.keepIn K (.ref f20) = true)
    (a21 : PySem.W.nsIn K mainGlobals "_law_items" = some (some (.ref f21))) (l21 : K.lookup f21 = some ⟨oc21, od21, .func (PySem.W.fnOf "_law_items" "_law_items" (defArgs sLItems) (defBody sLItems) (defScope sLItems) .none kV21 dc21 pm21 an21 cd21 ct21), sl21⟩) (c21 : PySem.W.codeIn K cd21 "_law_items" = true) (k21 : PySem.W.keepIn K (.ref f21) = true)
    (a22 : PySem.W.nsIn K mainGlobals "_law_told" = some (some (.ref f22))) (l22 : K.lookup f22 = some ⟨oc22, od22, .func (PySem.W.fnOf "_law_told" "_law_told" (defArgs sTold) (defBody sTold) (defScope sTold) .none kV22 dc22 pm22 an22 cd22 ct22), sl22⟩) (c22 : PySem.W.codeIn K cd22 "_law_told" = true) (k22 : PySem.W.keepIn K (.ref f22) = true)
    (a23 : PySem.W.nsIn K mainGlobals "_law_spoilt" = some (some (.ref f23))) (l23 : K.lookup f23 = some ⟨oc23, od23, .func (PySem.W.fnOf "_law_spoilt" "_law_spoilt" (defArgs sSpoilt) (defBody sSpoilt) (defScope sSpoilt) .none kV23 dc23 pm23 an23 cd23 ct23), sl23⟩) (c23 : PySem.W.codeIn K cd23 "_law_spoilt" = true) (k23 : PySem.W.keepIn K (.ref f23) = true)
    (a24 : PySem.W.nsIn K mainGlobals "law" = some (some (.ref f24))) (l24 : K.lookup f24 = some ⟨oc24, od24, .func (PySem.W.fnOf "law" "law" (defArgs sLaw) (defBody sLaw) (defScope sLaw) .none kV24 dc24 pm24 an24 (.ref cc) ct24), sl24⟩) (c24 : PySem.W.codeIn K (.ref cc) "law" = true) (k24 : PySem.W.keepIn K (.ref f24) = true)
    (z_sum : PySem.W.nsIn K mainGlobals "sum" = some none)
    (z_len : PySem.W.nsIn K mainGlobals "len" = some none)
    (z_abs : PySem.W.nsIn K mainGlobals "abs" = some none)
    (z_int : PySem.W.nsIn K mainGlobals "int" = some none)
    (z_isinstance : PySem.W.nsIn K mainGlobals "isinstance" = some none)
    (z_bool : PySem.W.nsIn K mainGlobals "bool" = some none)
    (z_str : PySem.W.nsIn K mainGlobals "str" = some none)
    (z_tuple : PySem.W.nsIn K mainGlobals "tuple" = some none)
    (z_range : PySem.W.nsIn K mainGlobals "range" = some none)
    (z_all : PySem.W.nsIn K mainGlobals "all" = some none)
    (z_max : PySem.W.nsIn K mainGlobals "max" = some none)
    (z_min : PySem.W.nsIn K mainGlobals "min" = some none)
    (z_repr : PySem.W.nsIn K mainGlobals "repr" = some none)
    (z_super : PySem.W.nsIn K mainGlobals "super" = some none)
    (v_LETTERS_AND_DIGITS : PySem.W.nsIn K mainGlobals "LETTERS_AND_DIGITS" = some (some (.str ⟨#[97, 98, 99, 100, 101, 102, 103, 104, 105, 106, 107, 108, 109, 110, 111, 112, 113, 114, 115, 116, 117, 118, 119, 120, 121, 122, 48, 49, 50, 51, 52, 53, 54, 55, 56, 57]⟩ tk0)))
    (v_INTEGER_BOUND : PySem.W.nsIn K mainGlobals "INTEGER_BOUND" = some (some (.int 1000000000000000000000000000000000000000000000000000000000000 tk1)))
    (v_LONGEST_TEXT : PySem.W.nsIn K mainGlobals "LONGEST_TEXT" = some (some (.int 60 tk2)))
    (v_DEEPEST_LIST : PySem.W.nsIn K mainGlobals "DEEPEST_LIST" = some (some (.int 5 tk3)))
    (v_MOST_VALUES : PySem.W.nsIn K mainGlobals "MOST_VALUES" = some (some (.int 50 tk4)))
    (v_DIGITS : PySem.W.nsIn K mainGlobals "DIGITS" = some (some (.str ⟨#[48, 49, 50, 51, 52, 53, 54, 55, 56, 57]⟩ tk5)))
    (v_MOST_DIGITS : PySem.W.nsIn K mainGlobals "MOST_DIGITS" = some (some (.int 60 tk6)))
    (v_BRACKETS : PySem.W.nsIn K mainGlobals "BRACKETS" = some (some (.str ⟨#[40, 41, 91, 93, 123, 125]⟩ tk7)))
    (v_TOO_DEEP : PySem.W.nsIn K mainGlobals "TOO_DEEP" = some (some (.int 30 tk8)))
    (tO1 : PySem.W.nsIn K mainGlobals "OPENING" = some (some (.ref pO))) (tO2 : LT.strsW K (.ref pO) = some opS) (tC1 : PySem.W.nsIn K mainGlobals "CLOSING" = some (some (.ref pC))) (tC2 : LT.strsW K (.ref pC) = some clS)
    (lc : K.lookup cc = some ⟨occ, odc, .fields us, slc⟩) (t11 : us[11]? = some (.ref TT)) (nT : K.lookup TT = none) (hC : PySem.W.codeHdIn K cc TT = true)
    (IS : ET l.prog K mg "InvalidState" "value" CS) (IE : ET l.prog K mg "ParseError" "text" CE) (nx : PySem.W.exmOne K (.ref CS) (.ref CE) = some false)
    : ∃ (c T : Addr) (o oc : Obj) (fd : FuncData) (vs : Array Value), K.lookup fa = some o ∧ o.data = .func fd ∧ fd.code = .ref c ∧ K.lookup c = some oc ∧ oc.data = .fields vs ∧ vs[11]? = some (.ref T) ∧ K.lookup T = none ∧ PySem.W.codeHdIn K c T = true ∧
        ∀ (base : Heap) (z : Shared) (H : Hp) (a : Addr) (ns : List Int), K.In base → base.Ns mainGlobals mg → TabB base mg c T → H T = some (.tbl #[]) → SqL K H a (ns.map V.int) → ns.length ≤ 63 → Env0 l.prog w K mg base callerA [] z H →
          codeAny (model l.prog w) callerA (.call (.ref fa) ⟨[.ref a], []⟩) (CR C8.CX0 [] l.prog w H z (fun v _ => v = .bl true) C8.E0) z := by
  have e := hfa.symm.trans (PySem.W.mg_of X G a24)
  cases e
  have F1 := fun_mk (st := sKind) l1 c1 k1
  have g1 := PySem.W.mg_of X G a1
  have b1 := F1.binds (ps := ["value"]) fun _ _ _ _ _ _ us hl => match us, hl with | [_], _ => rfl
  have F2 := fun_mk (st := sIsValue) l2 c2 k2
  have g2 := PySem.W.mg_of X G a2
  have b2 := F2.binds (ps := ["value"]) fun _ _ _ _ _ _ us hl => match us, hl with | [_], _ => rfl
  have F3 := fun_mk (st := sIsPlain) l3 c3 k3
  have g3 := PySem.W.mg_of X G a3
  have b3 := F3.binds (ps := ["value"]) fun _ _ _ _ _ _ us hl => match us, hl with | [_], _ => rfl
  have F4 := fun_mk (st := sIsText) l4 c4 k4
  have g4 := PySem.W.mg_of X G a4
  have b4 := F4.binds (ps := ["value"]) fun _ _ _ _ _ _ us hl => match us, hl with | [_], _ => rfl
  have F5 := fun_mk (st := sHasOnly) l5 c5 k5
  have g5 := PySem.W.mg_of X G a5
  have b5 := F5.binds (ps := ["text", "characters"]) fun _ _ _ _ _ _ us hl => match us, hl with | [_, _], _ => rfl
  have F6 := fun_mk (st := sIsList) l6 c6 k6
  have g6 := PySem.W.mg_of X G a6
  have b6 := F6.binds (ps := ["value"]) fun _ _ _ _ _ _ us hl => match us, hl with | [_], _ => rfl
  have F7 := fun_mk (st := sCheckString) l7 c7 k7
  have g7 := PySem.W.mg_of X G a7
  have b7 := F7.binds (ps := ["text"]) fun _ _ _ _ _ _ us hl => match us, hl with | [_], _ => rfl
  have F8 := fun_mk (st := sFormatValue) l8 c8 k8
  have g8 := PySem.W.mg_of X G a8
  have b8 := F8.binds (ps := ["value"]) fun _ _ _ _ _ _ us hl => match us, hl with | [_], _ => rfl
  have F9 := fun_mk (st := sParseValue) l9 c9 k9
  have g9 := PySem.W.mg_of X G a9
  have b9 := F9.binds (ps := ["text"]) fun _ _ _ _ _ _ us hl => match us, hl with | [_], _ => rfl
  have F10 := fun_mk (st := sReadValue) l10 c10 k10
  have g10 := PySem.W.mg_of X G a10
  have b10 := F10.binds (ps := ["text"]) fun _ _ _ _ _ _ us hl => match us, hl with | [_], _ => rfl
  have F11 := fun_mk (st := sTextOf) l11 c11 k11
  have g11 := PySem.W.mg_of X G a11
  have b11 := F11.binds (ps := ["value"]) fun _ _ _ _ _ _ us hl => match us, hl with | [_], _ => rfl
  have F12 := fun_mk (st := sNodesOf) l12 c12 k12
  have g12 := PySem.W.mg_of X G a12
  have b12 := F12.binds (ps := ["text"]) fun _ _ _ _ _ _ us hl => match us, hl with | [_], _ => rfl
  have F13 := fun_mk (st := sWordsOf) l13 c13 k13
  have g13 := PySem.W.mg_of X G a13
  have b13 := F13.binds (ps := ["text"]) fun _ _ _ _ _ _ us hl => match us, hl with | [_], _ => rfl
  have F14 := fun_mk (st := sItemsBehind) l14 c14 k14
  have g14 := PySem.W.mg_of X G a14
  have b14 := F14.binds (ps := ["opening", "node"]) fun _ _ _ _ _ _ us hl => match us, hl with | [_, _], _ => rfl
  have F15 := fun_mk (st := sValueOf) l15 c15 k15
  have g15 := PySem.W.mg_of X G a15
  have b15 := F15.binds (ps := ["node"]) fun _ _ _ _ _ _ us hl => match us, hl with | [_], _ => rfl
  have F16 := fun_mk (st := sValueOfWord) l16 c16 k16
  have g16 := PySem.W.mg_of X G a16
  have b16 := F16.binds (ps := ["word"]) fun _ _ _ _ _ _ us hl => match us, hl with | [_], _ => rfl
  have F17 := fun_mk (st := sPool) l17 c17 k17
  have g17 := PySem.W.mg_of X G a17
  have b17 := F17.binds (ps := ["_law_script", "_law_k"]) fun _ _ _ _ _ _ us hl => match us, hl with | [_, _], _ => rfl
  have F18 := fun_mk (st := sDraw) l18 c18 k18
  have g18 := PySem.W.mg_of X G a18
  have b18 := F18.binds (ps := ["_law_pool_here", "_law_many"]) fun _ _ _ _ _ _ us hl => match us, hl with | [_, _], _ => rfl
  have F19 := fun_mk (st := sLText) l19 c19 k19
  have g19 := PySem.W.mg_of X G a19
  have b19 := F19.binds (ps := ["_law_worth"]) fun _ _ _ _ _ _ us hl => match us, hl with | [_], _ => rfl
  have F20 := fun_mk (st := sRandom) l20 c20 k20
  have g20 := PySem.W.mg_of X G a20
  have b20 := F20.binds (ps := ["_law_pool_here", "_law_levels"]) fun _ _ _ _ _ _ us hl => match us, hl with | [_, _], _ => rfl
  have F21 := fun_mk (st := sLItems) l21 c21 k21
  have g21 := PySem.W.mg_of X G a21
  have b21 := F21.binds (ps := ["_law_worth"]) fun _ _ _ _ _ _ us hl => match us, hl with | [_], _ => rfl
  have F22 := fun_mk (st := sTold) l22 c22 k22
  have g22 := PySem.W.mg_of X G a22
  have b22 := F22.binds (ps := ["_law_call"]) fun _ _ _ _ _ _ us hl => match us, hl with | [_], _ => rfl
  have F23 := fun_mk (st := sSpoilt) l23 c23 k23
  have g23 := PySem.W.mg_of X G a23
  have b23 := F23.binds (ps := ["_law_pool_here", "_law_text_here"]) fun _ _ _ _ _ _ us hl => match us, hl with | [_, _], _ => rfl
  have F24 := fun_mk (st := sLaw) l24 c24 k24
  have m_sum := PySem.W.mg_none_of X G z_sum
  have m_len := PySem.W.mg_none_of X G z_len
  have m_abs := PySem.W.mg_none_of X G z_abs
  have m_int := PySem.W.mg_none_of X G z_int
  have m_isinstance := PySem.W.mg_none_of X G z_isinstance
  have m_bool := PySem.W.mg_none_of X G z_bool
  have m_str := PySem.W.mg_none_of X G z_str
  have m_tuple := PySem.W.mg_none_of X G z_tuple
  have m_range := PySem.W.mg_none_of X G z_range
  have m_all := PySem.W.mg_none_of X G z_all
  have m_max := PySem.W.mg_none_of X G z_max
  have m_min := PySem.W.mg_none_of X G z_min
  have m_repr := PySem.W.mg_none_of X G z_repr
  have m_super := PySem.W.mg_none_of X G z_super
  have b24 := F24.binds (ps := ["_law_script"]) fun _ _ _ _ _ _ us hl => match us, hl with | [_], _ => rfl
  have v1 : ∃ t, mg "LETTERS_AND_DIGITS" = some (.str ldS t) := ⟨_, by rw [ldS_eq]; exact PySem.W.mg_of X G v_LETTERS_AND_DIGITS⟩
  have v2 : ∃ t, mg "INTEGER_BOUND" = some (.int (10 ^ 60) t) := ⟨_, by rw [bound_eq]; exact PySem.W.mg_of X G v_INTEGER_BOUND⟩
  have v3 : ∃ t, mg "LONGEST_TEXT" = some (.int 60 t) := ⟨_, PySem.W.mg_of X G v_LONGEST_TEXT⟩
  have v4 : ∃ t, mg "DEEPEST_LIST" = some (.int 5 t) := ⟨_, PySem.W.mg_of X G v_DEEPEST_LIST⟩
  have v5 : ∃ t, mg "MOST_VALUES" = some (.int 50 t) := ⟨_, PySem.W.mg_of X G v_MOST_VALUES⟩
  have v6 : ∃ t, mg "DIGITS" = some (.str dgS t) := ⟨_, by rw [dgS_eq]; exact PySem.W.mg_of X G v_DIGITS⟩
  have v7 : ∃ t, mg "MOST_DIGITS" = some (.int 60 t) := ⟨_, PySem.W.mg_of X G v_MOST_DIGITS⟩
  have v8 : ∃ t, mg "BRACKETS" = some (.str brS t) := ⟨_, by rw [brS_eq]; exact PySem.W.mg_of X G v_BRACKETS⟩
  have v9 : ∃ t, mg "TOO_DEEP" = some (.int 30 t) := ⟨_, PySem.W.mg_of X G v_TOO_DEEP⟩
  obtain ⟨bO, eO, kO⟩ := LT.strsW_of tO2
  cases eO
  obtain ⟨bC, eC, kC⟩ := LT.strsW_of tC2
  cases eC
  have TKx : TxtK mg := ⟨m_isinstance, m_bool, m_int, m_str, m_tuple⟩
  have TVx : TxtV mg := ⟨m_len, v1, v2, v3⟩
  have TIx : TxtI mg := ⟨m_sum, m_range, m_all, m_len, v4, v5⟩
  have TOx : TxtO mg := ⟨m_len, m_int, v6, v7⟩
  have TBx : TxtB mg := ⟨v8⟩
  have TNx : TxtN K mg := ⟨m_len, ⟨_, PySem.W.mg_of X G tO1, kO⟩, ⟨_, PySem.W.mg_of X G tC1, kC⟩, v9⟩
  have TXx : TxtX mg := ⟨m_str, m_len⟩
  have TLx : TxtL mg := ⟨m_isinstance, m_str, m_tuple, m_sum⟩
  refine ⟨cc, TT, _, _, _, us, l24, rfl, rfl, lc, rfl, t11, nT, hC, fun base z H a ns hbase hns TB hT hS hlen e0 => ?_⟩
  have GT : FnOk l.prog w K mg base CX0 2 f4 _ ["value"] (spB isText) := ok_isText F4 F1 b1 g1 TKx F5 b5 g5 TVx
  have GX : FnOk l.prog w K mg base CX0 3 f3 _ ["value"] (spB isPlain) := ok_isPlain F3 F1 b1 g1 TKx F4 b4 g4 GT TVx
  have GL : FnOk l.prog w K mg base CX0 4 f6 _ ["value"] spIsList := ok_isList F6 F1 b1 g1 TKx F3 b3 g3 GX TIx
  have GV : FnOk l.prog w K mg base CX0 5 f2 _ ["value"] spVal := ok_isVal F2 F1 b1 g1 TKx F6 b6 g6 GL F3 b3 g3 GX
  have GNo : FnOk l.prog w K mg base CX0 2 f12 _ ["text"] spNodes := ok_nodes F12 F13 b13 g13 TBx TNx
  have GWo : FnOk l.prog w K mg base CX0 2 f16 _ ["word"] spWord := ok_word F16 F5 b5 g5 TOx
  have GIt : FnOk l.prog w K mg base CX0 2 f14 _ ["opening", "node"] spItems := ok_items F14 F1 b1 g1 TKx
  have GVo : ∀ n : Nat, FnOk l.prog w K mg base CX0 (n + 3) f15 _ ["node"] (spVof n) := ok_valueOf (fO := f1) (fdO := PySem.W.fnOf "kind_of" "kind_of" (defArgs sKind) (defBody sKind) (defScope sKind) .none kV1 dc1 pm1 an1 cd1 ct1) F15 b15 g15 F1 b1 g1 TKx F16 b16 g16 GWo F14 b14 g14 GIt ⟨m_tuple⟩
  have GTx : ∀ n : Nat, FnOk l.prog w K mg base CX0 (n + 2) f11 _ ["value"] (spTx n) := ok_text F11 b11 g11 F1 b1 g1 TKx TXx
  have GRd : FnOk l.prog w K mg base CX0 35 f10 _ ["text"] spRead := ok_read F10 F12 b12 g12 GNo F15 b15 g15 GVo F2 b2 g2 GV F11 b11 g11 GTx TXx
  have GCs : FnOk l.prog w K mg base (L2.CX l.prog w) 4 f7 _ ["text"] (spCheckS CE) := ok_checkS F7 F1 b1 g1 TKx m_super IE.toEK
  have GFo : FnOk l.prog w K mg base (L2.CX l.prog w) 9 f8 _ ["value"] (spFormat CS) := ok_format F8 F2 b2 g2 GV F11 b11 g11 GTx m_super IS.toEK
  have GPa : FnOk l.prog w K mg base (L2.CX l.prog w) 36 f9 _ ["text"] (spParse CE) := ok_parse F9 F7 b7 g7 GCs F10 b10 g10 GRd m_super IE.toEK
  exact law_any F24 rfl b24 TB ⟨m_range, m_max, m_min, m_len, m_repr⟩ F22 b22 g22 IE IS nx F8 b8 g8 GFo F9 b9 g9 GPa F17 b17 g17 (ok_pool F17 ⟨m_sum, m_len, m_abs, m_int⟩) F20 b20 g20 (ok_random F20 b20 g20 F18 b18 g18 ⟨m_range, m_tuple⟩ 6) F21 b21 g21 (ok_lItems F21 b21 g21 TLx 6) F19 b19 g19 (ok_lText F19 b19 g19 TLx 6) F23 b23 g23 (ok_spoilt F23) hT hS hlen e0
end My

open PySem PySem.W PyProof.Rows in
set_option maxRecDepth 100000 in
set_option maxHeartbeats 0 in
theorem PySem.Challenge.cw_mendedruns_k76_texts_of_values_holds : PySem.Challenge.rw_mendedruns_k76_texts_of_values.Holds := by
  w_on; o_law; k_head; (case hw => w_witness2)
  k_fill
  refine My.walkG (l := PySem.Challenge.rw_mendedruns_k76_texts_of_values) rfl rfl ?R (fun w h Y => PySem.W.km_in_of Y) ?F
  case R => decide +kernel
  case F =>
    intro w mg fa h KX G hmg
    refine' My.all_mk KX G hmg ?a1 ?l1 ?c1 ?k1 ?a2 ?l2 ?c2 ?k2 ?a3 ?l3 ?c3 ?k3 ?a4 ?l4 ?c4 ?k4 ?a5 ?l5 ?c5 ?k5 ?a6 ?l6 ?c6 ?k6 ?a7 ?l7 ?c7 ?k7 ?a8 ?l8 ?c8 ?k8 ?a9 ?l9 ?c9 ?k9 ?a10 ?l10 ?c10 ?k10 ?a11 ?l11 ?c11 ?k11 ?a12 ?l12 ?c12 ?k12 ?a13 ?l13 ?c13 ?k13 ?a14 ?l14 ?c14 ?k14 ?a15 ?l15 ?c15 ?k15 ?a16 ?l16 ?c16 ?k16 ?a17 ?l17 ?c17 ?k17 ?a18 ?l18 ?c18 ?k18 ?a19 ?l19 ?c19 ?k19 ?a20 ?l20 ?c20 ?k20 ?a21 ?l21 ?c21 ?k21 ?a22 ?l22 ?c22 ?k22 ?a23 ?l23 ?c23 ?k23 ?a24 ?l24 ?c24 ?k24 ?z_sum ?z_len ?z_abs ?z_int ?z_isinstance ?z_bool ?z_str ?z_tuple ?z_range ?z_all ?z_max ?z_min ?z_repr ?z_super ?v_LETTERS_AND_DIGITS ?v_INTEGER_BOUND ?v_LONGEST_TEXT ?v_DEEPEST_LIST ?v_MOST_VALUES ?v_DIGITS ?v_MOST_DIGITS ?v_BRACKETS ?v_TOO_DEEP ?tO1 ?tO2 ?tC1 ?tC2 ?lc ?t11 ?nT ?hC ?IS ?IE ?nx
    (case a1 => k_is)
    (case l1 => k_is)
    (case c1 => k_is)
    (case k1 => k_is)
    (case a2 => k_is)
    (case l2 => k_is)
    (case c2 => k_is)
    (case k2 => k_is)
    (case a3 => k_is)
    (case l3 => k_is)
    (case c3 => k_is)
    (case k3 => k_is)
    (case a4 => k_is)
    (case l4 => k_is)
    (case c4 => k_is)
    (case k4 => k_is)
    (case a5 => k_is)
    (case l5 => k_is)
    (case c5 => k_is)
    (case k5 => k_is)
    (case a6 => k_is)
    (case l6 => k_is)
    (case c6 => k_is)
    (case k6 => k_is)
    (case a7 => k_is)
    (case l7 => k_is)
    (case c7 => k_is)
    (case k7 => k_is)
    (case a8 => k_is)
    (case l8 => k_is)
    (case c8 => k_is)
    (case k8 => k_is)
    (case a9 => k_is)
    (case l9 => k_is)
    (case c9 => k_is)
    (case k9 => k_is)
    (case a10 => k_is)
    (case l10 => k_is)
    (case c10 => k_is)
    (case k10 => k_is)
    (case a11 => k_is)
    (case l11 => k_is)
    (case c11 => k_is)
    (case k11 => k_is)
    (case a12 => k_is)
    (case l12 => k_is)
    (case c12 => k_is)
    (case k12 => k_is)
    (case a13 => k_is)
    (case l13 => k_is)
    (case c13 => k_is)
    (case k13 => k_is)
    (case a14 => k_is)
    (case l14 => k_is)
    (case c14 => k_is)
    (case k14 => k_is)
    (case a15 => k_is)
    (case l15 => k_is)
    (case c15 => k_is)
    (case k15 => k_is)
    (case a16 => k_is)
    (case l16 => k_is)
    (case c16 => k_is)
    (case k16 => k_is)
    (case a17 => k_is)
    (case l17 => k_is)
    (case c17 => k_is)
    (case k17 => k_is)
    (case a18 => k_is)
    (case l18 => k_is)
    (case c18 => k_is)
    (case k18 => k_is)
    (case a19 => k_is)
    (case l19 => k_is)
    (case c19 => k_is)
    (case k19 => k_is)
    (case a20 => k_is)
    (case l20 => k_is)
    (case c20 => k_is)
    (case k20 => k_is)
    (case a21 => k_is)
    (case l21 => k_is)
    (case c21 => k_is)
    (case k21 => k_is)
    (case a22 => k_is)
    (case l22 => k_is)
    (case c22 => k_is)
    (case k22 => k_is)
    (case a23 => k_is)
    (case l23 => k_is)
    (case c23 => k_is)
    (case k23 => k_is)
    (case a24 => k_is)
    (case l24 => k_is)
    (case c24 => k_is)
    (case k24 => k_is)
    (case z_sum => k_is)
    (case z_len => k_is)
    (case z_abs => k_is)
    (case z_int => k_is)
    (case z_isinstance => k_is)
    (case z_bool => k_is)
    (case z_str => k_is)
    (case z_tuple => k_is)
    (case z_range => k_is)
    (case z_all => k_is)
    (case z_max => k_is)
    (case z_min => k_is)
    (case z_repr => k_is)
    (case z_super => k_is)
    (case v_LETTERS_AND_DIGITS => k_is)
    (case v_INTEGER_BOUND => k_is)
    (case v_LONGEST_TEXT => k_is)
    (case v_DEEPEST_LIST => k_is)
    (case v_MOST_VALUES => k_is)
    (case v_DIGITS => k_is)
    (case v_MOST_DIGITS => k_is)
    (case v_BRACKETS => k_is)
    (case v_TOO_DEEP => k_is)
    (case tO1 => k_is)
    (case tO2 => kernel_rfl)
    (case tC1 => k_is)
    (case tC2 => kernel_rfl)
    (case lc => k_is)
    (case t11 => exact rfl)
    (case nT => kernel_rfl)
    (case hC => kernel_rfl)
    (case IS =>
        refine' My.et_mk My.bVE My.xtS KX G ?uISnoany ?uIStopS ?uIShn ?uISq ?uISov ?uISi1 ?uISi2 ?uISl ?uISc ?uISd ?uISfl ?uISce ?uISsp ?uISsB ?uISsC ?uISsa ?uIShd ?uIShf ?uISga ?uISgg ?uISeC ?uISty ?uISte ?uISkp
        (case uIShn => k_is)
        (case uISi1 => k_is)
        (case uISi2 => k_is)
        (case uISl => k_is)
        (case uISc => k_is)
        (case uISd => k_is)
        (case uISfl => exact ⟨_, _, rfl, by first | rfl | decide +kernel⟩)
        (case uISce => k_is)
        (case uISnoany => k_is)
        (case uIStopS => decide +kernel)
        (case uISq => kx_is)
        (case uISov => kx_is)
        (case uISsp => ks_is)
        (case uISsB => k_is)
        (case uISsC => k_is)
        (case uISsa => k_is)
        (case uIShd => k_is)
        (case uIShf => k_is)
        (case uISga => k_is)
        (case uISgg => k_is)
        (case uISeC => k_is)
        (case uISty => k_is)
        (case uISte => kernel_rfl)
        (case uISkp => k_is))
    (case IE =>
        refine' My.et_mk My.bVE My.xtE KX G ?uIEnoany ?uIEtopS ?uIEhn ?uIEq ?uIEov ?uIEi1 ?uIEi2 ?uIEl ?uIEc ?uIEd ?uIEfl ?uIEce ?uIEsp ?uIEsB ?uIEsC ?uIEsa ?uIEhd ?uIEhf ?uIEga ?uIEgg ?uIEeC ?uIEty ?uIEte ?uIEkp
        (case uIEhn => k_is)
        (case uIEi1 => k_is)
        (case uIEi2 => k_is)
        (case uIEl => k_is)
        (case uIEc => k_is)
        (case uIEd => k_is)
        (case uIEfl => exact ⟨_, _, rfl, by first | rfl | decide +kernel⟩)
        (case uIEce => k_is)
        (case uIEnoany => k_is)
        (case uIEtopS => decide +kernel)
        (case uIEq => kx_is)
        (case uIEov => kx_is)
        (case uIEsp => ks_is)
        (case uIEsB => k_is)
        (case uIEsC => k_is)
        (case uIEsa => k_is)
        (case uIEhd => k_is)
        (case uIEhf => k_is)
        (case uIEga => k_is)
        (case uIEgg => k_is)
        (case uIEeC => k_is)
        (case uIEty => k_is)
        (case uIEte => kernel_rfl)
        (case uIEkp => k_is))
    (case nx => kernel_rfl)
